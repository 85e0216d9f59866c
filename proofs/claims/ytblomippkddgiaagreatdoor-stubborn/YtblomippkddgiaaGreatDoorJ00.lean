import Derived.Test.YtblomippkddgiaaGreatDoorRows
import Derived.WalkKit
import Derived.WalkSpells
import Derived.WalkLawsBesides
import Derived.BigQuiet
import Derived.Deep.QuietTactic
import Derived.Lib.BufferWrite
import Derived.Lib.UnsafeStr
import Derived.Laws.MakeOwn
import Derived.Below
import Derived.Deep.RegionWith
import Derived.Maps.OwnSet
import Derived.Maps.AppendAt
set_option maxRecDepth 100000
set_option maxHeartbeats 1000000
namespace Go.Proofs.YtblomippkddgiaaGreatDoor
open Go.RowKit
def aqy:BitVec 16:=0x8005#16
def mv(w:BitVec 16):BitVec 16:=if w.msb then (w <<< 1) ^^^ aqy else w <<< 1
def aq4(b:UInt8):BitVec 16:=BitVec.ofNat 16 (b.toNat*256)
def mvs:Nat→BitVec 16→BitVec 16
 |0,w=>w
 |n+1,w=>mvs n (mv w)
def an0(w:BitVec 16)(b:UInt8):BitVec 16:=mvs 8 (w ^^^ aq4 b)
def ao9(w:BitVec 16)(l:List UInt8):BitVec 16:=l.foldl an0 w
def crc(l:List UInt8):BitVec 16:=ao9 0 l
theorem ah5(n:Nat)(w:BitVec 16):mvs (n+1) w=mv (mvs n w):=by
 induction n generalizing w with
 |zero=>rfl
 |succ n ih=>exact ih (mv w)
theorem aab{p:Prop}(h:p):Hid p:=h
theorem unhide{p:Prop}(h:Hid p):p:=h
abbrev str(l:List UInt8):ByteArray:=⟨l.toArray⟩
theorem str_size(l:List UInt8):(str l).size=l.length:=by simp[ByteArray.size]
theorem acb(n:Int):IntKind.u16.wrap n=n % 65536:=by
 simp[IntKind.wrap,IntKind.bits,IntKind.signed]
theorem acQ(a:BitVec 16):BitVec.ofInt 16 (a.toNat:Int)=a:=by simp
theorem ajG(a b:BitVec 16):bits .and .u16 (a.toNat:Int) (b.toNat:Int)=((a &&& b).toNat:Int):=by
 show IntKind.u16.wrap ((BitVec.ofInt 16 (a.toNat:Int) &&& BitVec.ofInt 16 (b.toNat:Int)).toNat:Int)=_
 rw[acQ,acQ,acb]
 have:=(a &&& b).isLt
 omega
theorem afa(a b:BitVec 16):bits .xor .u16 (a.toNat:Int) (b.toNat:Int)=((a ^^^ b).toNat:Int):=by
 show IntKind.u16.wrap ((BitVec.ofInt 16 (a.toNat:Int) ^^^ BitVec.ofInt 16 (b.toNat:Int)).toNat:Int)=_
 rw[acQ,acQ,acb]
 have:=(a ^^^ b).isLt
 omega
theorem aqv(a:BitVec 16):IntKind.u16.wrap ((a.toNat:Int)*2)=((a <<< 1).toNat:Int):=by
 rw[acb,BitVec.toNat_shiftLeft,Nat.shiftLeft_eq]
 omega
theorem aoD(a:BitVec 16):(((a &&& 0x8000#16).toNat:Int)==0)=!a.msb:=by
 have h1:(a &&& 0x8000#16)=if a.msb then 0x8000#16 else 0#16:=by
  apply BitVec.eq_of_getLsbD_eq
  intro i hi
  have hc:∀i,i<16→(0x8000#16).getLsbD i=(i==15):=by decide
  rw[BitVec.getLsbD_and,hc i hi]
  by_cases h15:i=15
  ·subst h15
   have:a.msb=a.getLsbD 15:=BitVec.msb_eq_getLsbD_last a
   rw[this]
   cases a.getLsbD 15 <;> decide
  ·have e:(i==15)=false:=by simpa using h15
   rw[e,Bool.and_false]
   split
   ·rw[hc i hi,e]
   ·simp
 rw[h1]
 cases a.msb <;> rfl
theorem ai3(x y z r:Int)(w:World)(h1:bits .and .u16 x 32768=y)(h2:(y==0)=false)(h3:IntKind.u16.wrap (x*2)=z)(h4:bits .xor .u16 z 32773=r) :
  Calls Tryz.prog 191 #[.int .u16 x] w fun e w'=>e=.returned (.int .u16 r)∧w'=w:=by
 go_enter Tryz.func191,Tryz.ntmps191
 go_wp2
 go_ret
 exact⟨rfl,rfl⟩
theorem ag9(x y z:Int)(w:World)(h1:bits .and .u16 x 32768=y)(h2:(y==0)=true)(h3:IntKind.u16.wrap (x*2)=z) :
  Calls Tryz.prog 191 #[.int .u16 x] w fun e w'=>e=.returned (.int .u16 z)∧w'=w:=by
 go_enter Tryz.func191,Tryz.ntmps191
 go_wp2
 go_ret
 exact⟨rfl,rfl⟩
theorem aeT(a:BitVec 16)(w:World):Calls Tryz.prog 191 #[.int .u16 (a.toNat:Int)] w fun e w'=>e=.returned (.int .u16 ((mv a).toNat:Int))∧w'=w:=by
 have h1:bits .and .u16 (a.toNat:Int) 32768=((a &&& 0x8000#16).toNat:Int):=ajG a 0x8000#16
 have h2:bits .xor .u16 ((a <<< 1).toNat:Int) 32773=(((a <<< 1) ^^^ aqy).toNat:Int):=afa (a <<< 1) 0x8005#16
 have h3:=aoD a
 have h4:=aqv a
 cases hm:a.msb with
 |true=>
  rw[hm]at h3
  have e:mv a=(a <<< 1) ^^^ aqy:=by simp[mv,hm]
  rw[e]
  exact ai3 _ _ _ _ w h1 h3 h4 h2
 |false=>
  rw[hm]at h3
  have e:mv a=(a <<< 1):=by simp[mv,hm]
  rw[e]
  exact ag9 _ _ _ w h1 h3 h4
theorem alZ(a:BitVec 16)(c:Nat)(h:c<256):bits .xor .u16 (a.toNat:Int) ((c:Int)*256)=((a ^^^ BitVec.ofNat 16 (c*256)).toNat:Int):=by
 have e:((c:Int)*256)=((BitVec.ofNat 16 (c*256)).toNat:Int):=by
  rw[BitVec.toNat_ofNat]
  omega
 rw[e]
 exact afa a _
theorem aiJ(S:ByteArray)(g:Nat→Int)(F:Nat→Nat→Int)(w:World)(hs:S.size≤1000000)(g0:g 0=0)
  (hF0:∀j (h:j<S.size),bits .xor .u16 (g j) ((S[j].toNat:Int)*256)=F j 0) (hF8:∀j,j<S.size→F j 8=g (j+1))
  (HM:Hid (∀j k (w:World),Calls Tryz.prog 191 #[.int .u16 (F j k)] w fun e w'=>e=.returned (.int .u16 (F j (k+1)))∧w'=w)) (hg:0≤g S.size∧g S.size<65536) :
  Calls Tryz.prog 119 #[.string S] w fun e w'=>e=.returned (.int .i64 (g S.size))∧w'=w:=by
 have HF0:=aab hF0
 have HF8:=aab hF8
 have HG:=aab hg
 clear hF0 hF8 hg
 go_enter Tryz.func119,Tryz.ntmps119
 go_wp2
 go_loopw [3,7] (fun wv iv wr=>∃i:Nat,i≤S.size∧iv=.int .i64 i∧wv=.int .u16 (g i)∧wr=w) (fun _ iv _=>S.size-(intOf iv).toNat)
 case atStart=>exact⟨0,Nat.zero_le _,rfl,by rw[g0],rfl⟩
 case round=>
  obtain⟨i,hi,rfl,rfl,rfl⟩:=hrel
  by_cases hlt:i<S.size
  ·have h0:=(unhide HF0) i hlt
   have hc:=S[i].toNat_lt
   have h8:=aab ((unhide HF8) i hlt)
   go_wp2
   go_loopw [3,17] (fun wv kv wr'=>∃k:Nat,k≤8∧kv=.int .i64 k∧wv=.int .u16 (F i k)∧wr'=wr) (fun _ kv _=>8-(intOf kv).toNat)
   case atStart=>exact⟨0,Nat.zero_le _,rfl,rfl,rfl⟩
   case round=>
    obtain⟨k,hk,rfl,rfl,rfl⟩:=hrel
    by_cases hk8:k<8
    ·have hki:(k:Int)<8:=by omega
     go_wp2_with (go_at_call 191;refine((unhide HM) _ _ _).mono ?_;rintro e w2 ⟨rfl,rfl⟩)
     go_roundw
     case rel=>exact⟨k+1,by omega,by go_num,rfl,trivial⟩
     case measure=>simp[intOf];omega
    ·have hke:k=8:=by omega
     subst hke
     rw[unhide h8]
     go_wp2
     go_roundw
     case rel=>exact⟨i+1,by omega,by go_num,rfl,trivial⟩
     case measure=>simp[intOf];omega
  ·have hie:i=S.size:=by omega
   subst hie
   obtain⟨n1,n2⟩:=unhide HG
   go_wp2
   go_ret
   exact⟨rfl,rfl⟩
def apj(l:List UInt8)(j:Nat):Int:=((crc (l.take j)).toNat:Int)
def apk(l:List UInt8)(j k:Nat):Int:=match l[j]? with
 |some b=>((mvs k (crc (l.take j) ^^^ aq4 b)).toNat:Int)
 |none=>((mvs k 0).toNat:Int)
theorem ajN(l:List UInt8)(j k:Nat)(w:World):Calls Tryz.prog 191 #[.int .u16 (apk l j k)] w fun e w'=>e=.returned (.int .u16 (apk l j (k+1)))∧w'=w:=by
 unfold apk
 split
 ·rw[ah5]
  exact aeT _ w
 ·rw[ah5]
  exact aeT _ w
theorem agL(l:List UInt8)(j:Nat)(h:j<(str l).size):l[j]?=some ((str l)[j]):=by
 have hl:j<l.length:=by rw[str_size]at h;exact h
 rw[List.getElem?_eq_getElem hl]
 rfl
theorem adT(l:List UInt8)(w:World)(hl:l.length≤1000000):Calls Tryz.prog 119 #[.string (str l)] w fun e w'=>e=.returned (.int .i64 ((crc l).toNat:Int))∧w'=w:=by
 have h:=aiJ (str l) (apj l) (apk l) w (by rw[str_size];exact hl) rfl ?_ ?_ (aab (ajN l)) ?_
 ·have e:apj l (str l).size=((crc l).toNat:Int):=by
   unfold apj
   rw[str_size,List.take_length]
  rw[e]at h
  exact h
 ·intro j hj
  have hg:=agL l j hj
  unfold apj apk
  rw[hg,alZ _ _ (UInt8.toNat_lt _)]
  rfl
 ·intro j hj
  have hg:=agL l j hj
  unfold apk apj
  rw[hg,List.take_add_one,hg,Option.toList_some]
  show _=(((l.take j++[(str l)[j]]).foldl an0 0).toNat:Int)
  rw[List.foldl_append]
  rfl
 ·unfold apj
  have:=(crc (l.take (str l).size)).isLt
  omega
structure Pk where
 kind:Int
 client:Int
 life:Int
 line:Int
 seq:Int
 uid:Int
 part:Int
 off:Int
 please:Bool
 body:List UInt8
def bodyOk(p:Pk):Prop:=if p.kind=1∨p.kind=5 then (if p.part<p.off-1 then p.body.length=8 else p.body.length≤8) else p.body.length=0
instance (p:Pk):Decidable (bodyOk p):=by unfold bodyOk;infer_instance
def aaj(p:Pk):Prop:=(1≤p.kind∧p.kind≤7)∧(0≤p.client∧p.client≤2)∧(1≤p.life∧p.life≤255)∧(0≤p.line∧p.line≤2)∧(1≤p.seq∧p.seq≤999)∧(1≤p.uid∧p.uid≤255)∧(1≤p.off∧p.off≤9)∧(0≤p.part∧p.part≤p.off-1)∧bodyOk p
instance (p:Pk):Decidable (aaj p):=by unfold aaj;infer_instance
theorem afA{p:Pk}(h:aaj p):p.body.length≤8:=by
 obtain⟨_,_,_,_,_,_,_,_,h⟩:=h
 unfold bodyOk at h
 split at h
 ·split at h <;> omega
 ·omega
def b8(n:Int):UInt8:=UInt8.ofNat n.toNat
theorem aaA{n:Int}(h0:0≤n)(h1:n≤255):((b8 n).toNat:Int)=n:=by
 unfold b8
 rw[UInt8.toNat_ofNat_of_lt' (by show n.toNat<256;omega)]
 omega
theorem alI(c:UInt8):b8 (c.toNat:Int)=c:=by
 unfold b8
 simp
theorem an1{a b:Int}(a0:0≤a)(a1:a≤255)(b0:0≤b)(b1:b≤255)(h:b8 a=b8 b):a=b:=by
 have:=congrArg (fun c=>((UInt8.toNat c:Nat):Int)) h
 simp only[aaA a0 a1,aaA b0 b1]at this
 exact this
def two8(n:Int):List UInt8:=[b8 (n / 256),b8 (n % 256)]
def num2(a c:UInt8):Int:=(a.toNat:Int)*256+(c.toNat:Int)
theorem ah2{n:Int}(h0:0≤n)(h1:n≤65535):num2 (b8 (n / 256)) (b8 (n % 256))=n:=by
 unfold num2
 rw[aaA (by omega) (by omega),aaA (by omega) (by omega)]
 omega
theorem al7(a c:UInt8):two8 (num2 a c)=[a,c]:=by
 unfold two8 num2
 have ha:=a.toNat_lt
 have hc:=c.toNat_lt
 rw[show ((a.toNat:Int)*256+(c.toNat:Int)) / 256=(a.toNat:Int) by omega,show ((a.toNat:Int)*256+(c.toNat:Int)) % 256=(c.toNat:Int) by omega,alI,alI]
theorem al8{a b:Int}(a0:0≤a)(a1:a≤65535)(b0:0≤b)(b1:b≤65535)(h:two8 a=two8 b):a=b:=by
 unfold two8 at h
 simp only[List.cons.injEq,and_true]at h
 have h1:=an1 (by omega) (by omega) (by omega) (by omega) h.1
 have h2:=an1 (by omega) (by omega) (by omega) (by omega) h.2
 omega
def yes(b:Bool):Int:=if b then 1 else 0
def apU(p:Pk):List Int:=[p.kind,p.client,p.life,p.line,p.seq / 256,p.seq % 256,p.uid,p.part,p.off,yes p.please,(p.body.length:Int)]
def abl(p:Pk):List UInt8:=(apU p).map b8++p.body
def aex(l:List UInt8):Int:=((crc l).toNat:Int)
theorem ahw(l:List UInt8):0≤aex l∧aex l≤65535:=by
 unfold aex
 have:=(crc l).isLt
 omega
def aa3(p:Pk):List UInt8:=abl p++two8 (aex (abl p))
theorem ads(p:Pk):(abl p).length=11+p.body.length:=by
 unfold abl apU
 simp
 omega
theorem afT(p:Pk):(aa3 p).length=13+p.body.length:=by
 unfold aa3
 rw[List.length_append,ads]
 simp[two8]
 omega
def aaF:List UInt8→Option (Pk×List UInt8)
 |k :: c :: li :: ln :: s1 :: s2 :: u :: pa :: o :: f :: L :: r=>
  if f.toNat≤1∧L.toNat≤r.length then some (⟨k.toNat,c.toNat,li.toNat,ln.toNat,num2 s1 s2,u.toNat,pa.toNat,o.toNat,(f.toNat:Int)==1,r.take L.toNat⟩,r.drop L.toNat) else none
 |_=>none
def sumP(l r:List UInt8):Option (List UInt8):=match r with
 |a :: b :: t=>if num2 a b=aex (l.take (l.length-r.length)) then some t else none
 |_=>none
def abn(l:List UInt8):Option Pk:=match aaF l with
 |none=>none
 |some (p,r)=>if aaj p then (match sumP l r with|some []=>some p|_=>none) else none
theorem aed{l:List UInt8}{p:Pk}{r:List UInt8}(h:aaF l=some (p,r)):l=abl p++r:=by
 unfold aaF at h
 split at h
 ·rename_i k c li ln s1 s2 u pa o f L t
  split at h
  ·rename_i hc
   simp only[Option.some.injEq,Prod.mk.injEq]at h
   obtain⟨rfl,rfl⟩:=h
   unfold abl apU
   have ha:=s1.toNat_lt
   have hb:=s2.toNat_lt
   have hf:b8 (yes ((f.toNat:Int)==1))=f:=by
    have:f.toNat=0∨f.toNat=1:=by omega
    rcases this with h|h
    ·have e:f=0:=UInt8.toNat_inj.1 h
     subst e;rfl
    ·have e:f=1:=UInt8.toNat_inj.1 h
     subst e;rfl
   have hL:((List.take L.toNat t).length:Int)=(L.toNat:Int):=by
    rw[List.length_take]
    omega
   have h1:num2 s1 s2 / 256=(s1.toNat:Int):=by unfold num2;omega
   have h2:num2 s1 s2 % 256=(s2.toNat:Int):=by unfold num2;omega
   simp only[List.map_cons,List.map_nil,hL,hf,h1,h2,alI,List.cons_append,List.nil_append,List.take_append_drop]
  ·cases h
 ·cases h
theorem ahm{p:Pk}(h:aaj p):aaF (aa3 p)=some (p,two8 (aex (abl p))):=by
 have hb:=afA h
 obtain⟨h1,h2,h3,h4,h5,h6,h7,h8,_⟩:=h
 unfold aa3
 generalize hT:two8 (aex (abl p))=T
 have hTl:T.length=2:=by rw[←hT];rfl
 clear hT
 unfold abl apU
 simp only[List.map_cons,List.map_nil,List.cons_append,List.nil_append]
 unfold aaF
 obtain⟨kind,client,life,line,seq,uid,part,off,please,body⟩:=p
 simp only at hb h1 h2 h3 h4 h5 h6 h7 h8 ⊢
 have e1:=aaA (n:=kind) (by omega) (by omega)
 have e2:=aaA (n:=client) (by omega) (by omega)
 have e3:=aaA (n:=life) (by omega) (by omega)
 have e4:=aaA (n:=line) (by omega) (by omega)
 have e5:=ah2 (n:=seq) (by omega) (by omega)
 have e6:=aaA (n:=uid) (by omega) (by omega)
 have e7:=aaA (n:=part) (by omega) (by omega)
 have e8:=aaA (n:=off) (by omega) (by omega)
 have e9:((b8 (yes please)).toNat:Int)=yes please:=aaA (by unfold yes;split <;> omega) (by unfold yes;split <;> omega)
 have e10:=aaA (n:=(body.length:Int)) (by omega) (by omega)
 have e11:(b8 (body.length:Int)).toNat=body.length:=by omega
 rw[if_pos]
 ·rw[e1,e2,e3,e4,e5,e6,e7,e8,e9,e11,List.take_append_of_le_length (Nat.le_refl _),List.take_length,List.drop_append_of_le_length (Nat.le_refl _),List.drop_length,List.nil_append]
  cases please <;> rfl
 ·refine⟨?_,?_⟩
  ·unfold yes at e9
   split at e9 <;> (unfold yes;simp_all;try omega)
  ·rw[e11,List.length_append]
   omega
theorem adQ(m t:List UInt8):(m++t).take ((m++t).length-t.length)=m:=by
 rw[List.length_append,Nat.add_sub_cancel,List.take_left]
theorem aky(l:List UInt8)(p:Pk):abn l=some p↔aaj p∧l=aa3 p:=by
 constructor
 ·intro h
  unfold abn at h
  cases hf:aaF l with
  |none=>rw[hf]at h;cases h
  |some x=>
   obtain⟨q,r⟩:=x
   have hl:=aed hf
   rw[hf]at h
   simp only at h
   split at h
   ·rename_i hr
    split at h
    ·rename_i hs
     cases h
     refine⟨hr,?_⟩
     unfold sumP at hs
     split at hs
     ·rename_i a b t
      split at hs
      ·rename_i hn
       cases hs
       have e:l.take (l.length - [a,b].length)=abl p:=by rw[hl];exact adQ _ _
       rw[e]at hn
       unfold aa3
       rw[hl,←hn,al7]
      ·cases hs
     ·cases hs
    ·cases h
   ·cases h
 ·rintro ⟨hr,rfl⟩
  unfold abn
  rw[ahm hr]
  simp only
  rw[if_pos hr]
  have hc:=ahw (abl p)
  have e:sumP (aa3 p) (two8 (aex (abl p)))=some []:=by
   have e2:(aa3 p).take ((aa3 p).length-(two8 (aex (abl p))).length)=abl p:=adQ _ _
   have e3:=ah2 hc.1 hc.2
   show (if num2 (b8 (aex (abl p) / 256)) (b8 (aex (abl p) % 256))=aex ((aa3 p).take ((aa3 p).length-(two8 (aex (abl p))).length)) then some [] else none)=some []
   rw[e2,e3,if_pos rfl]
  rw[e]
theorem acl{p:Pk}(h:aaj p):abn (aa3 p)=some p:=(aky _ _).2 ⟨h,rfl⟩
abbrev aaw(n q:Nat):Value:=.agg #[.int .i64 n,.int .i64 q]
abbrev aaf(n q:Nat):Ending:=.panicked [{v:=.iface 86 (aaw n q),recovered:=false}]
theorem lt_of_block{w:World}{k:Nat}{o:Obj}(h:w.heap[k]?=some o):k<w.heap.size:=by
 rcases Nat.lt_or_ge k w.heap.size with hh|hh
 ·exact hh
 ·rw[Array.getElem?_eq_none hh]at h
  cases h
theorem aaM(l:List UInt8)(a b:Nat):(str l).extract a b=str ((l.drop a).take (b-a)):=by
 apply ByteArray.ext
 simp[ByteArray.data_extract,List.extract_eq_take_drop]
def u8s(l:List UInt8):List Value:=l.map fun c=>Value.int .u8 (c.toNat:Int)
theorem ahf:(Tryz.prog.info? 5).map (fun i=>(i.zero,i.size,i.bytes))=some (some (.int .u8 0),1,1):=by kernel_rfl
theorem ac5(w:World)(l:List UInt8)(M:Array Value)(hM:M.size=l.length) :
  (Builtin.copy_ #[199,9] 3 #[.slice (some ⟨w.heap.size,0,none⟩) l.length l.length,.string (str l)]).run Tryz.prog (w.alloc (.cells M 5))=.ok (goInt l.length) ((w.alloc (.cells M 5)).setRow w.heap.size (u8s l).toArray):=by
 have h:=Lib.run_copy_row_string (P:=Tryz.prog) (w.alloc (.cells M 5)) 199 9 3 5 w.heap.size 0 l.length l.length (str l) M 5 Tryz.underlying199 (by kernel_rfl) (heap_alloc_new w _) (by rw[str_size];exact Nat.le_refl _) (by rw[str_size];omega)
 rw[str_size]at h
 have e:M.toList.drop (0+l.length)=[]:=List.drop_of_length_le (by rw[Array.length_toList];omega)
 have e2:M.toList.take 0++Lib.byteCells (str l).data.toList++M.toList.drop (0+l.length)=u8s l:=by
  rw[e,List.take_zero,List.nil_append,List.append_nil]
  rfl
 rw[e2]at h
 exact h
theorem adg(w:World)(M:Array Value)(Y:Array Value)(n:Nat):Below w.heap.size w (((w.alloc (.cells M 5)).setRow w.heap.size Y).freeze ⟨w.heap.size,0,none⟩ n):=by
 refine Lib.below_freeze (p:=⟨w.heap.size,0,none⟩) ?_ (Nat.le_refl _) _
 exact((Below.refl w.heap.size w).alloc (Nat.le_refl _) _).trans ⟨rfl,rfl,rfl,by simp[World.setRow],fun k hk=>setRow_other _ _ _ _ (by omega)⟩
theorem ac3(w:World)(l:List UInt8)(M:Array Value)(h0:l≠[])(hl:l.length≤1000) :
  (Builtin.unsafeString_ #[338,3] 9 #[.pointer (some ⟨w.heap.size,0,none⟩),.int .i64 l.length]).run Tryz.prog ((w.alloc (.cells M 5)).setRow w.heap.size (u8s l).toArray)=.ok (.string (str l)) (((w.alloc (.cells M 5)).setRow w.heap.size (u8s l).toArray).freeze ⟨w.heap.size,0,none⟩ l.length):=by
 have hg:=setRow_heap (w.alloc (.cells M 5)) w.heap.size M (u8s l).toArray 5 (0,0) (heap_alloc_new w _)
 have hsz:(u8s l).toArray.size=l.length:=by simp[u8s]
 refine Lib.run_unsafeString_row (P:=Tryz.prog) _ 338 3 9 5 Tryz.underlying338 (by kernel_rfl) w.heap.size l.length ?_ l h0 (Nat.le_refl _) (by omega) fun j x hx=>?_
 ·unfold World.shape?
  rw[hg]
  simp[u8s]
 ·refine Lib.cells_of_row hg l.length j _ ?_
  rw[List.toList_toArray,List.take_of_length_le (by simp[u8s])]
  unfold u8s
  rw[List.getElem?_map,hx]
  rfl
theorem aeg(l:List UInt8)(w:World)(hl:l.length≤1000):Calls Tryz.prog 229 #[.string (str l)] w fun e w'=>e=.returned (.string (str l))∧Below w.heap.size w w':=by
 have hsz:=str_size l
 by_cases h0:l=[]
 ·subst h0
  go_enter Tryz.func229,Tryz.ntmps229
  go_wp2
  go_ret
  exact⟨rfl,Below.refl _ _⟩
 ·obtain⟨i0,hi,hz0,hz1,hz2⟩:=info_parts ahf
  have hpos:0<l.length:=List.length_pos_iff.2 h0
  obtain⟨M,hM⟩:∃M,M=madeCells (Value.int .u8 0).cells (l.length*1):=⟨_,rfl⟩
  have hMs:M.size=l.length:=by rw[hM,size_madeCells];omega
  have hmk:∀W:World,(Instr.makeSlice 199 (.int .i64 (l.length:Int)) (.int .i64 (l.length:Int))).run Tryz.prog W=.ok (.slice (some ⟨W.heap.size,0,none⟩) l.length l.length) (W.alloc (.cells M 5)):=fun W=>by
   have h:=run_make (P:=Tryz.prog) W 199 5 i0 (.int .u8 0) Tryz.underlying199 hi hz0 .i64 .i64 (l.length:Int) (l.length:Int) (by omega) (Int.le_refl _) (by rw[hz2];omega) (by omega)
   rw[hz1,Int.toNat_natCast,←hM]at h
   exact h
  have hcp:=ac5 w l M hMs
  have hus:=ac3 w l M h0 hl
  have HB:=aab (adg w M (u8s l).toArray l.length)
  have hne:((l.length:Int)==0)=false:=by simp;omega
  generalize hY:(u8s l).toArray=Y at *
  generalize hS:str l=S at *
  clear hM hY h0 hS
  generalize l.length=n at *
  subst hsz
  go_enter Tryz.func229,Tryz.ntmps229
  go_wp2
  go_ret
  exact⟨rfl,unhide HB⟩
theorem abw(l:List UInt8)(w:World)(hl:l.length≤1000):Calls Tryz.prog 184 #[.string (str l)] w fun e w'=>e=.returned (.string (str l))∧Below w.heap.size w w':=by
 have H:=aab (aeg l w hl)
 generalize hS:str l=S at *
 clear hS
 go_enter Tryz.func184,Tryz.ntmps184
 go_wp2_with fail
 refine(unhide H).mono ?_
 rintro e w1 ⟨rfl,hb⟩
 go_wp2
 go_ret
 exact⟨rfl,hb⟩
def Rd(w:World)(b:Nat)(l:List UInt8):Prop:=w.heap[b]?=some (.cells #[.string (str l),.int .i64 7] 127 (0,0))
theorem Rd.left{w:World}{b:Nat}{l:List UInt8}(h:Rd w b l):w.cell? ⟨b,0,none⟩=some (.string (str l)):=by
 unfold Rd at h
 simp[World.cell?,h]
theorem Rd.wrong{w:World}{b:Nat}{l:List UInt8}(h:Rd w b l):w.cell? ⟨b,1,none⟩=some (.int .i64 7):=by
 unfold Rd at h
 simp[World.cell?,h]
theorem Rd.thaw{w:World}{b:Nat}{l:List UInt8}(h:Rd w b l)(o:Nat):w.frozen? ⟨b,o,none⟩=false:=by
 unfold Rd at h
 simp[World.frozen?,h]
theorem Rd.lt{w:World}{b:Nat}{l:List UInt8}(h:Rd w b l):b<w.heap.size:=lt_of_block h
theorem Rd.set{w:World}{b:Nat}{l:List UInt8}(h:Rd w b l)(l':List UInt8):Rd (w.setCell ⟨b,0,none⟩ (.string (str l'))) b l':=by
 unfold Rd at h ⊢
 simp only[World.setCell,Array.getElem?_modify,h]
 simp
theorem Rd.below{w w':World}{b B:Nat}{l:List UInt8}(h:Rd w b l)(hb:Below B w w')(hB:b<B):Rd w' b l:=by
 unfold Rd at h ⊢
 rw[hb.block b hB]
 exact h
theorem aaG(b:Nat)(l:List UInt8)(w:World)(h:Rd w b l):Calls Tryz.prog 120 #[.pointer (some ⟨b,0,none⟩)] w fun e w'=>e=aaf 7 0∧w'=w:=by
 have h1:=h.wrong
 clear h
 go_enter Tryz.func120,Tryz.ntmps120
 go_wp2
 exact⟨rfl,rfl,rfl⟩
theorem ab0(b:Nat)(l:List UInt8)(n:Nat)(w:World)(h:Rd w b l)(hn:n≤l.length)(hl:l.length≤9223372036854775807) :
  Calls Tryz.prog 190 #[.pointer (some ⟨b,0,none⟩),.int .i64 n] w fun e w'=>e=.returned (.string (str (l.take n)))∧w'=w.setCell ⟨b,0,none⟩ (.string (str (l.drop n))):=by
 have h1:=h.left
 have h2:=h.thaw 0
 have hsz:=str_size l
 have e1:(str l).extract 0 n=str (l.take n):=by rw[aaM];simp
 have e2:(str l).extract n (str l).size=str (l.drop n):=by
  rw[aaM,str_size,List.take_of_length_le (by rw[List.length_drop];omega)]
 generalize hS:str l=S at *
 generalize hA:str (l.take n)=A at *
 generalize hB:str (l.drop n)=B at *
 clear hS hA hB h
 generalize l.length=m at *
 subst hsz
 have hlt:¬((S.size:Int)<(n:Int)):=by omega
 go_enter Tryz.func190,Tryz.ntmps190
 go_wp2
 go_ret
 exact⟨rfl,rfl⟩
theorem adP(b:Nat)(l:List UInt8)(n:Nat)(w:World)(h:Rd w b l)(hn:¬n≤l.length) :
  Calls Tryz.prog 190 #[.pointer (some ⟨b,0,none⟩),.int .i64 n] w fun e w'=>e=aaf 7 0∧w'=w:=by
 have h1:=h.left
 have hsz:=str_size l
 have HN:=aab (aaG b l w h)
 generalize hS:str l=S at *
 clear hS h
 have hlt:((S.size:Int)<(n:Int)):=by omega
 clear hn hsz
 go_enter Tryz.func190,Tryz.ntmps190
 go_wp2_with fail
 refine(unhide HN).mono ?_
 rintro e w1 ⟨rfl,rfl⟩
 go_wp2
 exact⟨rfl,rfl,rfl⟩
structure Only(b:Nat)(w w':World):Prop where
 below:Below b w w'
 size:w.heap.size≤w'.heap.size
 block:∀k,k<w.heap.size→k≠b→w'.heap[k]?=w.heap[k]?
theorem Only.refl(b:Nat)(w:World):Only b w w:=⟨Below.refl _ _,Nat.le_refl _,fun _ _ _=>rfl⟩
theorem Only.trans{b:Nat}{u v w:World}(h:Only b u v)(k:Only b v w):Only b u w:=⟨h.below.trans k.below,Nat.le_trans h.size k.size,fun i hi hb=>(k.block i (Nat.lt_of_lt_of_le hi h.size) hb).trans (h.block i hi hb)⟩
theorem Only.set(b o:Nat)(w:World)(x:Value):Only b w (w.setCell ⟨b,o,none⟩ x):=⟨(Below.refl _ _).setCell (by simp) _,by simp,fun _ _ hk=>Below.heap_setCell _ _ _ _ (by simpa using hk)⟩
theorem Only.of_below{b:Nat}{w w':World}(h:Below w.heap.size w w')(hb:b≤w.heap.size):Only b w w':=⟨h.mono hb,h.size,fun k hk _=>h.block k hk⟩
def aq0(b:Nat)(l:List UInt8)(w:World)(e:Ending)(w':World):Prop:=Only b w w'∧((l=[]∧e=aaf 7 0)∨∃c r,l=c :: r∧e=.returned (.int .i64 (c.toNat:Int))∧Rd w' b r)
theorem acY(b:Nat)(l:List UInt8)(w:World)(h:Rd w b l)(hl:l.length≤9223372036854775807):Calls Tryz.prog 113 #[.pointer (some ⟨b,0,none⟩)] w (aq0 b l w):=by
 cases l with
 |nil=>
  have H:=aab (adP b [] 1 w h (by simp))
  clear h
  go_enter Tryz.func113,Tryz.ntmps113
  go_wp2_with fail
  refine(unhide H).mono ?_
  rintro e w1 ⟨rfl,rfl⟩
  go_wp2
  exact⟨rfl,Only.refl _ _,Or.inl ⟨rfl,rfl⟩⟩
 |cons c r=>
  have H:=aab (ab0 b (c :: r) 1 w h (by simp) hl)
  have HS:=aab (h.set r)
  rw[show (c :: r).take 1=[c] from rfl,show (c :: r).drop 1=r from rfl]at H
  have i0:(str [c])[0]'(by rw[str_size];simp)=c:=rfl
  have hc:=c.toNat_lt
  have hw:wrap64 (c.toNat:Int)=(c.toNat:Int):=by unfold wrap64;omega
  clear h
  go_enter Tryz.func113,Tryz.ntmps113
  go_wp2_with fail
  refine(unhide H).mono ?_
  rintro e w1 ⟨rfl,rfl⟩
  go_wp2
  go_ret
  exact⟨Only.set _ _ _ _,Or.inr ⟨c,r,rfl,rfl,unhide HS⟩⟩
abbrev aai:=Nat→Prop
structure Keeps(F:aai)(w w':World):Prop where
 os:w'.os=w.os
 tape:w'.tape=w.tape
 output:w'.output=w.output
 size:w.heap.size≤w'.heap.size
 block:∀k,k<w.heap.size→¬F k→w'.heap[k]?=w.heap[k]?
theorem Keeps.refl(F:aai)(w:World):Keeps F w w:=⟨rfl,rfl,rfl,Nat.le_refl _,fun _ _ _=>rfl⟩
theorem Keeps.mono{F G:aai}{w w':World}(h:Keeps F w w')(hG:∀k,k<w.heap.size→F k→G k):Keeps G w w':=⟨h.os,h.tape,h.output,h.size,fun k hk hn=>h.block k hk (fun hf=>hn (hG k hk hf))⟩
theorem Keeps.andThen{F G:aai}{a b c:World}(h:Keeps F a b)(k:Keeps G b c)(hG:∀i,i<a.heap.size→G i→F i):Keeps F a c:=
 ⟨k.os.trans h.os,k.tape.trans h.tape,k.output.trans h.output,Nat.le_trans h.size k.size,fun i hi hn=>(k.block i (Nat.lt_of_lt_of_le hi h.size) (fun hg=>hn (hG i hi hg))).trans (h.block i hi hn)⟩
theorem Keeps.trans{F:aai}{a b c:World}(h:Keeps F a b)(k:Keeps F b c):Keeps F a c:=h.andThen k (fun _ _ h=>h)
theorem Keeps.ofBelow{w w':World}(h:Below w.heap.size w w')(F:aai):Keeps F w w':=⟨h.os,h.tape,h.output,h.size,fun k hk _=>h.block k hk⟩
theorem Keeps.below{F:aai}{w w':World}(h:Keeps F w w'){B:Nat}(hB:B≤w.heap.size)(hF:∀k,F k→B≤k):Below B w w':=⟨h.os,h.tape,h.output,h.size,fun k hk=>h.block k (Nat.lt_of_lt_of_le hk hB) (fun hf=>by have:=hF k hf;omega)⟩
theorem Keeps.drew{F:aai}{a w:World}(h:Keeps F a w):Keeps F a w.drew:=⟨h.os,h.tape,h.output,h.size,h.block⟩
theorem Keeps.alloc{F:aai}{a w:World}(h:Keeps F a w)(o:Obj):Keeps F a (w.alloc o):=
 h.trans ⟨rfl,rfl,rfl,by simp,fun k hk _=>Below.heap_alloc _ _ _ hk⟩
theorem Keeps.setCell{F:aai}{a w:World}(h:Keeps F a w){p:Addr}(hp:F p.block∨a.heap.size≤p.block)(u:Value):Keeps F a (w.setCell p u):=
 ⟨h.os,h.tape,h.output,by simpa [World.setCell] using h.size,fun k hk hn=>by
  rw[Below.heap_setCell _ _ _ _ (fun e=>by
   subst e
   rcases hp with hp|hp
   ·exact hn hp
   ·omega)]
  exact h.block k hk hn⟩
theorem Keeps.grown{F:aai}{a w w':World}{row:Option Nat}(h:Keeps F a w)(hg:w.grownBy w' row)(hr:∀k,row=some k→F k∨a.heap.size≤k):Keeps F a w':=
 ⟨hg.os.trans h.os,hg.tape.trans h.tape,hg.output.trans h.output,Nat.le_trans h.size hg.size,fun k hk hn=>by
  rw[hg.block k (Nat.lt_of_lt_of_le hk h.size) (fun e=>by
   rcases hr k e.symm with q|q
   ·exact hn q
   ·omega)]
  exact h.block k hk hn⟩
theorem Keeps.at{F:aai}{w w':World}(h:Keeps F w w'){k:Nat}{o:Obj}(hk:w.heap[k]?=some o)(hn:¬F k):w'.heap[k]?=some o:=by
 rw[h.block k (Array.getElem?_eq_some_iff.1 hk).1 hn]
 exact hk
theorem Keeps.row{F:aai}{w w':World}(h:Keeps F w w'){B n size:Nat}{e:TypeId}{v:Value}{xs:List Value}(hr:w.ownsRow B e size v n xs)(hn:∀j,v.ownBlock=some j→¬F j):w'.ownsRow B e size v n xs:=by
 obtain⟨hl,hr⟩:=hr
 refine⟨hl,?_⟩
 rcases hr with hr|⟨g,cap,cur,rfl,hb,hg,r⟩
 ·exact Or.inl hr
 ·exact Or.inr ⟨g,cap,cur,rfl,hb,h.at hg (hn g rfl),r⟩
theorem Keeps.map{F:aai}{w w':World}(h:Keeps F w w'){H:Type}{P:Program}{k:TypeId}{R:Value→Option (DataW H×List MemPlace)}{b n:Nat}{D:DataW H}(hm:w.ownsMap P k R b n D)(hn:¬F b):w'.ownsMap P k R b n D:=by
 obtain⟨es,clock,hb,r⟩:=hm
 exact⟨es,clock,h.at hb hn,r⟩
structure Went(F F':aai)(w w':World):Prop where
 keeps:Keeps F w w'
 fresh:∀k,F' k→F k∨w.heap.size≤k
theorem Went.refl(F:aai)(w:World):Went F F w w:=⟨Keeps.refl F w,fun _ h=>Or.inl h⟩
theorem Went.trans{F F' F'':aai}{a b c:World}(h:Went F F' a b)(k:Went F' F'' b c):Went F F'' a c:=
 ⟨h.keeps.andThen k.keeps (fun i hi hf=>(h.fresh i hf).resolve_right (by omega)),fun i hi=>by
  rcases k.fresh i hi with q|q
  ·exact h.fresh i q
  ·exact Or.inr (Nat.le_trans h.keeps.size q)⟩
theorem Went.ofBelow{w w':World}(F:aai)(h:Below w.heap.size w w'):Went F F w w':=⟨Keeps.ofBelow h F,fun _ h=>Or.inl h⟩
def tab{α:Type}(f:α→List Value)(xs:List α):List Value:=xs.flatMap f
theorem ac1{α:Type}{f:α→List Value}{n:Nat}(hf:∀x,(f x).length=n):∀xs:List α,(tab f xs).length=n*xs.length
 |[]=>by simp[tab]
 |x :: xs=>by
  have h:=ac1 hf xs
  simp only[tab,List.flatMap_cons,List.length_append,hf,List.length_cons]at h ⊢
  rw[h,Nat.mul_succ]
  omega
theorem acz{α:Type}{f:α→List Value}{n:Nat}(hf:∀x,(f x).length=n):∀(xs:List α) (k j:Nat) (x:α),xs[k]?=some x→j<n→(tab f xs)[k*n+j]?=(f x)[j]?
 |[],k,j,x,h,_=>by simp at h
 |y :: xs,0,j,x,h,hj=>by
  simp at h
  subst h
  simp only[tab,List.flatMap_cons,Nat.zero_mul,Nat.zero_add]
  rw[List.getElem?_append_left (by rw[hf];exact hj)]
 |y :: xs,k+1,j,x,h,hj=>by
  have ih:=acz hf xs k j x (by simpa using h) hj
  simp only[tab,List.flatMap_cons]at ih ⊢
  rw[List.getElem?_append_right (by rw[hf,Nat.succ_mul];omega),hf,←ih]
  congr 1
  rw[Nat.succ_mul]
  omega
theorem agJ{α:Type}{f:α→List Value}{n:Nat}(hf:∀x,(f x).length=n):∀(xs:List α) (k j:Nat) (x x':α) (v:Value),xs[k]?=some x→j<n→f x'=(f x).set j v→(tab f xs).set (k*n+j) v=tab f (xs.set k x')
 |[],k,j,x,x',v,h,_,_=>by simp at h
 |y :: xs,0,j,x,x',v,h,hj,e=>by
  simp at h
  subst h
  simp only[tab,List.flatMap_cons,Nat.zero_mul,Nat.zero_add,List.set_cons_zero]
  rw[List.set_append_left _ _ (by rw[hf];exact hj),e]
 |y :: xs,k+1,j,x,x',v,h,hj,e=>by
  have ih:=agJ hf xs k j x x' v (by simpa using h) hj e
  simp only[tab,List.flatMap_cons,List.set_cons_succ]at ih ⊢
  rw[List.set_append_right _ _ (by rw[hf,Nat.succ_mul];omega),hf,←ih]
  congr 2
  rw[Nat.succ_mul]
  omega
theorem abQ{α:Type}(f:α→List Value)(xs:List α)(x:α):tab f (xs++[x])=tab f xs++f x:=by simp[tab]
theorem aad{w:World}{b off:Nat}{cs:List Value}{t:TypeId}{fz:Nat×Nat}(h:w.heap[b]?=some (.cells cs.toArray t fz))(v:Value):(w.setCell ⟨b,off,none⟩ v).heap[b]?=some (.cells (cs.set off v).toArray t fz):=by
 simp[World.setCell,Array.getElem?_modify,h]
theorem aah{w:World}{b off:Nat}{cs:List Value}{t:TypeId}{fz:Nat×Nat}{v:Value}(h:w.heap[b]?=some (.cells cs.toArray t fz))(hv:cs[off]?=some v):w.cell? ⟨b,off,none⟩=some v:=by
 simp[World.cell?,h,hv]
theorem aac{w:World}{b off:Nat}{cs:Array Value}{t:TypeId}(h:w.heap[b]?=some (.cells cs t (0,0))):w.frozen? ⟨b,off,none⟩=false:=by
 simp[World.frozen?,h]
theorem ne_tag{w:World}{a b:Nat}{xs ys:Array Value}{t u:TypeId}{f g:Nat×Nat}(ha:w.heap[a]?=some (.cells xs t f))(hb:w.heap[b]?=some (.cells ys u g))(h:t≠u):a≠b:=by
 rintro rfl
 rw[ha]at hb
 cases hb
 exact h rfl
theorem ado{w:World}{a b:Nat}{xs:Array Value}{t:TypeId}{f:Nat×Nat}{es:Array MapEntry}{cl:Nat}(ha:w.heap[a]?=some (.cells xs t f))(hb:w.heap[b]?=some (.map es cl)):a≠b:=by
 rintro rfl
 rw[ha]at hb
 cases hb
end Go.Proofs.YtblomippkddgiaaGreatDoor
