import Derived.Test.YtblomippkddgiaaGreatDoorRows
import Derived.WalkKit
import Derived.WalkSpells
import Derived.WalkLawsBesides
import Derived.BigQuiet
import Derived.Deep.QuietTactic
import Derived.Lib.BufferWrite
import Derived.Lib.UnsafeStr
import Derived.Laws.MakeOwn
import Derived.Below
import Derived.Deep.RegionWith
import Derived.Maps.OwnSet
import Derived.Maps.AppendAt
set_option maxRecDepth 100000
set_option maxHeartbeats 1000000
namespace Go.Proofs.YtblomippkddgiaaGreatDoor
open Go.RowKit
def aaW:BitVec 16:=0x8005#16
def mv(w:BitVec 16):BitVec 16:=if w.msb then (w <<< 1) ^^^ aaW else w <<< 1
def high(b:UInt8):BitVec 16:=BitVec.ofNat 16 (b.toNat*256)
def mvs:Nat->BitVec 16->BitVec 16
 |0,w=>w
 |n+1,w=>mvs n (mv w)
def VW(w:BitVec 16)(b:UInt8):BitVec 16:=mvs 8 (w ^^^ high b)
def YN(w:BitVec 16)(l:List UInt8):BitVec 16:=l.foldl VW w
def crc(l:List UInt8):BitVec 16:=YN 0 l
theorem PL(n:Nat)(w:BitVec 16):mvs (n+1) w=mv (mvs n w):=by
 induction n generalizing w with
 |zero=>rfl
 |succ n ih=>exact ih (mv w)
theorem Ab{p:Prop}(h:p):Hid p:=h
theorem Aa{p:Prop}(h:Hid p):p:=h
abbrev str(l:List UInt8):ByteArray:=⟨l.toArray⟩
theorem Az(l:List UInt8):(str l).size=l.length:=by simp[ByteArray.size]
theorem wrap_u16(n:Int):IntKind.u16.wrap n=n % 65536:=by
 simp[IntKind.wrap,IntKind.bits,IntKind.signed]
theorem Ij(a:BitVec 16):BitVec.ofInt 16 (a.toNat:Int)=a:=by simp
theorem QR(a b:BitVec 16):bits .and .u16 (a.toNat:Int) (b.toNat:Int)=((a &&& b).toNat:Int):=by
 show IntKind.u16.wrap ((BitVec.ofInt 16 (a.toNat:Int) &&& BitVec.ofInt 16 (b.toNat:Int)).toNat:Int)=_;rw[Ij,Ij,wrap_u16];have:=(a &&& b).isLt;omega
theorem KS(a b:BitVec 16):bits .xor .u16 (a.toNat:Int) (b.toNat:Int)=((a ^^^ b).toNat:Int):=by
 show IntKind.u16.wrap ((BitVec.ofInt 16 (a.toNat:Int) ^^^ BitVec.ofInt 16 (b.toNat:Int)).toNat:Int)=_;rw[Ij,Ij,wrap_u16];have:=(a ^^^ b).isLt;omega
theorem acn(a:BitVec 16):IntKind.u16.wrap ((a.toNat:Int)*2)=((a <<< 1).toNat:Int):=by
 rw[wrap_u16,BitVec.toNat_shiftLeft,Nat.shiftLeft_eq];omega
theorem msb_and(a:BitVec 16):(((a &&& 0x8000#16).toNat:Int)==0)=!a.msb:=by
 have h1:(a &&& 0x8000#16)=if a.msb then 0x8000#16 else 0#16:=by
  apply BitVec.eq_of_getLsbD_eq;intro i hi;have hc:∀i,i<16->(0x8000#16).getLsbD i=(i==15):=by decide
  rw[BitVec.getLsbD_and,hc i hi];by_cases h15:i=15
  ·subst h15;have:a.msb=a.getLsbD 15:=BitVec.msb_eq_getLsbD_last a;rw[this];cases a.getLsbD 15<;>decide
  ·have e:(i==15)=false:=by simpa using h15
   rw[e,Bool.and_false];split
   ·rw[hc i hi,e]
   ·simp
 rw[h1];cases a.msb<;>rfl
theorem RO(x y z r:Int)(w:World)(h1:bits .and .u16 x 32768=y)(h2:(y==0)=false)(h3:IntKind.u16.wrap (x*2)=z)(h4:bits .xor .u16 z 32773=r):
  Calls Tryz.prog 191 #[.int .u16 x] w fun e w'=>e=.returned (.int .u16 r)/\w'=w:=by
 go_enter Tryz.func191,Tryz.ntmps191;go_wp2
 go_ret
 exact⟨rfl,rfl⟩
theorem PK(x y z:Int)(w:World)(h1:bits .and .u16 x 32768=y)(h2:(y==0)=true)(h3:IntKind.u16.wrap (x*2)=z):
  Calls Tryz.prog 191 #[.int .u16 x] w fun e w'=>e=.returned (.int .u16 z)/\w'=w:=by
 go_enter Tryz.func191,Tryz.ntmps191;go_wp2
 go_ret
 exact⟨rfl,rfl⟩
theorem Lq(a:BitVec 16)(w:World):Calls Tryz.prog 191 #[.int .u16 (a.toNat:Int)] w fun e w'=>e=.returned (.int .u16 ((mv a).toNat:Int))/\w'=w:=by
 have h1:bits .and .u16 (a.toNat:Int) 32768=((a &&& 0x8000#16).toNat:Int):=QR a 0x8000#16;have h2:bits .xor .u16 ((a <<< 1).toNat:Int) 32773=(((a <<< 1) ^^^ aaW).toNat:Int):=KS (a <<< 1) 0x8005#16;have h3:=msb_and a;have h4:=acn a;cases hm:a.msb with
 |true=>
  rw[hm]at h3;have e:mv a=(a <<< 1) ^^^ aaW:=by simp[mv,hm]
  rw[e];exact RO _ _ _ _ w h1 h3 h4 h2
 |false=>
  rw[hm]at h3;have e:mv a=(a <<< 1):=by simp[mv,hm]
  rw[e];exact PK _ _ _ w h1 h3 h4
theorem Yy(a:BitVec 16)(c:Nat)(h:c<256):bits .xor .u16 (a.toNat:Int) ((c:Int)*256)=((a ^^^ BitVec.ofNat 16 (c*256)).toNat:Int):=by
 have e:((c:Int)*256)=((BitVec.ofNat 16 (c*256)).toNat:Int):=by
  rw[BitVec.toNat_ofNat];omega
 rw[e];exact KS a _
theorem Sl(S:ByteArray)(g:Nat->Int)(F:Nat->Nat->Int)(w:World)(hs:S.size<=1000000)(g0:g 0=0)
  (hF0:∀j (h:j<S.size),bits .xor .u16 (g j) ((S[j].toNat:Int)*256)=F j 0) (hF8:∀j,j<S.size->F j 8=g (j+1))
  (HM:Hid (∀j k (w:World),Calls Tryz.prog 191 #[.int .u16 (F j k)] w fun e w'=>e=.returned (.int .u16 (F j (k+1)))/\w'=w)) (hg:0<=g S.size/\g S.size<65536):
  Calls Tryz.prog 119 #[.string S] w fun e w'=>e=.returned (.int .i64 (g S.size))/\w'=w:=by
 have HF0:=Ab hF0;have HF8:=Ab hF8;have HG:=Ab hg;clear hF0 hF8 hg;go_enter Tryz.func119,Tryz.ntmps119;go_wp2;go_loopw [3,7] (fun wv iv wr=>∃i:Nat,i<=S.size/\iv=.int .i64 i/\wv=.int .u16 (g i)/\wr=w) (fun _ iv _=>S.size-(intOf iv).toNat)
 case atStart=>exact⟨0,Nat.zero_le _,rfl,by rw[g0],rfl⟩
 case round=>
  obtain⟨i,hi,rfl,rfl,rfl⟩:=hrel;by_cases hlt:i<S.size
  ·have h0:=(Aa HF0) i hlt;have hc:=S[i].toNat_lt;have h8:=Ab ((Aa HF8) i hlt);go_wp2;go_loopw [3,17] (fun wv kv wr'=>∃k:Nat,k<=8/\kv=.int .i64 k/\wv=.int .u16 (F i k)/\wr'=wr) (fun _ kv _=>8-(intOf kv).toNat)
   case atStart=>exact⟨0,Nat.zero_le _,rfl,rfl,rfl⟩
   case round=>
    obtain⟨k,hk,rfl,rfl,rfl⟩:=hrel;by_cases hk8:k<8
    ·have hki:(k:Int)<8:=by omega
     go_wp2_with (go_at_call 191;refine((Aa HM) _ _ _).mono ?_;rintro e w2 ⟨rfl,rfl⟩)
     go_roundw
     case rel=>exact⟨k+1,by omega,by go_num,rfl,trivial⟩
     case measure=>simp[intOf];omega
    ·have hke:k=8:=by omega
     subst hke;rw[Aa h8];go_wp2;go_roundw
     case rel=>exact⟨i+1,by omega,by go_num,rfl,trivial⟩
     case measure=>simp[intOf];omega
  ·have hie:i=S.size:=by omega
   subst hie;obtain⟨n1,n2⟩:=Aa HG;go_wp2
   go_ret
   exact⟨rfl,rfl⟩
def VA(l:List UInt8)(j:Nat):Int:=((crc (l.take j)).toNat:Int)
def Vy(l:List UInt8)(j k:Nat):Int:=match l[j]? with
 |some b=>((mvs k (crc (l.take j) ^^^ high b)).toNat:Int)
 |none=>((mvs k 0).toNat:Int)
theorem Vz(l:List UInt8)(j k:Nat)(w:World):Calls Tryz.prog 191 #[.int .u16 (Vy l j k)] w fun e w'=>e=.returned (.int .u16 (Vy l j (k+1)))/\w'=w:=by
 unfold Vy;split
 ·rw[PL];exact Lq _ w
 ·rw[PL];exact Lq _ w
theorem Ol(l:List UInt8)(j:Nat)(h:j<(str l).size):l[j]?=some ((str l)[j]):=by
 have hl:j<l.length:=by rw[Az]at h;exact h
 rw[List.getElem?_eq_getElem hl];rfl
theorem Kp(l:List UInt8)(w:World)(hl:l.length<=1000000):Calls Tryz.prog 119 #[.string (str l)] w fun e w'=>e=.returned (.int .i64 ((crc l).toNat:Int))/\w'=w:=by
 have h:=Sl (str l) (VA l) (Vy l) w (by rw[Az];exact hl) rfl ?_ ?_ (Ab (Vz l)) ?_
 ·have e:VA l (str l).size=((crc l).toNat:Int):=by
   unfold VA;rw[Az,List.take_length]
  rw[e]at h;exact h
 ·intro j hj;have hg:=Ol l j hj;unfold VA Vy;rw[hg,Yy _ _ (UInt8.toNat_lt _)];rfl
 ·intro j hj;have hg:=Ol l j hj;unfold Vy VA;rw[hg,List.take_add_one,hg,Option.toList_some];show _=(((l.take j++[(str l)[j]]).foldl VW 0).toNat:Int);rw[List.foldl_append];rfl
 ·unfold VA;have:=(crc (l.take (str l).size)).isLt;omega
structure Pk where
 kind:Int
 client:Int
 Ag:Int
 line:Int
 seq:Int
 uid:Int
 part:Int
 off:Int
 please:Bool
 body:List UInt8
def C5(p:Pk):Prop:=if p.kind=1\/p.kind=5 then (if p.part<p.off-1 then p.body.length=8 else p.body.length<=8) else p.body.length=0
instance (p:Pk):Decidable (C5 p):=by unfold C5;infer_instance
def AJ(p:Pk):Prop:=(1<=p.kind/\p.kind<=7)/\(0<=p.client/\p.client<=2)/\(1<=p.Ag/\p.Ag<=255)/\(0<=p.line/\p.line<=2)/\(1<=p.seq/\p.seq<=999)/\(1<=p.uid/\p.uid<=255)/\(1<=p.off/\p.off<=9)/\(0<=p.part/\p.part<=p.off-1)/\C5 p
instance (p:Pk):Decidable (AJ p):=by unfold AJ;infer_instance
theorem KC{p:Pk}(h:AJ p):p.body.length<=8:=by
 obtain⟨_,_,_,_,_,_,_,_,h⟩:=h;unfold C5 at h;split at h
 ·split at h<;>omega
 ·omega
def b8(n:Int):UInt8:=UInt8.ofNat n.toNat
theorem Bn{n:Int}(h0:0<=n)(h1:n<=255):((b8 n).toNat:Int)=n:=by
 unfold b8;rw[UInt8.toNat_ofNat_of_lt' (by show n.toNat<256;omega)];omega
theorem QQ(c:UInt8):b8 (c.toNat:Int)=c:=by
 unfold b8;simp
theorem VQ{a b:Int}(a0:0<=a)(a1:a<=255)(b0:0<=b)(b1:b<=255)(h:b8 a=b8 b):a=b:=by
 have:=congrArg (fun c=>((UInt8.toNat c:Nat):Int)) h;simp only[Bn a0 a1,Bn b0 b1]at this;exact this
def AX(n:Int):List UInt8:=[b8 (n / 256),b8 (n % 256)]
def BK(a c:UInt8):Int:=(a.toNat:Int)*256+(c.toNat:Int)
theorem PO{n:Int}(h0:0<=n)(h1:n<=65535):BK (b8 (n / 256)) (b8 (n % 256))=n:=by
 unfold BK;rw[Bn (by omega) (by omega),Bn (by omega) (by omega)];omega
theorem Yp(a c:UInt8):AX (BK a c)=[a,c]:=by
 unfold AX BK;have ha:=a.toNat_lt;have hc:=c.toNat_lt;rw[show ((a.toNat:Int)*256+(c.toNat:Int)) / 256=(a.toNat:Int) by omega,show ((a.toNat:Int)*256+(c.toNat:Int)) % 256=(c.toNat:Int) by omega,QQ,QQ]
theorem Yo{a b:Int}(a0:0<=a)(a1:a<=65535)(b0:0<=b)(b1:b<=65535)(h:AX a=AX b):a=b:=by
 unfold AX at h;simp only[List.cons.injEq,and_true]at h;have h1:=VQ (by omega) (by omega) (by omega) (by omega) h.1;have h2:=VQ (by omega) (by omega) (by omega) (by omega) h.2;omega
def yes(b:Bool):Int:=if b then 1 else 0
def nums(p:Pk):List Int:=[p.kind,p.client,p.Ag,p.line,p.seq / 256,p.seq % 256,p.uid,p.part,p.off,yes p.please,(p.body.length:Int)]
def Da(p:Pk):List UInt8:=(nums p).map b8++p.body
def FD(l:List UInt8):Int:=((crc l).toNat:Int)
theorem NF(l:List UInt8):0<=FD l/\FD l<=65535:=by
 unfold FD;have:=(crc l).isLt;omega
def CB(p:Pk):List UInt8:=Da p++AX (FD (Da p))
theorem Jn(p:Pk):(Da p).length=11+p.body.length:=by
 unfold Da nums;simp;omega
theorem Od(p:Pk):(CB p).length=13+p.body.length:=by
 unfold CB;rw[List.length_append,Jn];simp[AX];omega
def BJ:List UInt8->Option (Pk×List UInt8)
 |k :: c :: li :: ln :: s1 :: s2 :: u :: pa :: o :: f :: L :: r=>
  if f.toNat<=1/\L.toNat<=r.length then some (⟨k.toNat,c.toNat,li.toNat,ln.toNat,BK s1 s2,u.toNat,pa.toNat,o.toNat,(f.toNat:Int)==1,r.take L.toNat⟩,r.drop L.toNat) else none
 |_=>none
def Kz(l r:List UInt8):Option (List UInt8):=match r with
 |a :: b :: t=>if BK a b=FD (l.take (l.length-r.length)) then some t else none
 |_=>none
def Dk(l:List UInt8):Option Pk:=match BJ l with
 |none=>none
 |some (p,r)=>if AJ p then (match Kz l r with|some []=>some p|_=>none) else none
theorem Kc{l:List UInt8}{p:Pk}{r:List UInt8}(h:BJ l=some (p,r)):l=Da p++r:=by
 unfold BJ at h;split at h
 ·rename_i k c li ln s1 s2 u pa o f L t;split at h
  ·rename_i hc;simp only[Option.some.injEq,Prod.mk.injEq]at h;obtain⟨rfl,rfl⟩:=h;unfold Da nums;have ha:=s1.toNat_lt;have hb:=s2.toNat_lt;have hf:b8 (yes ((f.toNat:Int)==1))=f:=by
    have:f.toNat=0\/f.toNat=1:=by omega
    rcases this with h|h
    ·have e:f=0:=UInt8.toNat_inj.1 h;subst e;rfl
    ·have e:f=1:=UInt8.toNat_inj.1 h;subst e;rfl
   have hL:((List.take L.toNat t).length:Int)=(L.toNat:Int):=by
    rw[List.length_take];omega
   have h1:BK s1 s2 / 256=(s1.toNat:Int):=by unfold BK;omega
   have h2:BK s1 s2 % 256=(s2.toNat:Int):=by unfold BK;omega
   simp only[List.map_cons,List.map_nil,hL,hf,h1,h2,QQ,List.cons_append,List.nil_append,List.take_append_drop]
  ·cases h
 ·cases h
theorem Pb{p:Pk}(h:AJ p):BJ (CB p)=some (p,AX (FD (Da p))):=by
 have hb:=KC h;obtain⟨h1,h2,h3,h4,h5,h6,h7,h8,_⟩:=h;unfold CB;generalize hT:AX (FD (Da p))=T;have hTl:T.length=2:=by rw[<-hT];rfl
 clear hT;unfold Da nums;simp only[List.map_cons,List.map_nil,List.cons_append,List.nil_append];unfold BJ;obtain⟨kind,client,Ag,line,seq,uid,part,off,please,body⟩:=p;simp only at hb h1 h2 h3 h4 h5 h6 h7 h8 ⊢;have e1:=Bn (n:=kind) (by omega) (by omega);have e2:=Bn (n:=client) (by omega) (by omega);have e3:=Bn (n:=Ag) (by omega) (by omega);have e4:=Bn (n:=line) (by omega) (by omega);have e5:=PO (n:=seq) (by omega) (by omega);have e6:=Bn (n:=uid) (by omega) (by omega);have e7:=Bn (n:=part) (by omega) (by omega);have e8:=Bn (n:=off) (by omega) (by omega);have e9:((b8 (yes please)).toNat:Int)=yes please:=Bn (by unfold yes;split<;>omega) (by unfold yes;split<;>omega);have e10:=Bn (n:=(body.length:Int)) (by omega) (by omega);have e11:(b8 (body.length:Int)).toNat=body.length:=by omega
 rw[if_pos]
 ·rw[e1,e2,e3,e4,e5,e6,e7,e8,e9,e11,List.take_append_of_le_length (Nat.le_refl _),List.take_length,List.drop_append_of_le_length (Nat.le_refl _),List.drop_length,List.nil_append];cases please<;>rfl
 ·refine⟨?_,?_⟩
  ·unfold yes at e9;split at e9<;>(unfold yes;simp_all;try omega)
  ·rw[e11,List.length_append];omega
theorem JZ(m t:List UInt8):(m++t).take ((m++t).length-t.length)=m:=by
 rw[List.length_append,Nat.add_sub_cancel,List.take_left]
theorem UR(l:List UInt8)(p:Pk):Dk l=some p↔AJ p/\l=CB p:=by
 constructor
 ·intro h;unfold Dk at h;cases hf:BJ l with
  |none=>rw[hf]at h;cases h
  |some x=>
   obtain⟨q,r⟩:=x;have hl:=Kc hf;rw[hf]at h;simp only at h;split at h
   ·rename_i hr;split at h
    ·rename_i hs;cases h;refine⟨hr,?_⟩;unfold Kz at hs;split at hs
     ·rename_i a b t;split at hs
      ·rename_i hn;cases hs;have e:l.take (l.length - [a,b].length)=Da p:=by rw[hl];exact JZ _ _
       rw[e]at hn;unfold CB;rw[hl,<-hn,Yp]
      ·cases hs
     ·cases hs
    ·cases h
   ·cases h
 ·rintro ⟨hr,rfl⟩;unfold Dk;rw[Pb hr];simp only;rw[if_pos hr];have hc:=NF (Da p);have e:Kz (CB p) (AX (FD (Da p)))=some []:=by
   have e2:(CB p).take ((CB p).length-(AX (FD (Da p))).length)=Da p:=JZ _ _;have e3:=PO hc.1 hc.2;show (if BK (b8 (FD (Da p) / 256)) (b8 (FD (Da p) % 256))=FD ((CB p).take ((CB p).length-(AX (FD (Da p))).length)) then some [] else none)=some [];rw[e2,e3,if_pos rfl]
  rw[e]
theorem GA{p:Pk}(h:AJ p):Dk (CB p)=some p:=(UR _ _).2 ⟨h,rfl⟩
abbrev Ba(n q:Nat):Value:=.agg #[.int .i64 n,.int .i64 q]
abbrev Ax(n q:Nat):Ending:=.panicked [{v:=.iface 86 (Ba n q),recovered:=false}]
theorem lt_of_block{w:World}{k:Nat}{o:Obj}(h:w.heap[k]?=some o):k<w.heap.size:=by
 rcases Nat.lt_or_ge k w.heap.size with hh|hh
 ·exact hh
 ·rw[Array.getElem?_eq_none hh]at h;cases h
theorem CJ(l:List UInt8)(a b:Nat):(str l).extract a b=str ((l.drop a).take (b-a)):=by
 apply ByteArray.ext;simp[ByteArray.data_extract,List.extract_eq_take_drop]
def Dx(l:List UInt8):List Value:=l.map fun c=>Value.int .u8 (c.toNat:Int)
theorem info5:(Tryz.prog.info? 5).map (fun i=>(i.zero,i.size,i.bytes))=some (some (.int .u8 0),1,1):=by kernel_rfl
theorem IY(w:World)(l:List UInt8)(M:Array Value)(hM:M.size=l.length):
  (Builtin.copy_ #[199,9] 3 #[.slice (some ⟨w.heap.size,0,none⟩) l.length l.length,.string (str l)]).run Tryz.prog (w.alloc (.cells M 5))=.ok (goInt l.length) ((w.alloc (.cells M 5)).setRow w.heap.size (Dx l).toArray):=by
 have h:=Lib.run_copy_row_string (P:=Tryz.prog) (w.alloc (.cells M 5)) 199 9 3 5 w.heap.size 0 l.length l.length (str l) M 5 Tryz.underlying199 (by kernel_rfl) (heap_alloc_new w _) (by rw[Az];exact Nat.le_refl _) (by rw[Az];omega);rw[Az]at h;have e:M.toList.drop (0+l.length)=[]:=List.drop_of_length_le (by rw[Array.length_toList];omega);have e2:M.toList.take 0++Lib.byteCells (str l).data.toList++M.toList.drop (0+l.length)=Dx l:=by
  rw[e,List.take_zero,List.nil_append,List.append_nil];rfl
 rw[e2]at h;exact h
theorem IG(w:World)(M:Array Value)(Y:Array Value)(n:Nat):Below w.heap.size w (((w.alloc (.cells M 5)).setRow w.heap.size Y).freeze ⟨w.heap.size,0,none⟩ n):=by
 refine Lib.below_freeze (p:=⟨w.heap.size,0,none⟩) ?_ (Nat.le_refl _) _;exact((Below.refl w.heap.size w).alloc (Nat.le_refl _) _).trans ⟨rfl,rfl,rfl,by simp[World.setRow],fun k hk=>setRow_other _ _ _ _ (by omega)⟩
theorem IZ(w:World)(l:List UInt8)(M:Array Value)(h0:l≠[])(hl:l.length<=1000):
  (Builtin.unsafeString_ #[338,3] 9 #[.pointer (some ⟨w.heap.size,0,none⟩),.int .i64 l.length]).run Tryz.prog ((w.alloc (.cells M 5)).setRow w.heap.size (Dx l).toArray)=.ok (.string (str l)) (((w.alloc (.cells M 5)).setRow w.heap.size (Dx l).toArray).freeze ⟨w.heap.size,0,none⟩ l.length):=by
 have hg:=setRow_heap (w.alloc (.cells M 5)) w.heap.size M (Dx l).toArray 5 (0,0) (heap_alloc_new w _);have hsz:(Dx l).toArray.size=l.length:=by simp[Dx]
 refine Lib.run_unsafeString_row (P:=Tryz.prog) _ 338 3 9 5 Tryz.underlying338 (by kernel_rfl) w.heap.size l.length ?_ l h0 (Nat.le_refl _) (by omega) fun j x hx=>?_
 ·unfold World.shape?;rw[hg];simp[Dx]
 ·refine Lib.cells_of_row hg l.length j _ ?_;rw[List.toList_toArray,List.take_of_length_le (by simp[Dx])];unfold Dx;rw[List.getElem?_map,hx];rfl
theorem JL(l:List UInt8)(w:World)(hl:l.length<=1000):Calls Tryz.prog 229 #[.string (str l)] w fun e w'=>e=.returned (.string (str l))/\Below w.heap.size w w':=by
 have hsz:=Az l;by_cases h0:l=[]
 ·subst h0;go_enter Tryz.func229,Tryz.ntmps229;go_wp2
  go_ret
  exact⟨rfl,Below.refl _ _⟩
 ·obtain⟨i0,hi,hz0,hz1,hz2⟩:=info_parts info5;have hpos:0<l.length:=List.length_pos_iff.2 h0;obtain⟨M,hM⟩:∃M,M=madeCells (Value.int .u8 0).cells (l.length*1):=⟨_,rfl⟩;have hMs:M.size=l.length:=by rw[hM,size_madeCells];omega
  have hmk:∀W:World,(Instr.makeSlice 199 (.int .i64 (l.length:Int)) (.int .i64 (l.length:Int))).run Tryz.prog W=.ok (.slice (some ⟨W.heap.size,0,none⟩) l.length l.length) (W.alloc (.cells M 5)):=fun W=>by
   have h:=run_make (P:=Tryz.prog) W 199 5 i0 (.int .u8 0) Tryz.underlying199 hi hz0 .i64 .i64 (l.length:Int) (l.length:Int) (by omega) (Int.le_refl _) (by rw[hz2];omega) (by omega);rw[hz1,Int.toNat_natCast,<-hM]at h;exact h
  have hcp:=IY w l M hMs;have hus:=IZ w l M h0 hl;have HB:=Ab (IG w M (Dx l).toArray l.length);have hne:((l.length:Int)==0)=false:=by simp;omega
  generalize hY:(Dx l).toArray=Y at *;generalize hS:str l=S at *;clear hM hY h0 hS;generalize l.length=n at *;subst hsz;go_enter Tryz.func229,Tryz.ntmps229;go_wp2
  go_ret
  exact⟨rfl,Aa HB⟩
theorem Ek(l:List UInt8)(w:World)(hl:l.length<=1000):Calls Tryz.prog 184 #[.string (str l)] w fun e w'=>e=.returned (.string (str l))/\Below w.heap.size w w':=by
 have H:=Ab (JL l w hl);generalize hS:str l=S at *;clear hS;go_enter Tryz.func184,Tryz.ntmps184;go_wp2_with fail
 refine(Aa H).mono ?_;rintro e w1 ⟨rfl,hb⟩;go_wp2
 go_ret
 exact⟨rfl,hb⟩
def Rd(w:World)(b:Nat)(l:List UInt8):Prop:=w.heap[b]?=some (.cells #[.string (str l),.int .i64 7] 127 (0,0))
theorem Rd.left{w:World}{b:Nat}{l:List UInt8}(h:Rd w b l):w.cell? ⟨b,0,none⟩=some (.string (str l)):=by
 unfold Rd at h;simp[World.cell?,h]
theorem Rd.wrong{w:World}{b:Nat}{l:List UInt8}(h:Rd w b l):w.cell? ⟨b,1,none⟩=some (.int .i64 7):=by
 unfold Rd at h;simp[World.cell?,h]
theorem Rd.thaw{w:World}{b:Nat}{l:List UInt8}(h:Rd w b l)(o:Nat):w.frozen? ⟨b,o,none⟩=false:=by
 unfold Rd at h;simp[World.frozen?,h]
theorem Rd.lt{w:World}{b:Nat}{l:List UInt8}(h:Rd w b l):b<w.heap.size:=lt_of_block h
theorem Rd.set{w:World}{b:Nat}{l:List UInt8}(h:Rd w b l)(l':List UInt8):Rd (w.setCell ⟨b,0,none⟩ (.string (str l'))) b l':=by
 unfold Rd at h ⊢;simp only[World.setCell,Array.getElem?_modify,h];simp
theorem Rd.below{w w':World}{b B:Nat}{l:List UInt8}(h:Rd w b l)(hb:Below B w w')(hB:b<B):Rd w' b l:=by
 unfold Rd at h ⊢;rw[hb.block b hB];exact h
theorem B6(b:Nat)(l:List UInt8)(w:World)(h:Rd w b l):Calls Tryz.prog 120 #[.pointer (some ⟨b,0,none⟩)] w fun e w'=>e=Ax 7 0/\w'=w:=by
 have h1:=h.wrong;clear h;go_enter Tryz.func120,Tryz.ntmps120;go_wp2;exact⟨rfl,rfl,rfl⟩
theorem Fx(b:Nat)(l:List UInt8)(n:Nat)(w:World)(h:Rd w b l)(hn:n<=l.length)(hl:l.length<=9223372036854775807):
  Calls Tryz.prog 190 #[.pointer (some ⟨b,0,none⟩),.int .i64 n] w fun e w'=>e=.returned (.string (str (l.take n)))/\w'=w.setCell ⟨b,0,none⟩ (.string (str (l.drop n))):=by
 have h1:=h.left;have h2:=h.thaw 0;have hsz:=Az l;have e1:(str l).extract 0 n=str (l.take n):=by rw[CJ];simp
 have e2:(str l).extract n (str l).size=str (l.drop n):=by
  rw[CJ,Az,List.take_of_length_le (by rw[List.length_drop];omega)]
 generalize hS:str l=S at *;generalize hA:str (l.take n)=A at *;generalize hB:str (l.drop n)=B at *;clear hS hA hB h;generalize l.length=m at *;subst hsz;have hlt:¬((S.size:Int)<(n:Int)):=by omega
 go_enter Tryz.func190,Tryz.ntmps190;go_wp2
 go_ret
 exact⟨rfl,rfl⟩
theorem JD(b:Nat)(l:List UInt8)(n:Nat)(w:World)(h:Rd w b l)(hn:¬n<=l.length):
  Calls Tryz.prog 190 #[.pointer (some ⟨b,0,none⟩),.int .i64 n] w fun e w'=>e=Ax 7 0/\w'=w:=by
 have h1:=h.left;have hsz:=Az l;have HN:=Ab (B6 b l w h);generalize hS:str l=S at *;clear hS h;have hlt:((S.size:Int)<(n:Int)):=by omega
 clear hn hsz;go_enter Tryz.func190,Tryz.ntmps190;go_wp2_with fail
 refine(Aa HN).mono ?_;rintro e w1 ⟨rfl,rfl⟩;go_wp2;exact⟨rfl,rfl,rfl⟩
structure DW(b:Nat)(w w':World):Prop where
 below:Below b w w'
 size:w.heap.size<=w'.heap.size
 block:∀k,k<w.heap.size->k≠b->w'.heap[k]?=w.heap[k]?
theorem DW.refl(b:Nat)(w:World):DW b w w:=⟨Below.refl _ _,Nat.le_refl _,fun _ _ _=>rfl⟩
theorem DW.trans{b:Nat}{u v w:World}(h:DW b u v)(k:DW b v w):DW b u w:=⟨h.below.trans k.below,Nat.le_trans h.size k.size,fun i hi hb=>(k.block i (Nat.lt_of_lt_of_le hi h.size) hb).trans (h.block i hi hb)⟩
theorem DW.set(b o:Nat)(w:World)(x:Value):DW b w (w.setCell ⟨b,o,none⟩ x):=⟨(Below.refl _ _).setCell (by simp) _,by simp,fun _ _ hk=>Below.heap_setCell _ _ _ _ (by simpa using hk)⟩
theorem DW.of_below{b:Nat}{w w':World}(h:Below w.heap.size w w')(hb:b<=w.heap.size):DW b w w':=⟨h.mono hb,h.size,fun k hk _=>h.block k hk⟩
def abC(b:Nat)(l:List UInt8)(w:World)(e:Ending)(w':World):Prop:=DW b w w'/\((l=[]/\e=Ax 7 0)\/∃c r,l=c :: r/\e=.returned (.int .i64 (c.toNat:Int))/\Rd w' b r)
theorem G3(b:Nat)(l:List UInt8)(w:World)(h:Rd w b l)(hl:l.length<=9223372036854775807):Calls Tryz.prog 113 #[.pointer (some ⟨b,0,none⟩)] w (abC b l w):=by
 cases l with
 |nil=>
  have H:=Ab (JD b [] 1 w h (by simp));clear h;go_enter Tryz.func113,Tryz.ntmps113;go_wp2_with fail
  refine(Aa H).mono ?_;rintro e w1 ⟨rfl,rfl⟩;go_wp2;exact⟨rfl,DW.refl _ _,Or.inl ⟨rfl,rfl⟩⟩
 |cons c r=>
  have H:=Ab (Fx b (c :: r) 1 w h (by simp) hl);have HS:=Ab (h.set r);rw[show (c :: r).take 1=[c] from rfl,show (c :: r).drop 1=r from rfl]at H;have i0:(str [c])[0]'(by rw[Az];simp)=c:=rfl;have hc:=c.toNat_lt;have hw:wrap64 (c.toNat:Int)=(c.toNat:Int):=by unfold wrap64;omega
  clear h;go_enter Tryz.func113,Tryz.ntmps113;go_wp2_with fail
  refine(Aa H).mono ?_;rintro e w1 ⟨rfl,rfl⟩;go_wp2
  go_ret
  exact⟨DW.set _ _ _ _,Or.inr ⟨c,r,rfl,rfl,Aa HS⟩⟩
abbrev Aq:=Nat->Prop
structure Af(F:Aq)(w w':World):Prop where
 os:w'.os=w.os
 tape:w'.tape=w.tape
 output:w'.output=w.output
 size:w.heap.size<=w'.heap.size
 block:∀k,k<w.heap.size->¬F k->w'.heap[k]?=w.heap[k]?
theorem Af.refl(F:Aq)(w:World):Af F w w:=⟨rfl,rfl,rfl,Nat.le_refl _,fun _ _ _=>rfl⟩
theorem Af.mono{F G:Aq}{w w':World}(h:Af F w w')(hG:∀k,k<w.heap.size->F k->G k):Af G w w':=⟨h.os,h.tape,h.output,h.size,fun k hk hn=>h.block k hk (fun hf=>hn (hG k hk hf))⟩
theorem Af.andThen{F G:Aq}{a b c:World}(h:Af F a b)(k:Af G b c)(hG:∀i,i<a.heap.size->G i->F i):Af F a c:=
 ⟨k.os.trans h.os,k.tape.trans h.tape,k.output.trans h.output,Nat.le_trans h.size k.size,fun i hi hn=>(k.block i (Nat.lt_of_lt_of_le hi h.size) (fun hg=>hn (hG i hi hg))).trans (h.block i hi hn)⟩
theorem Af.trans{F:Aq}{a b c:World}(h:Af F a b)(k:Af F b c):Af F a c:=h.andThen k (fun _ _ h=>h)
theorem Af.Aj{w w':World}(h:Below w.heap.size w w')(F:Aq):Af F w w':=⟨h.os,h.tape,h.output,h.size,fun k hk _=>h.block k hk⟩
theorem Af.below{F:Aq}{w w':World}(h:Af F w w'){B:Nat}(hB:B<=w.heap.size)(hF:∀k,F k->B<=k):Below B w w':=⟨h.os,h.tape,h.output,h.size,fun k hk=>h.block k (Nat.lt_of_lt_of_le hk hB) (fun hf=>by have:=hF k hf;omega)⟩
theorem Af.drew{F:Aq}{a w:World}(h:Af F a w):Af F a w.drew:=⟨h.os,h.tape,h.output,h.size,h.block⟩
theorem Af.alloc{F:Aq}{a w:World}(h:Af F a w)(o:Obj):Af F a (w.alloc o):=
 h.trans ⟨rfl,rfl,rfl,by simp,fun k hk _=>Below.heap_alloc _ _ _ hk⟩
theorem Af.setCell{F:Aq}{a w:World}(h:Af F a w){p:Addr}(hp:F p.block\/a.heap.size<=p.block)(u:Value):Af F a (w.setCell p u):=
 ⟨h.os,h.tape,h.output,by simpa [World.setCell] using h.size,fun k hk hn=>by
  rw[Below.heap_setCell _ _ _ _ (fun e=>by
   subst e;rcases hp with hp|hp
   ·exact hn hp
   ·omega)]
  exact h.block k hk hn⟩
theorem Af.grown{F:Aq}{a w w':World}{row:Option Nat}(h:Af F a w)(hg:w.grownBy w' row)(hr:∀k,row=some k->F k\/a.heap.size<=k):Af F a w':=
 ⟨hg.os.trans h.os,hg.tape.trans h.tape,hg.output.trans h.output,Nat.le_trans h.size hg.size,fun k hk hn=>by
  rw[hg.block k (Nat.lt_of_lt_of_le hk h.size) (fun e=>by
   rcases hr k e.symm with q|q
   ·exact hn q
   ·omega)]
  exact h.block k hk hn⟩
theorem Af.at{F:Aq}{w w':World}(h:Af F w w'){k:Nat}{o:Obj}(hk:w.heap[k]?=some o)(hn:¬F k):w'.heap[k]?=some o:=by
 rw[h.block k (Array.getElem?_eq_some_iff.1 hk).1 hn];exact hk
theorem Af.row{F:Aq}{w w':World}(h:Af F w w'){B n size:Nat}{e:TypeId}{v:Value}{xs:List Value}(hr:w.ownsRow B e size v n xs)(hn:∀j,v.ownBlock=some j->¬F j):w'.ownsRow B e size v n xs:=by
 obtain⟨hl,hr⟩:=hr;refine⟨hl,?_⟩;rcases hr with hr|⟨g,cap,cur,rfl,hb,hg,r⟩
 ·exact Or.inl hr
 ·exact Or.inr ⟨g,cap,cur,rfl,hb,h.at hg (hn g rfl),r⟩
theorem Af.map{F:Aq}{w w':World}(h:Af F w w'){H:Type}{P:Program}{k:TypeId}{R:Value->Option (DataW H×List MemPlace)}{b n:Nat}{D:DataW H}(hm:w.ownsMap P k R b n D)(hn:¬F b):w'.ownsMap P k R b n D:=by
 obtain⟨es,clock,hb,r⟩:=hm;exact⟨es,clock,h.at hb hn,r⟩
structure Ay(F F':Aq)(w w':World):Prop where
 keeps:Af F w w'
 fresh:∀k,F' k->F k\/w.heap.size<=k
theorem Ay.refl(F:Aq)(w:World):Ay F F w w:=⟨Af.refl F w,fun _ h=>Or.inl h⟩
theorem Ay.trans{F F' F'':Aq}{a b c:World}(h:Ay F F' a b)(k:Ay F' F'' b c):Ay F F'' a c:=
 ⟨h.keeps.andThen k.keeps (fun i hi hf=>(h.fresh i hf).resolve_right (by omega)),fun i hi=>by
  rcases k.fresh i hi with q|q
  ·exact h.fresh i q
  ·exact Or.inr (Nat.le_trans h.keeps.size q)⟩
theorem Ay.Aj{w w':World}(F:Aq)(h:Below w.heap.size w w'):Ay F F w w':=⟨Af.Aj h F,fun _ h=>Or.inl h⟩
end Go.Proofs.YtblomippkddgiaaGreatDoor
