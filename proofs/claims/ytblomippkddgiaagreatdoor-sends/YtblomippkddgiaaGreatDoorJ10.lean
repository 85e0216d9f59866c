import Derived.Test.YtblomippkddgiaaGreatDoorJ09
import Derived.Deep.RegionWith
import Derived.Deep.RegionLaw
set_option maxRecDepth 100000
set_option maxHeartbeats 1000000
namespace Go.Proofs.YtblomippkddgiaaGreatDoor.V
open Go.RowKit
def b8(n:Int):UInt8:=UInt8.ofNat n.toNat
theorem CZ{n:Int}(h0:0<=n)(h1:n<=255):((b8 n).toNat:Int)=n:=by
 unfold b8;rw[UInt8.toNat_ofNat_of_lt' (by show n.toNat<256;omega)];omega
def AF(n:Int):List UInt8:=[b8 (n % 65536 / 256),b8 (n % 256)]
theorem Gx(w:World)(a b:Int):(convert 199 9 (.slice (some ⟨w.heap.size,0,none⟩) 2 2)).run Tryz.prog (w.alloc (.cells #[.int .u8 a,.int .u8 b] 5))=.ok (.string ⟨[b8 a,b8 b].toArray⟩) (w.alloc (.cells #[.int .u8 a,.int .u8 b] 5)):=by
 rw[run_convert_bytes_string _ 199 9 5 _ _ _ Tryz.underlying199 Tryz.underlying5 Tryz.underlying9,run_bytesToString _ _ _ _ [a,b]]
 ·rfl
 ·simp[loadCells,go_sem]
theorem two_pos(n:Int)(w:World)(h0:0<=n)(h1:n<=65535):
  Calls Tryz.prog 219 #[.int .i64 n] w fun e w'=>e=.returned (.string ⟨(AF n).toArray⟩)/\Below w.heap.size w w':=by
 have hc:=Gx w (n / 256) (n % 256);have e:AF n=[b8 (n / 256),b8 (n % 256)]:=by unfold AF;rw[show n % 65536=n by omega]
 rw[e];clear e;have hd:0<=n / 256/\n / 256<=255:=by omega
 have hm:0<=n % 256/\n % 256<=255:=by omega
 go_enter Tryz.func219,Tryz.ntmps219;go_wp2
 go_ret
 exact⟨rfl,(Below.refl _ _).alloc (Nat.le_refl _) _⟩
theorem Xy(n:Int)(w:World)(h0:n<0)(h1:-32768<=n):
  Calls Tryz.prog 219 #[.int .i64 n] w fun e w'=>e=.returned (.string ⟨(AF n).toArray⟩)/\Below w.heap.size w w':=by
 have hc:=Gx w ((n+65536) / 256) ((n+65536) % 256);have e:AF n=[b8 ((n+65536) / 256),b8 ((n+65536) % 256)]:=by unfold AF;rw[show n % 65536=n+65536 by omega,show n % 256=(n+65536) % 256 by omega]
 rw[e];clear e;have hd:0<=(n+65536) / 256/\(n+65536) / 256<=255:=by omega
 have hm:0<=(n+65536) % 256/\(n+65536) % 256<=255:=by omega
 go_enter Tryz.func219,Tryz.ntmps219;go_wp2
 go_ret
 exact⟨rfl,(Below.refl _ _).alloc (Nat.le_refl _) _⟩
theorem Qp(n:Int)(w:World)(h0:-32768<=n)(h1:n<=65535):
  Calls Tryz.prog 219 #[.int .i64 n] w fun e w'=>e=.returned (.string ⟨(AF n).toArray⟩)/\Below w.heap.size w w':=by
 by_cases h:n<0
 ·exact Xy n w h h0
 ·exact two_pos n w (by omega) h1
theorem T6(s:ByteArray)(V:Value)(a:Option Addr)(cap:Nat)(v:List It)(w:World)(hV:V=.slice a v.length cap)(res:Int)(H:Calls Tryz.prog 239 #[.string s,.int .i64 0,V,.int .i64 0] w fun e w'=>e=.returned (.int .i64 res)/\Below w.heap.size w w'):
  Calls Tryz.prog 207 #[.string s,V] w fun e w'=>e=.returned (.bool (res==(v.length:Int)))/\Below w.heap.size w w':=by
 subst hV;have HH:=Ab H;clear H;go_enter Tryz.func207,Tryz.ntmps207;go_wp2_with fail
 refine(Aa HH).mono ?_;rintro e w1 ⟨rfl,hb1⟩;go_wp2
 go_ret
 exact⟨rfl,hb1⟩
def G6(k:Bool)(x:It):List UInt8:=if k then AF x.2.size++(x.2.data.toList++(if x.2.size % 2=1 then [0] else [])) else AF x.1
def bytesOf:List Bool->List It->List UInt8
 |k :: ks,x :: v=>G6 k x++bytesOf ks v
 |_,_=>[]
theorem Gt:∀(ks:List Bool) (v:List It) (k:Bool) (x:It),ks.length=v.length->bytesOf (ks++[k]) (v++[x])=bytesOf ks v++G6 k x:=by
 intro ks;induction ks with
 |nil=>intro v k x h;cases v with
  |nil=>simp[bytesOf]
  |cons y v=>simp at h
 |cons a ks ih=>intro v k x h;cases v with
  |nil=>simp at h
  |cons y v=>
   simp only[List.cons_append,bytesOf];rw[ih v k x (by simpa using h),List.append_assoc]
theorem PW(k:Bool)(x:It)(h:k=true->x.2.size<=14):(G6 k x).length<=17:=by
 unfold G6;cases k with
 |false=>simp[AF]
 |true=>
  have h14:=h rfl;have e:x.2.data.toList.length=x.2.size:=by simp
  simp only[if_true,List.length_append,e];split<;>simp[AF]<;>omega
theorem Zl(a t:List UInt8)(S:ByteArray):({data:=a.toArray}++{data:=t.toArray}++S:ByteArray)={data:=(a++(t++(S.data.toList++[]))).toArray}:=by
 have h:S={data:=S.data.toList.toArray}:=by simp
 rw[List.append_nil];conv=>lhs;rw[h]
 rw[ByteArray.mk_append_mk,ByteArray.mk_append_mk,List.append_assoc]
theorem ZZ(a t:List UInt8)(S:ByteArray):({data:=a.toArray}++{data:=t.toArray}++S++{data:=#[0]}:ByteArray)={data:=(a++(t++(S.data.toList++[0]))).toArray}:=by
 rw[Zl,List.append_nil,show ({data:=#[0]}:ByteArray)={data:=[0].toArray} from rfl,ByteArray.mk_append_mk];simp
def PI(ks:List Bool)(v:List It):Prop:=ks.length=v.length/\∀(i:Nat) (k:Bool) (x:It),ks[i]?=some k->v[i]?=some x->(k=true->x.2.size<=14)/\(k=false->-32768<=x.1/\x.1<=65535)
theorem NA{ks:List Bool}{v:List It}(h:PI ks v):∀i,i<=v.length->(bytesOf (ks.take i) (v.take i)).length<=17*i:=by
 intro i;induction i with
 |zero=>intro _;simp[bytesOf]
 |succ i ih=>
  intro hi;have hk:=h.1;obtain⟨k,hkk⟩:∃k,ks[i]?=some k:=⟨_,List.getElem?_eq_getElem (by omega)⟩;obtain⟨x,hx⟩:∃x,v[i]?=some x:=⟨_,List.getElem?_eq_getElem (by omega)⟩;rw[List.take_add_one,List.take_add_one,hkk,hx,Option.toList_some,Option.toList_some,Gt _ _ _ _ (by simp;omega),List.length_append];have h1:=ih (by omega);have h2:=PW k x (h.2 i k x hkk hx).1;omega
theorem KG{ks:List Bool}{v:List It}(h:PI ks v){i:Nat}{k:Bool}{x:It}(hk:ks[i]?=some k)(hx:v[i]?=some x):bytesOf (ks.take (i+1)) (v.take (i+1))=bytesOf (ks.take i) (v.take i)++G6 k x:=by
 have hl:=h.1;have h1:i<ks.length:=(List.getElem?_eq_some_iff.1 hk).1;rw[List.take_add_one,List.take_add_one,hk,hx,Option.toList_some,Option.toList_some,Gt _ _ _ _ (by simp;omega)]
theorem QL(s:ByteArray)(V:Value)(v:List It)(ks:List Bool)(w:World)(hI:Items w V v)(hn:v.length<=100000)(hK:PI ks v)
  (HT:Calls Tryz.prog 240 #[.string s,.int .i64 0,V,.slice none 0 0] w fun e w'=>∃O',e=.returned O'/\C6 w w' O' ks):
  Calls Tryz.prog 208 #[.string s,V] w fun e w'=>e=.returned (.string ⟨(bytesOf ks v).toArray⟩)/\Below w.heap.size w w':=by
 have HTT:=Ab HT;have HII:=Ab hI;have HKK:=Ab hK;obtain⟨a,cap,hV,_,_⟩:=hI;subst hV;clear HT hK;go_enter Tryz.func208,Tryz.ntmps208;go_wp2_with fail
 refine(Aa HTT).mono ?_;rintro e w1 ⟨O,rfl,hO⟩;have HOO:=Ab hO;clear hO HTT;go_wp2;go_loopw [6,7] (fun sv iv wr=>∃i:Nat,i<=v.length/\iv=.int .i64 i/\sv=.string ⟨(bytesOf (ks.take i) (v.take i)).toArray⟩/\Below w1.heap.size w1 wr) (fun _ iv _=>v.length-(intOf iv).toNat)
 case atStart=>exact⟨0,Nat.zero_le _,rfl,rfl,Below.refl _ _⟩
 case round=>
  obtain⟨i,hi,rfl,rfl,hb⟩:=hrel;have hacc:=NA (Aa HKK) i hi;by_cases hlt:i<v.length
  ·obtain⟨x,hx⟩:∃x,v[i]?=some x:=⟨_,List.getElem?_eq_getElem hlt⟩;obtain⟨k,hk⟩:∃k,ks[i]?=some k:=⟨_,List.getElem?_eq_getElem (by have:=(Aa HKK).1;omega)⟩;have hor:=(Aa HOO).go hb;obtain⟨b,off,cap',hV,hbl,f0,f1⟩:=((Aa HII).below hor.below).at hx;cases hV;have hstep:=KG (Aa HKK) hk hx;have hkd:=(Aa HKK).2 i k x hk hx;obtain⟨og,ocap,rfl,fo⟩:∃og ocap,O=.slice (some ⟨og,0,none⟩) ks.length ocap/\wr.cell? ⟨og,i,none⟩=some (.bool k):=by
    have hcl:=fun g=>hor.own.cells (g:=g)
    rcases hor.own.2 with ⟨_,h0⟩|⟨g,c2,cur,hv,_⟩
    ·have:=(Aa HKK).1;omega
    ·refine⟨g,c2,hv,?_⟩;have:=hcl g (by rw[hv];rfl) i (.bool k) (by rw[List.getElem?_map,hk];rfl);rw[show (⟨g,0,none⟩:Addr).add i=⟨g,i,none⟩ by simp[Addr.add];omega]at this;exact this
   have hkl:(i:Int)<(ks.length:Int):=by have:=(Aa HKK).1;omega
   generalize bytesOf (ks.take i) (v.take i)=acc at *;have HST:=Ab hstep;clear hstep hk hx hor;cases k with
   |false=>
    obtain⟨n1,n2⟩:=hkd.2 rfl;have H2:=Ab (fun w=>Qp x.1 w n1 n2);have HR:Hid (bytesOf (ks.take (i+1)) (v.take (i+1))=acc++AF x.1):=by rw[Aa HST];rfl
    clear HST hkd f1;go_wp2_with fail
    refine((Aa H2) _).mono ?_;rintro e w2 ⟨rfl,hb2⟩;have hb':=hb.trans (hb2.mono hb.size);have hs2:(AF x.1).length=2:=rfl;generalize AF x.1=tw at *;go_wp2;go_roundw
    case rel=>exact⟨i+1,by omega,by go_num,by rw[Aa HR,ByteArray.mk_append_mk],hb'⟩
    case measure=>simp[intOf];omega
   |true=>
    have h14:=hkd.1 rfl;obtain⟨N,S⟩:=x;simp only at h14 f0 f1;have H2:=Ab (fun w=>Qp (S.size:Int) w (by omega) (by omega));have hs2:(AF (S.size:Int)).length=2:=rfl;have hSl:S.toList.length=S.size:=by rw[ByteArray.toList_eq];simp
    have HR:Hid (bytesOf (ks.take (i+1)) (v.take (i+1))=acc++(AF (S.size:Int)++(S.data.toList++(if S.size % 2=1 then [0] else [])))):=by rw[Aa HST];rfl
    generalize AF (S.size:Int)=tw at *;clear HST hkd;by_cases hodd:S.size % 2=1
    ·have hoI:((S.size:Int) % 2==1)=true:=by simp;omega
     rw[if_pos hodd]at HR;go_wp2_with fail
     go_region_with (go_at_call 219;refine((Aa H2) _).mono ?_;rintro e w2 ⟨rfl,hb2⟩;have f1':=(hb2.cell (p:=⟨b,off+i*2+1,none⟩) (by exact hbl)).trans f1)
     all_goals
      have hb':Below w1.heap.size w1 w2:=hb.trans (Below.mono ⟨hb2.os,hb2.tape,hb2.output,hb2.size,hb2.block⟩ hb.size);go_wp2;go_roundw
      case rel=>exact⟨i+1,by omega,by go_num,by rw[Aa HR];exact congrArg Value.string (ZZ acc tw S),hb'⟩
      case measure=>simp[intOf];omega
    ·have hoI:((S.size:Int) % 2==1)=false:=by simp;omega
     rw[if_neg hodd]at HR;go_wp2_with fail
     go_region_with (go_at_call 219;refine((Aa H2) _).mono ?_;rintro e w2 ⟨rfl,hb2⟩;have f1':=(hb2.cell (p:=⟨b,off+i*2+1,none⟩) (by exact hbl)).trans f1)
     all_goals
      have hb':Below w1.heap.size w1 w2:=hb.trans (Below.mono ⟨hb2.os,hb2.tape,hb2.output,hb2.size,hb2.block⟩ hb.size);go_wp2;go_roundw
      case rel=>exact⟨i+1,by omega,by go_num,by rw[Aa HR];exact congrArg Value.string (Zl acc tw S),hb'⟩
      case measure=>simp[intOf];omega
  ·obtain rfl:i=v.length:=by omega
   rw[List.take_length,List.take_of_length_le (by have:=(Aa HKK).1;omega)];go_wp2
   go_ret
   exact⟨rfl,(Aa HOO).below.trans (hb.mono (Aa HOO).below.size)⟩
theorem CM(w:World):Calls Tryz.prog 126 #[] w fun e w'=>e=.returned (.agg #[.int .i64 4,.int .i64 0])/\Below w.heap.size w w':=by
 go_enter Tryz.func126,Tryz.ntmps126;go_wp2;exact bodyPost_ret (v:=.agg #[.int .i64 4,.int .i64 0]) (by simp[results,Tryz.results126,go_sem]) rfl ⟨rfl,(Below.refl _ _).alloc (Nat.le_refl _) _⟩
def Wr(w:World)(b:Nat)(L O:Value):Prop:=w.heap[b]?=some (.cells #[L,O] 201 (0,0))
theorem Wr.left{w:World}{b:Nat}{L O:Value}(h:Wr w b L O):w.cell? ⟨b,0,none⟩=some L:=by
 unfold Wr at h;simp[World.cell?,h]
theorem Wr.out{w:World}{b:Nat}{L O:Value}(h:Wr w b L O):w.cell? ⟨b,1,none⟩=some O:=by
 unfold Wr at h;simp[World.cell?,h]
theorem Wr.ZQ{w:World}{b:Nat}{L O:Value}(h:Wr w b L O):w.frozen? ⟨b,0,none⟩=false:=by
 unfold Wr at h;simp[World.frozen?,h]
theorem Wr.MY{w:World}{b:Nat}{L O:Value}(h:Wr w b L O):w.frozen? ⟨b,1,none⟩=false:=by
 unfold Wr at h;simp[World.frozen?,h]
theorem Wr.lt{w:World}{b:Nat}{L O:Value}(h:Wr w b L O):b<w.heap.size:=lt_of_block h
theorem Wr.set0{w:World}{b:Nat}{L O:Value}(h:Wr w b L O)(x:Value):Wr (w.setCell ⟨b,0,none⟩ x) b x O:=by
 unfold Wr at h ⊢;simp only[World.setCell,Array.getElem?_modify,h];simp
theorem Wr.set1{w:World}{b:Nat}{L O:Value}(h:Wr w b L O)(x:Value):Wr (w.setCell ⟨b,1,none⟩ x) b L x:=by
 unfold Wr at h ⊢;simp only[World.setCell,Array.getElem?_modify,h];simp
theorem Wr.alloc{w:World}{b:Nat}{L O:Value}(h:Wr w b L O)(o:Obj):Wr (w.alloc o) b L O:=by
 have hl:=h.lt;unfold Wr at h ⊢;rw[Below.heap_alloc w o b hl];exact h
theorem Wr.below{w w':World}{b:Nat}{L O:Value}(h:Wr w b L O)(hb:Below w.heap.size w w'):Wr w' b L O:=by
 have hl:=h.lt;unfold Wr at h ⊢;rw[hb.block b hl];exact h
theorem P7(b:Nat)(a:Option Addr)(cap:Nat)(O:Value)(w:World)(h:Wr w b (.slice a 0 cap) O):
  Calls Tryz.prog 283 #[.pointer (some ⟨b,0,none⟩)] w fun e w'=>e=A5 4 0/\Below w.heap.size w w':=by
 have h1:=fun o=>(h.alloc o).left
 have HN:=Ab CM;clear h;go_enter Tryz.func283,Tryz.ntmps283;go_wp2_with fail
 refine((Aa HN) _).mono ?_;rintro e w1 ⟨rfl,hb1⟩;go_wp2;exact⟨rfl,rfl,((Below.refl _ _).alloc (Nat.le_refl _) _).trans (hb1.mono (by simp))⟩
def DF(l:List UInt8):List Value:=l.map fun c=>Value.int .u8 (c.toNat:Int)
theorem Be{w w':World}{B n size:Nat}{e:TypeId}{v:Value}{xs:List Value}(h:w.ownsRow B e size v n xs)(hb:Below w.heap.size w w'):w'.ownsRow B e size v n xs:=by
 obtain⟨hl,h⟩:=h;refine⟨hl,?_⟩;rcases h with h|⟨g,cap,cur,hv,hg,hh,r⟩
 ·exact Or.inl h
 ·refine Or.inr ⟨g,cap,cur,hv,hg,?_,r⟩;rw[hb.block g (lt_of_block hh)];exact hh
theorem Lf{w:World}{B n size k o:Nat}{e:TypeId}{v x:Value}{xs:List Value}(h:w.ownsRow B e size v n xs)(hk:k<B):(w.setCell ⟨k,o,none⟩ x).ownsRow B e size v n xs:=by
 obtain⟨hl,h⟩:=h;refine⟨hl,?_⟩;rcases h with h|⟨g,cap,cur,hv,hg,hh,r⟩
 ·exact Or.inl h
 ·refine Or.inr ⟨g,cap,cur,hv,hg,?_,r⟩;rw[Below.heap_setCell _ _ _ _ (by simp;omega)];exact hh
theorem GN(l:List UInt8):∀u∈DF l,u.oneCell'=true:=by
 intro u hu;unfold DF at hu;obtain⟨c,_,rfl⟩:=List.mem_map.1 hu;rfl
structure WS(w0 w:World)(L:Value)(v:List It)(O:Value)(out:List UInt8):Prop where
 wr:Wr w w0.heap.size L O
 items:Items w0 L v
 below:Below w0.heap.size w0 w
 own:w.ownsRow (w0.heap.size+1) 5 1 O out.length (DF out)
structure Wk(b:Nat)(O O':Value)(w w':World):Prop where
 size:w.heap.size<=w'.heap.size
 block:∀k,k<w.heap.size->k≠b->O.ownBlock≠some k->w'.heap[k]?=w.heap[k]?
 row:O'.ownBlock=O.ownBlock\/∃g,O'.ownBlock=some g/\w.heap.size<=g
theorem Wk.trans{b:Nat}{O O1 O2:Value}{w w1 w2:World}(h:Wk b O O1 w w1)(k:Wk b O1 O2 w1 w2):Wk b O O2 w w2:=by
 have hs:=h.size;refine⟨Nat.le_trans h.size k.size,fun i hi hb hr=>?_,?_⟩
 ·rw[k.block i (by omega) hb ?_,h.block i hi hb hr];rcases h.row with h1|⟨g,h1,h2⟩
  ·rw[h1];exact hr
  ·rw[h1];intro e;cases e;omega
 ·rcases k.row with k1|⟨g,k1,k2⟩
  ·rcases h.row with h1|⟨g,h1,h2⟩
   ·exact Or.inl (k1.trans h1)
   ·exact Or.inr ⟨g,k1.trans h1,h2⟩
  ·exact Or.inr ⟨g,k1,by omega⟩
theorem Wk.of_below{b:Nat}{O:Value}{w w':World}(h:Below w.heap.size w w'):Wk b O O w w':=⟨h.size,fun k hk _ _=>h.block k hk,Or.inl rfl⟩
theorem Wk.cell{b:Nat}{O O':Value}{w w':World}(h:Wk b O O' w w'){k o:Nat}(hk:k<w.heap.size)(hb:k≠b)(hr:O.ownBlock≠some k):w'.cell? ⟨k,o,none⟩=w.cell? ⟨k,o,none⟩:=World.cell?_of_block (w:=w) (h.block k hk hb hr)
theorem WS.row{w0 w:World}{L O:Value}{v:List It}{out:List UInt8}(h:WS w0 w L v O out){k:Nat}(hk:O.ownBlock=some k):w0.heap.size<k/\k<w.heap.size:=by
 have:=h.own.lt k hk;omega
theorem WS.go{w0 w w':World}{L O:Value}{v:List It}{out:List UInt8}(h:WS w0 w L v O out)(hb:Below w.heap.size w w'):WS w0 w' L v O out:=
 ⟨h.wr.below hb,h.items,h.below.trans (hb.mono h.below.size),Be h.own hb⟩
theorem Oc{w:World}{L:Value}{x:It}{v:List It}(h:Items w L (x :: v)):∃g off cap,L=.slice (some ⟨g,off,none⟩) (v.length+1) cap/\v.length+1<=cap/\g<w.heap.size/\w.cell? ⟨g,off,none⟩=some (.int .i64 x.1)/\w.cell? ⟨g,off+1,none⟩=some (.string x.2)/\Items w (.slice (some ⟨g,off+2,none⟩) v.length (cap-1)) v/\(cap=1->Items w (.slice (some ⟨g,off,none⟩) v.length 0) v):=by
 obtain⟨a,cap,hL,hc,h⟩:=h;rcases h with h|⟨g,off,ha,hl,hx⟩
 ·cases h
 ·subst ha;simp only[List.length_cons]at hL hc;have h0:=hx 0 x rfl;refine⟨g,off,cap,hL,hc,hl,by simpa using h0.1,by simpa using h0.2,⟨_,_,rfl,by omega,?_⟩,fun hc1=>⟨_,_,rfl,by omega,Or.inl ?_⟩⟩
  ·refine Or.inr ⟨g,off+2,rfl,hl,fun j y hj=>?_⟩;have h1:=hx (j+1) y (by simpa using hj);rw[show off+2+j*2=off+(j+1)*2 by omega];exact h1
  ·exact List.eq_nil_of_length_eq_zero (by omega)
theorem Fb(w0 w:World)(L O:Value)(x:It)(v:List It)(out:List UInt8)(h:WS w0 w L (x :: v) O out)(hn:v.length<=9000000000000):
  Calls Tryz.prog 283 #[.pointer (some ⟨w0.heap.size,0,none⟩)] w fun e w'=>e=.returned (.agg #[.int .i64 x.1,.string x.2])/\∃L',WS w0 w' L' v O out/\Wk w0.heap.size O O w w':=by
 obtain⟨g,off,cap,rfl,hc,hg,f0,f1,it1,it2⟩:=Oc h.items;have hbz:=h.below.size;obtain⟨b,hbb⟩:∃b,b=w0.heap.size:=⟨_,rfl⟩;have hwr:=h.wr;have hlt:=hwr.lt;have hgw:g<w.heap.size:=by omega
 have e0:=fun o=>(World.cell?_of_block (w:=w) (a:=⟨g,off,none⟩) (Below.heap_alloc w o g hgw)).trans ((h.below.cell (p:=⟨g,off,none⟩) hg).trans f0)
 have e1:=fun o=>(World.cell?_of_block (w:=w) (a:=⟨g,off+1,none⟩) (Below.heap_alloc w o g hgw)).trans ((h.below.cell (p:=⟨g,off+1,none⟩) hg).trans f1)
 have h1:=fun o=>(hwr.alloc o).left
 have h2:=fun o=>(hwr.alloc o).ZQ
 have HS:=Ab h;have hne:¬w.heap.size=w0.heap.size:=by omega
 have fin:∀L',Items w0 L' v->WS w0 (((w.setCell ⟨w0.heap.size,0,none⟩ L').alloc (.cells #[.int .i64 x.1,.string x.2] 106)).alloc (.cells #[.int .i64 x.1,.string x.2] 106)) L' v O out/\Wk w0.heap.size O O w (((w.setCell ⟨w0.heap.size,0,none⟩ L').alloc (.cells #[.int .i64 x.1,.string x.2] 106)).alloc (.cells #[.int .i64 x.1,.string x.2] 106)):=by
  intro L' hi;have hb:Below w0.heap.size w0 (w.setCell ⟨w0.heap.size,0,none⟩ L'):=h.below.setCell (by simp) _;refine⟨⟨((hwr.set0 L').alloc _).alloc _,hi,(hb.alloc (by simp;omega) _).alloc (by simp;omega) _,((Lf h.own (by omega)).alloc _).alloc _⟩,⟨by simp;omega,fun k hk hkb _=>?_,Or.inl rfl⟩⟩;rw[Below.heap_alloc _ _ _ (by simp;omega),Below.heap_alloc _ _ _ (by simp;omega),Below.heap_setCell _ _ _ _ (by simpa using hkb)]
 have FIN:=Ab fin;clear h hwr f0 f1 hbb fin;by_cases hc1:cap=1
 ·subst hc1;obtain rfl:v=[]:=List.eq_nil_of_length_eq_zero (by omega);have it:=it2 rfl;clear it1 it2;have HIT:=Ab it;clear it;go_enter Tryz.func283,Tryz.ntmps283;go_wp2;exact bodyPost_ret (v:=.agg #[.int .i64 x.1,.string x.2]) (by simp[results,Tryz.results283,go_sem]) rfl ⟨rfl,_,Aa FIN _ (Aa HIT)⟩
 ·have HIT:=Ab it1;clear it1 it2;go_enter Tryz.func283,Tryz.ntmps283;go_wp2;exact bodyPost_ret (v:=.agg #[.int .i64 x.1,.string x.2]) (by simp[results,Tryz.results283,go_sem]) rfl ⟨rfl,_,Aa FIN _ (Aa HIT)⟩
theorem info5:(Tryz.prog.info? 5).map (fun i=>(i.zero,i.size,i.bytes))=some (some (.int .u8 0),1,1):=by kernel_rfl
theorem Am{w:World}{B n size:Nat}{e:TypeId}{v:Value}{xs:List Value}(h:w.ownsRow B e size v n xs):∃a k c,v=.slice a k c:=by
 rcases h.2 with ⟨hv,_⟩|⟨g,cap,cur,hv,_⟩
 ·exact⟨_,_,_,hv⟩
 ·exact⟨_,_,_,hv⟩
theorem Y8(n:Int):IntKind.u16.wrap n=n % 65536:=by
 simp[IntKind.wrap,IntKind.bits,IntKind.signed]
theorem Qq{w0 w w1:World}{L O O1:Value}{v:List It}{out news:List UInt8}{o:Obj}(h:WS w0 w L v O out)(hown:w1.ownsRow (w0.heap.size+1) 5 1 O1 (out.length+news.length) (DF out++DF news))(hg:(w.alloc o).grownBy w1 O.ownBlock)(hat:O1.ownBlock=O.ownBlock\/O1.ownBlock=some (w.alloc o).heap.size):
  Wr w1 w0.heap.size L O/\WS w0 (w1.setCell ⟨w0.heap.size,1,none⟩ O1) L v O1 (out++news)/\Wk w0.heap.size O O1 w (w1.setCell ⟨w0.heap.size,1,none⟩ O1):=by
 have hlt:=h.wr.lt;have hgs:(w.alloc o).heap.size=w.heap.size+1:=by simp
 have hs1:=hg.size;have keep:∀k,k<w.heap.size->O.ownBlock≠some k->w1.heap[k]?=w.heap[k]?:=by
  intro k hk hr;rw[hg.block k (by omega) (fun e=>hr e.symm)];exact Below.heap_alloc _ _ _ hk
 have hrow:∀k,O.ownBlock=some k->w0.heap.size<k:=fun k hk=>(h.row hk).1
 have hwr:Wr w1 w0.heap.size L O:=by
  have:=h.wr;unfold Wr at this ⊢;rw[keep _ hlt (fun e=>by have:=hrow _ e;omega)];exact this
 refine⟨hwr,⟨hwr.set1 O1,h.items,?_,?_⟩,⟨by simp;omega,fun k hk hkb hr=>?_,?_⟩⟩
 ·exact((h.below.alloc (by omega) o).grown hg (by omega) (fun k hk=>by have:=hrow k hk;omega)).setCell (by simp) _
 ·have:=Lf (k:=w0.heap.size) (o:=1) (x:=O1) hown (by omega);rw[List.length_append];unfold DF at this ⊢;rw[List.map_append];exact this
 ·rw[Below.heap_setCell _ _ _ _ (by simpa using hkb)];exact keep k hk hr
 ·rcases hat with h1|h1
  ·exact Or.inl h1
  ·exact Or.inr ⟨_,h1,by omega⟩
theorem WS.drew{w0 w:World}{L O:Value}{v:List It}{out:List UInt8}(h:WS w0 w L v O out):WS w0 w.drew L v O out:=⟨h.wr,h.items,h.below.drew,h.own⟩
theorem H9(w0 w:World)(L O:Value)(v:List It)(out:List UInt8)(n:Int)(h:WS w0 w L v O out)(hol:out.length<=1000000):
  Calls Tryz.prog 186 #[O,.int .i64 n] w fun e w'=>∃a k c,e=.returned (.slice a k c)/\Wr w' w0.heap.size L O/\WS w0 (w'.setCell ⟨w0.heap.size,1,none⟩ (.slice a k c)) L v (.slice a k c) (out++AF n)/\Wk w0.heap.size O (.slice a k c) w (w'.setCell ⟨w0.heap.size,1,none⟩ (.slice a k c)):=by
 have hbz:=h.wr.lt;have how:=h.own;have HH:=Ab h;have HN:Hid (∀(j:Nat) (u:Value),(DF (AF n))[j]?=some u->(w.alloc (.cells #[.int .u8 (IntKind.u16.wrap n / 256 % 256),.int .u8 (IntKind.u16.wrap n % 256)] 5)).cell? ((⟨w.heap.size,0,none⟩:Addr).add j)=some u):=by
  intro j u hj;rw[Y8];unfold DF AF at hj;match j,hj with
  |0,hj=>
   simp at hj;rw[CZ (by omega) (by omega)]at hj;subst hj;rw[show n % 65536 / 256 % 256=n % 65536 / 256 by omega];simp[Addr.add,go_sem]
  |1,hj=>
   simp at hj;rw[CZ (by omega) (by omega)]at hj;subst hj;rw[show n % 65536 % 256=n % 256 by omega];simp[Addr.add,go_sem]
 obtain⟨oa,ocap,hO⟩:∃a c,O=.slice a out.length c:=by
  rcases how.2 with ⟨hv,h0⟩|⟨g,cap,cur,hv,_⟩
  ·exact⟨none,0,by rw[hv,h0]⟩
  ·exact⟨_,_,hv⟩
 subst hO;clear h;obtain⟨i0,hi,hz0,hz1,hz2⟩:=info_parts info5;go_enter Tryz.func186,Tryz.ntmps186;go_wp2_with (at_builtin;refine wpList_append_own_at _ rfl (.tmp 8) (.tmp 14) 199 rfl (w0.heap.size+1) 5 i0 (.int .u8 0) 1 1 Tryz.underlying199 hi hz0 hz1 hz2 rfl (by decide) _ out.length (DF out) rfl (by exact how.alloc _) ⟨w.heap.size,0,none⟩ 2 2 (DF (AF n)) rfl rfl (Aa HN) (by exact GN _) (by unfold maxLen;omega) (by omega) (by simp;omega) ?_)
 intro O1 w1 hown hgrow _ hat;obtain⟨oa1,on1,oc1,hO1⟩:=Am hown;subst hO1;obtain⟨hwr,hws,hwk⟩:=Qq (Aa HH) hown hgrow (by simpa using hat);have HWR:=Ab hwr;have HWS:=Ab hws;have HWK:=Ab hwk;clear hown hgrow hat hwr hws hwk how;go_wp2
 go_ret
 exact⟨_,_,_,rfl,Aa HWR,Aa HWS,Aa HWK⟩
theorem Mq(w0 w:World)(L O:Value)(out:List UInt8)(lo hi':Int)(h:WS w0 w L [] O out):
  Calls Tryz.prog 281 #[.pointer (some ⟨w0.heap.size,0,none⟩),.int .i64 lo,.int .i64 hi'] w fun e w'=>e=A5 4 0/\Below w0.heap.size w0 w':=by
 obtain⟨a,cap,hL,_,_⟩:=h.items;subst hL;have H1:=Ab (P7 w0.heap.size a cap O w h.wr);have hb:=h.below;clear h;go_enter Tryz.func281,Tryz.ntmps281;go_wp2_with fail
 refine(Aa H1).mono ?_;rintro e w1 ⟨rfl,hb1⟩;go_wp2;exact⟨rfl,rfl,hb.trans (hb1.mono hb.size)⟩
theorem Mk(w0 w:World)(L O:Value)(x:It)(v:List It)(out:List UInt8)(lo hi':Int)(h:WS w0 w L (x :: v) O out)(hn:v.length<=9000000000000)(hS:¬x.2.toList=[]):
  Calls Tryz.prog 281 #[.pointer (some ⟨w0.heap.size,0,none⟩),.int .i64 lo,.int .i64 hi'] w fun e w'=>e=A5 4 0/\Below w0.heap.size w0 w':=by
 have H1:=Ab (Fb w0 w L O x v out h hn);have HN:=Ab CM;clear h;obtain⟨N,S⟩:=x;simp only at H1 hS;go_enter Tryz.func281,Tryz.ntmps281;go_wp2_with fail
 refine(Aa H1).mono ?_;rintro e w1 ⟨rfl,L',hws,hwk⟩;have hb:=hws.below;have hbz:=hb.size;clear hws hwk;go_wp2_with fail
 refine((Aa HN) _).mono ?_;rintro e w2 ⟨rfl,hb2⟩;go_wp2;exact⟨rfl,rfl,(hb.alloc (by omega) _).trans (hb2.mono (by simp;omega))⟩
theorem Ml(w0 w:World)(L O:Value)(x:It)(v:List It)(out:List UInt8)(lo hi':Int)(h:WS w0 w L (x :: v) O out)(hn:v.length<=9000000000000)(hS:x.2.toList=[])(hl:x.1<lo):
  Calls Tryz.prog 281 #[.pointer (some ⟨w0.heap.size,0,none⟩),.int .i64 lo,.int .i64 hi'] w fun e w'=>e=A5 4 0/\Below w0.heap.size w0 w':=by
 have H1:=Ab (Fb w0 w L O x v out h hn);have HN:=Ab CM;clear h;obtain⟨N,S⟩:=x;simp only at H1 hS hl;go_enter Tryz.func281,Tryz.ntmps281;go_wp2_with fail
 refine(Aa H1).mono ?_;rintro e w1 ⟨rfl,L',hws,hwk⟩;have hb:=hws.below;have hbz:=hb.size;clear hws hwk;go_wp2_with fail
 refine((Aa HN) _).mono ?_;rintro e w2 ⟨rfl,hb2⟩;go_wp2;exact⟨rfl,rfl,(hb.alloc (by omega) _).trans (hb2.mono (by simp;omega))⟩
theorem Mm(w0 w:World)(L O:Value)(x:It)(v:List It)(out:List UInt8)(lo hi':Int)(h:WS w0 w L (x :: v) O out)(hn:v.length<=9000000000000)(hS:x.2.toList=[])(hl:¬x.1<lo)(hh:hi'<x.1):
  Calls Tryz.prog 281 #[.pointer (some ⟨w0.heap.size,0,none⟩),.int .i64 lo,.int .i64 hi'] w fun e w'=>e=A5 4 0/\Below w0.heap.size w0 w':=by
 have H1:=Ab (Fb w0 w L O x v out h hn);have HN:=Ab CM;clear h;obtain⟨N,S⟩:=x;simp only at H1 hS hl hh;go_enter Tryz.func281,Tryz.ntmps281;go_wp2_with fail
 refine(Aa H1).mono ?_;rintro e w1 ⟨rfl,L',hws,hwk⟩;have hb:=hws.below;have hbz:=hb.size;clear hws hwk;go_wp2_with fail
 refine((Aa HN) _).mono ?_;rintro e w2 ⟨rfl,hb2⟩;go_wp2;exact⟨rfl,rfl,(hb.alloc (by omega) _).trans (hb2.mono (by simp;omega))⟩
theorem Rn(w0 w:World)(L O:Value)(x:It)(v:List It)(out:List UInt8)(lo hi':Int)(h:WS w0 w L (x :: v) O out)(hn:v.length<=9000000000000)(hS:x.2.toList=[])(hl:¬x.1<lo)(hh:¬hi'<x.1)(hol:out.length<=1000000):
  Calls Tryz.prog 281 #[.pointer (some ⟨w0.heap.size,0,none⟩),.int .i64 lo,.int .i64 hi'] w fun e w'=>e=.returned (.int .i64 x.1)/\∃L' O',WS w0 w' L' v O' (out++AF x.1)/\Wk w0.heap.size O O' w w':=by
 have H1:=Ab (Fb w0 w L O x v out h hn);clear h;obtain⟨N,S⟩:=x;simp only at H1 hS hl hh ⊢;go_enter Tryz.func281,Tryz.ntmps281;go_wp2_with fail
 refine(Aa H1).mono ?_;rintro e w1 ⟨rfl,L',hws,hwk⟩;have hws2:=hws.go ((Below.refl w1.heap.size w1).alloc (Nat.le_refl _) (.cells #[.int .i64 N,.string S] 106));have H2:=Ab (H9 w0 _ L' O v out N hws2.drew hol);have hrow:O.ownBlock≠some w1.heap.size:=fun e=>by have:=(hws.row e).2;omega
 have hbz:=hws.wr.lt;have hout:=hws2.wr.out;have HWK:=Ab hwk;obtain⟨sa,sn,sc,hsO⟩:=Am hws2.own;subst hsO;clear hws hwk hws2;go_wp2_with fail
 go_region_with ((go_at_call 186;refine(Aa H2).mono ?_;rintro e w2 ⟨ta,tn,tc,rfl,hwr3,hws3,hwk3⟩;have t1:=hwr3.out;have t2:=hwr3.MY))
 all_goals
  have c0:(w2.setCell ⟨w0.heap.size,1,none⟩ (.slice ta tn tc)).cell? ⟨w1.heap.size,0,none⟩=some (.int .i64 N):=(hwk3.cell (by simp) (by omega) hrow).trans (by simp[go_sem]);have HW3:=Ab hws3;have HK3:=Ab ((Aa HWK).trans ((Wk.of_below (((Below.refl w1.heap.size w1).alloc (Nat.le_refl _) (.cells #[.int .i64 N,.string S] 106)).drew)).trans hwk3));clear hws3 hwk3 hwr3 t1 t2;generalize w2.setCell ⟨w0.heap.size,1,none⟩ (.slice ta tn tc)=W3 at *;go_wp2
  go_ret
  exact⟨rfl,L',_,Aa HW3,Aa HK3⟩
end Go.Proofs.YtblomippkddgiaaGreatDoor.V
