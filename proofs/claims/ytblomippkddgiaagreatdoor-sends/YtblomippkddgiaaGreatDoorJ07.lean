import Derived.Test.YtblomippkddgiaaGreatDoorJ06
import Derived.Defers
import Derived.Recover
set_option maxRecDepth 100000
set_option maxHeartbeats 1000000
namespace Go.Proofs.YtblomippkddgiaaGreatDoor.V
open Go.RowKit
abbrev It:=Int×ByteArray
abbrev Ck:=Option (List Bool×List It)
def AA(g:Nat->Nat)(f p:Nat)(v:List It):Option (List Bool×List Nat×List It):=
 if g p=97 then some ([],List.replicate (g (p+1)-48) (p+2),v)
 else if g p=114 then some ([],Pt.kids g f p,v)
 else match v with
  |[]=>none
  |x :: r=>
   if g p=115 then (if x.1=0/\x.2.size<=14 then some ([true],[],r) else none)
   else if x.2.size=0/\CL (g p)<=x.1/\x.1<=BF g f p then
    some ([false],(if g p=117 then [partOf (Pt.kids g f p) x.1] else if g p=113 then List.replicate x.1.toNat (p+2) else []),r)
   else none
def BZ(k0:List Bool):Ck->Ck
 |none=>none
 |some (k,r)=>some (k0++k,r)
def AX(E:Nat->List It->Ck):List Nat->List It->Ck
 |[],v=>some ([],v)
 |q :: qs,v=>match E q v with
  |none=>none
  |some (k,r)=>BZ k (AX E qs r)
def Dk(g:Nat->Nat):Nat->Nat->List It->Ck
 |0,_,_=>none
 |f+1,p,v=>match AA g f p v with
  |none=>none
  |some (k0,qs,r)=>BZ k0 (AX (Dk g f) qs r)
theorem FQ(e:Ck):BZ [] e=e:=by
 cases e with
 |none=>rfl
 |some e=>rfl
theorem E1(E:Nat->List It->Ck):∀(qs:List Nat) (q:Nat) (v:List It),AX E (qs++[q]) v=match AX E qs v with
  |none=>none
  |some (k,r)=>BZ k (E q r):=by
 intro qs;induction qs with
 |nil=>
  intro q v;simp only[List.nil_append,AX];cases E q v with
  |none=>rfl
  |some e=>simp[BZ]
 |cons a qs ih=>
  intro q v;simp only[List.cons_append,AX];cases E a v with
  |none=>rfl
  |some e=>
   obtain⟨k,r⟩:=e;simp only[ih];cases AX E qs r with
   |none=>rfl
   |some e'=>
    obtain⟨k',r'⟩:=e';simp only[BZ];cases E q r' with
    |none=>rfl
    |some e''=>simp
theorem FZ(E:Nat->List It->Ck){qs:List Nat}{v:List It}{k:Nat}(h:AX E (qs.take k) v=none):AX E qs v=none:=by
 revert v k
 induction qs with
 |nil=>intro v k h;simp[AX]at h
 |cons a qs ih=>
  intro v k h;cases k with
  |zero=>simp[AX]at h
  |succ k=>
   simp only[List.take_succ_cons,AX]at h ⊢;cases hE:E a v with
   |none=>rfl
   |some e=>
    obtain⟨ks,r⟩:=e;rw[hE]at h;simp only at h ⊢;cases hs:AX E (qs.take k) r with
    |none=>rw[ih hs];rfl
    |some e'=>rw[hs]at h;simp[BZ]at h
def Ga(E:List It->Ck):Prop:=∀v ks r,E v=some (ks,r)->r=v.drop ks.length/\ks.length<=v.length
theorem Dg{E:Nat->List It->Ck}:∀qs:List Nat,(∀q∈qs,Ga (E q))->Ga (AX E qs):=by
 intro qs;induction qs with
 |nil=>intro _ v ks r h;simp[AX]at h;obtain⟨rfl,rfl⟩:=h;simp
 |cons a qs ih=>
  intro hE v ks r h;simp only[AX]at h;cases ha:E a v with
  |none=>rw[ha]at h;cases h
  |some e=>
   obtain⟨k,r1⟩:=e;rw[ha]at h;simp only at h;obtain⟨h1,h2⟩:=hE a (by simp) v k r1 ha;cases hs:AX E qs r1 with
   |none=>rw[hs]at h;cases h
   |some e'=>
    obtain⟨k',r2⟩:=e';rw[hs]at h;simp only[BZ,Option.some.injEq,Prod.mk.injEq]at h;obtain⟨rfl,rfl⟩:=h;obtain⟨h3,h4⟩:=ih (fun q hq=>hE q (by simp[hq])) r1 k' r2 hs;subst h1;rw[List.length_drop]at h4;refine⟨?_,by simp;omega⟩;rw[h3,List.drop_drop,List.length_append]
theorem GB{g:Nat->Nat}{f p:Nat}{v:List It}{k0:List Bool}{qs:List Nat}{r:List It}(h:AA g f p v=some (k0,qs,r)):r=v.drop k0.length/\k0.length<=v.length:=by
 unfold AA at h;split at h
 ·cases h;simp
 ·split at h
  ·cases h;simp
  ·cases v with
   |nil=>cases h
   |cons x v=>
    simp only at h;split at h
    ·split at h
     ·cases h;simp
     ·cases h
    ·split at h
     ·cases h;simp
     ·cases h
theorem Cu(g:Nat->Nat):∀f p,Ga (Dk g f p):=by
 intro f;induction f with
 |zero=>intro p v ks r h;cases h
 |succ f ih=>
  intro p v ks r h;simp only[Dk]at h;cases hh:AA g f p v with
  |none=>rw[hh]at h;cases h
  |some e=>
   obtain⟨k0,qs,r0⟩:=e;rw[hh]at h;simp only at h;obtain⟨h1,h2⟩:=GB hh;cases hs:AX (Dk g f) qs r0 with
   |none=>rw[hs]at h;cases h
   |some e'=>
    obtain⟨k',r2⟩:=e';rw[hs]at h;simp only[BZ,Option.some.injEq,Prod.mk.injEq]at h;obtain⟨rfl,rfl⟩:=h;obtain⟨h3,h4⟩:=Dg qs (fun q _=>ih q) r0 k' r2 hs;subst h1;rw[List.length_drop]at h4;refine⟨?_,by simp;omega⟩;rw[h3,List.drop_drop,List.length_append]
def Items(w:World)(V:Value)(v:List It):Prop:=∃a cap,V=.slice a v.length cap/\v.length<=cap/\(v=[]\/∃b off,a=some ⟨b,off,none⟩/\b<w.heap.size/\∀j x,v[j]?=some x->w.cell? ⟨b,off+j*2,none⟩=some (.int .i64 x.1)/\w.cell? ⟨b,off+j*2+1,none⟩=some (.string x.2))
theorem Items.below{w w':World}{V:Value}{v:List It}(h:Items w V v)(hb:Below w.heap.size w w'):Items w' V v:=by
 obtain⟨a,cap,hV,hc,h⟩:=h;refine⟨a,cap,hV,hc,?_⟩;rcases h with h|⟨b,off,ha,hl,hx⟩
 ·exact Or.inl h
 ·refine Or.inr ⟨b,off,ha,Nat.lt_of_lt_of_le hl hb.size,fun j x hj=>?_⟩;obtain⟨h1,h2⟩:=hx j x hj;exact⟨(hb.cell (p:=⟨b,_,none⟩) hl).trans h1,(hb.cell (p:=⟨b,_,none⟩) hl).trans h2⟩
theorem Items.at{w:World}{V:Value}{v:List It}(h:Items w V v){i:Nat}{x:It}(hi:v[i]?=some x):∃b off cap,V=.slice (some ⟨b,off,none⟩) v.length cap/\b<w.heap.size/\w.cell? ⟨b,off+i*2,none⟩=some (.int .i64 x.1)/\w.cell? ⟨b,off+i*2+1,none⟩=some (.string x.2):=by
 obtain⟨a,cap,hV,_,h⟩:=h;rcases h with rfl|⟨b,off,ha,hl,hx⟩
 ·simp at hi
 ·subst ha;exact⟨b,off,cap,hV,hl,hx i x hi⟩
def vI(i:Nat):Ck->Int
 |none=>-1
 |some (ks,_)=>(i:Int)+(ks.length:Int)
def JX(s:ByteArray)(V:Value)(v:List It)(f:Nat):Prop:=∀(p i:Nat) (w:World),GV s f p->i<=v.length->Items w V v ->
 Calls Tryz.prog 239 #[.string s,.int .i64 p,V,.int .i64 i] w fun e w'=>e=.returned (.int .i64 (vI i (Dk (nx s) f p (v.drop i))))/\Below w.heap.size w w'
abbrev Cp(n q:Nat):Value:=.agg #[.int .i64 n,.int .i64 q]
abbrev A5(n q:Nat):Ending:=.panicked [{v:=.iface 86 (Cp n q),recovered:=false}]
theorem at_new(w:World)(s:ByteArray):At (w.alloc (.cells #[.string s,.int .i64 0] 206)) w.heap.size s 0:=by
 show (w.heap.push _)[w.heap.size]?=_;rw[Array.getElem?_push_size];rfl
theorem RG(s:ByteArray)(w:World)(hs:¬s.size<=40):
  Calls Tryz.prog 78 #[.string s] w fun e w'=>e=A5 1 0/\Below w.heap.size w w':=by
 have h:(40:Int)<(s.size:Int):=by omega
 clear hs;go_enter Tryz.func78,Tryz.ntmps78;go_wp2;exact⟨rfl,rfl,(Below.refl _ _).alloc (Nat.le_refl _) _⟩
theorem Gs{w v:World}{b:Nat}(hk:Ae b (w.alloc AZ) v)(hb:w.heap.size<=b):Below w.heap.size w v:=
 ((Below.refl _ _).alloc (Nat.le_refl _) AZ).trans ⟨hk.os,hk.tape,hk.output,hk.size,fun k h=>hk.block k (by simp;omega) (by omega)⟩
theorem Ol(s:ByteArray)(hs:s.size<=40)(w:World):Calls Tryz.prog 128 #[.pointer (some ⟨w.heap.size+1,0,none⟩)] ((w.alloc AZ).alloc (.cells #[.string s,.int .i64 0] 206)) (Co (w.heap.size+1) s (s.size+1) 0 ((w.alloc AZ).alloc (.cells #[.string s,.int .i64 0] 206))):=by
 have h:=at_new (w.alloc AZ) s;have e:(w.alloc AZ).heap.size=w.heap.size+1:=by simp
 rw[e]at h;exact WZ (w.heap.size+1) s hs (s.size+1) 0 _ h (by omega) (by omega)
theorem OH(s:ByteArray)(w:World)(hs:s.size<=40)(hT:(Pt.ty (nx s) (s.size+1) 0).1=false):
  Calls Tryz.prog 78 #[.string s] w fun e w'=>e=A5 2 (Pt.ty (nx s) (s.size+1) 0).2/\Below w.heap.size w w':=by
 have H:=Ol s hs w;unfold Co at H;simp only[hT,Bool.false_eq_true,if_false]at H;clear hT;go_enter Tryz.func78,Tryz.ntmps78;go_wp2_with fail
 refine H.mono ?_;rintro e w1 ⟨rfl,hk⟩;go_wp2;exact⟨rfl,rfl,Gs (((Ae.refl _ _).alloc _).trans hk) (by omega)⟩
theorem RH(s:ByteArray)(w:World)(hs:s.size<=40)(hT:(Pt.ty (nx s) (s.size+1) 0).1=true)(hq:(Pt.ty (nx s) (s.size+1) 0).2<s.size):
  Calls Tryz.prog 78 #[.string s] w fun e w'=>e=A5 2 (Pt.ty (nx s) (s.size+1) 0).2/\Below w.heap.size w w':=by
 have H:=Ol s hs w;unfold Co at H;simp only[hT,if_true]at H;clear hT;generalize (Pt.ty (nx s) (s.size+1) 0).2=q at *;have hq':(q:Int)<(s.size:Int):=by omega
 go_enter Tryz.func78,Tryz.ntmps78;go_wp2_with fail
 refine H.mono ?_;rintro e w1 ⟨c0,c1,c2,rfl,hk,ha,hr⟩;obtain⟨⟨x0,rfl⟩,⟨x1,rfl⟩,⟨ea,en,ec,rfl⟩⟩:=Cg hr;clear H hr;have hp:=fun o=>(ha.alloc o).place
 have hk':=((Ae.refl (w.heap.size+1) (w.alloc AZ)).alloc _).trans hk;have hb1:=ha.lt;go_wp2_with fail
 refine(E5 (w.heap.size+1) q s _ (ha.alloc _)).mono ?_;rintro e w2 ⟨rfl,hk2⟩;go_wp2;exact⟨rfl,rfl,Gs ((hk'.alloc _).trans hk2) (by omega)⟩
theorem U1(s:ByteArray)(w:World)(hs:s.size<=40)(hT:(Pt.ty (nx s) (s.size+1) 0).1=true)(hq:(Pt.ty (nx s) (s.size+1) 0).2=s.size):
  Calls Tryz.prog 78 #[.string s] w fun e w'=>(if 4<Pt.DK (nx s) (s.size+1) 0 then e=A5 3 0 else ∃c0 c1 c2,e=.returned (.agg #[c0,c1,c2])/\EU w' (fun k=>w.heap.size<=k) (nx s) (s.size+1) 0 c0 c1 c2)/\Below w.heap.size w w':=by
 have H:=Ol s hs w;unfold Co at H;simp only[hT,if_true,hq]at H;clear hT hq;have hD:=fun S c0 c1 c2 w' h=>QU (nx s) (s.size+1) (by omega) 0 S c0 c1 c2 w' h
 generalize hd:Pt.DK (nx s) (s.size+1) 0=d at *;have hd41:d<=41:=by have:=NN (nx s) (s.size+1) 0;omega
 have HD:=Ab hD;clear hD hd;by_cases h4:4<d
 ·have h4':(4:Int)<(d:Int):=by omega
  simp only[h4,if_true];go_enter Tryz.func78,Tryz.ntmps78;go_wp2_with fail
  refine H.mono ?_;rintro e w1 ⟨c0,c1,c2,rfl,hk,ha,hr⟩;clear H;obtain⟨⟨x0,rfl⟩,⟨x1,rfl⟩,⟨ea,en,ec,rfl⟩⟩:=Cg hr;have hp:=fun o=>(ha.alloc o).place
  have hk':=((Ae.refl (w.heap.size+1) (w.alloc AZ)).alloc _).trans hk;have HR:=Ab (fun o=>Bj ((BQ.refl _ _).alloc o) hr);clear hr;go_wp2_with fail
  refine((Aa HD) _ _ _ _ _ (Aa HR _)).mono ?_;rintro e w2 ⟨rfl,hb2⟩;go_wp2;refine⟨rfl,rfl,(Gs (hk'.alloc (.cells #[.int .u8 x0,.int .i64 x1,.slice ea en ec] 153)) (by omega)).trans (hb2.mono ?_)⟩;have:=hk'.size;simp at this ⊢;omega
 ·have h4':¬(4:Int)<(d:Int):=by omega
  simp only[h4,if_false];go_enter Tryz.func78,Tryz.ntmps78;go_wp2_with fail
  refine H.mono ?_;rintro e w1 ⟨c0,c1,c2,rfl,hk,ha,hr⟩;clear H;obtain⟨⟨x0,rfl⟩,⟨x1,rfl⟩,⟨ea,en,ec,rfl⟩⟩:=Cg hr;have hp:=fun o=>(ha.alloc o).place
  have hk':=((Ae.refl (w.heap.size+1) (w.alloc AZ)).alloc _).trans hk;have T0:=((EB.new w (.int .u8 0) (.int .i64 0) (.slice none 0 0)).keeps hk' (by omega)).alloc (.cells #[.int .u8 x0,.int .i64 x1,.slice ea en ec] 153);have T1:=EB.new w1 (.int .u8 x0) (.int .i64 x1) (.slice ea en ec);have hl1:=T0.lt;have hz1:w.heap.size+1<w1.heap.size:=ha.lt;have HR:=Ab hr;clear hr;go_wp2_with fail
  refine((Aa HD) _ _ _ _ _ (Bj ((BQ.refl _ _).alloc _) (Aa HR))).mono ?_;rintro e w2 ⟨rfl,hb2⟩;have hbk:∀k o,k<w1.heap.size+1->w2.cell? ⟨k,o,none⟩=(w1.alloc (.cells #[.int .u8 x0,.int .i64 x1,.slice ea en ec] 153)).cell? ⟨k,o,none⟩:=fun k o hk=>hb2.cell (p:=⟨k,o,none⟩) (by simpa using hk)
  have hfk:∀k o,k<w1.heap.size+1->w2.frozen? ⟨k,o,none⟩=(w1.alloc (.cells #[.int .u8 x0,.int .i64 x1,.slice ea en ec] 153)).frozen? ⟨k,o,none⟩:=fun k o hk=>hb2.frozen (p:=⟨k,o,none⟩) (by simpa using hk)
  obtain⟨u0,u1,u2,v0,v1,v2⟩:=T0.facts;obtain⟨x0',x1',x2',y0,y1,y2⟩:=T1.facts;rw[<-hbk _ _ (by omega)]at u0 u1 u2 x0' x1' x2';rw[<-hfk _ _ (by omega)]at v0 v1 v2 y0 y1 y2;clear hbk hfk T0 T1;go_wp2;have hz2:=hb2.size;have hk1s:=hk.size;simp at hz2 hk1s;refine bodyPost_ret (v:=.agg #[.int .u8 x0,.int .i64 x1,.slice ea en ec]) (by simp[results,Tryz.results78,go_sem,u0,u1,u2]) rfl ⟨⟨_,_,_,rfl,?_⟩,?_⟩
  ·have h1:EU w1 (fun k=>w.heap.size+2<=k) (nx s) (s.size+1) 0 (.int .u8 x0) (.int .i64 x1) (.slice ea en ec):=by simpa using Aa HR
   have h2:=Bj (((BQ.refl _ _).alloc (.cells #[.int .u8 x0,.int .i64 x1,.slice ea en ec] 153)).trans (⟨hb2.size,fun k _ hl=>hb2.block k hl⟩:BQ (fun k=>w.heap.size+2<=k) _ w2)) h1;refine CO (fun k hk _=>by omega) (Bj ?_ h2);exact(((BQ.refl _ _).setCell (by simp) _).setCell (by simp) _).setCell (by simp) _
  ·have h1:=(Gs (hk'.alloc (.cells #[.int .u8 x0,.int .i64 x1,.slice ea en ec] 153)) (by omega)).trans (hb2.mono (by simp;omega));exact((h1.setCell (by simp) _).setCell (by simp) _).setCell (by simp) _
theorem KC(n q:Nat)(w:World):(Instr.typeAssert (.iface 86 (Cp n q)) 20 86 true).run Tryz.prog w=.ok (.tuple #[Cp n q,.bool true]) w:=by kernel_rfl
theorem ND(n q:Nat)(w:World):
  Calls Tryz.prog 34 #[.iface 86 (Cp n q)] w fun e w'=>e=.returned (Cp n q)/\Below w.heap.size w w':=by
 have hta:=KC n q;go_enter Tryz.func34,Tryz.ntmps34;go_wp2;exact bodyPost_ret (v:=Cp n q) (by simp[results,Tryz.results34,go_sem]) rfl ⟨rfl,((Below.refl _ _).alloc (Nat.le_refl _) _).alloc (by simp) _⟩
theorem lt_of_cell{w:World}{k o:Nat}{v:Value}(h:w.cell? ⟨k,o,none⟩=some v):k<w.heap.size:=by
 rcases Nat.lt_or_ge k w.heap.size with hh|hh
 ·exact hh
 ·simp[World.cell?,Array.getElem?_eq_none hh]at h
theorem IE(i:Nat)(ks:List Bool)(e:Ck):vI i (BZ ks e)=vI (i+ks.length) e:=by
 cases e with
 |none=>rfl
 |some e=>obtain⟨a,b⟩:=e;simp only[BZ,vI,List.length_append];omega
theorem Qw(s:ByteArray)(p n:Nat)(a:Option Addr)(cap:Nat)(w:World):
  Calls Tryz.prog 259 #[.string s,.int .i64 p,.slice a n cap,.int .i64 n] w fun e w'=>e=.returned (.int .i64 (-1))/\Below w.heap.size w w':=by
 go_enter Tryz.func259,Tryz.ntmps259;go_wp2
 go_ret
 exact⟨rfl,Below.refl _ _⟩
theorem VU(s:ByteArray)(p n i b off cap:Nat)(N:Int)(S:ByteArray)(w:World)(hp:p<s.size)(hi:i<n)(hn:n<=9000000000000)(f0:w.cell? ⟨b,off+i*2,none⟩=some (.int .i64 N))(f1:w.cell? ⟨b,off+i*2+1,none⟩=some (.string S))(hc:nx s p=115)(h1:(N != 0)=false)(h2:¬(14:Int)<(S.size:Int)):
  Calls Tryz.prog 259 #[.string s,.int .i64 p,.slice (some ⟨b,off,none⟩) n cap,.int .i64 i] w fun e w'=>e=.returned (.int .i64 ((i:Int)+1))/\Below w.heap.size w w':=by
 have hby:=A6 hp hc;have hlt:¬((n:Int)<=(i:Int)):=by omega
 go_enter Tryz.func259,Tryz.ntmps259;go_wp2
 go_ret
 exact⟨rfl,(Below.refl _ _).alloc (Nat.le_refl _) _⟩
theorem Tq(s:ByteArray)(p n i b off cap:Nat)(N:Int)(S:ByteArray)(w:World)(hp:p<s.size)(hi:i<n)(hn:n<=9000000000000)(f0:w.cell? ⟨b,off+i*2,none⟩=some (.int .i64 N))(f1:w.cell? ⟨b,off+i*2+1,none⟩=some (.string S))(hc:nx s p=115)(h1:(N != 0)=true):
  Calls Tryz.prog 259 #[.string s,.int .i64 p,.slice (some ⟨b,off,none⟩) n cap,.int .i64 i] w fun e w'=>e=.returned (.int .i64 (-1))/\Below w.heap.size w w':=by
 have hby:=A6 hp hc;have hlt:¬((n:Int)<=(i:Int)):=by omega
 go_enter Tryz.func259,Tryz.ntmps259;go_wp2
 go_ret
 exact⟨rfl,(Below.refl _ _).alloc (Nat.le_refl _) _⟩
theorem Tt(s:ByteArray)(p n i b off cap:Nat)(N:Int)(S:ByteArray)(w:World)(hp:p<s.size)(hi:i<n)(hn:n<=9000000000000)(f0:w.cell? ⟨b,off+i*2,none⟩=some (.int .i64 N))(f1:w.cell? ⟨b,off+i*2+1,none⟩=some (.string S))(hc:nx s p=115)(h1:(N != 0)=false)(h2:(14:Int)<(S.size:Int)):
  Calls Tryz.prog 259 #[.string s,.int .i64 p,.slice (some ⟨b,off,none⟩) n cap,.int .i64 i] w fun e w'=>e=.returned (.int .i64 (-1))/\Below w.heap.size w w':=by
 have hby:=A6 hp hc;have hlt:¬((n:Int)<=(i:Int)):=by omega
 go_enter Tryz.func259,Tryz.ntmps259;go_wp2
 go_ret
 exact⟨rfl,(Below.refl _ _).alloc (Nat.le_refl _) _⟩
theorem Tm(s:ByteArray)(p n i b off cap:Nat)(N:Int)(S:ByteArray)(w:World)(hp:p<s.size)(hi:i<n)(hn:n<=9000000000000)(f0:w.cell? ⟨b,off+i*2,none⟩=some (.int .i64 N))(f1:w.cell? ⟨b,off+i*2+1,none⟩=some (.string S))(lo hi':Int)(HM:∀w,Calls Tryz.prog 243 #[.string s,.int .i64 p] w fun e w'=>e=.returned (.tuple #[.int .i64 lo,.int .i64 hi'])/\Below w.heap.size w w')(hne:((((s[p]).toNat:Nat):Int)==115)=false)(hS:¬S.toList=[]):
  Calls Tryz.prog 259 #[.string s,.int .i64 p,.slice (some ⟨b,off,none⟩) n cap,.int .i64 i] w fun e w'=>e=.returned (.int .i64 (-1))/\Below w.heap.size w w':=by
 have hlt:¬((n:Int)<=(i:Int)):=by omega
 have HMM:=Ab HM;clear HM;go_enter Tryz.func259,Tryz.ntmps259;go_wp2_with fail
 refine((Aa HMM) _).mono ?_;rintro e w1 ⟨rfl,hb1⟩;have g0:w1.cell? ⟨w.heap.size,0,none⟩=some (.int .i64 N):=(hb1.cell (p:=⟨w.heap.size,0,none⟩) (by simp)).trans (by simp[go_sem]);have g1:w1.cell? ⟨w.heap.size,1,none⟩=some (.string S):=(hb1.cell (p:=⟨w.heap.size,1,none⟩) (by simp)).trans (by simp[go_sem]);have hb:Below w.heap.size w w1:=((Below.refl _ _).alloc (Nat.le_refl _) _).trans (hb1.mono (by simp));have hsz:w.heap.size<w1.heap.size:=by have:=hb1.size;simp at this;omega
 clear f0 f1 hb1;go_wp2
 go_ret
 exact⟨rfl,hb⟩
theorem Tn(s:ByteArray)(p n i b off cap:Nat)(N:Int)(S:ByteArray)(w:World)(hp:p<s.size)(hi:i<n)(hn:n<=9000000000000)(f0:w.cell? ⟨b,off+i*2,none⟩=some (.int .i64 N))(f1:w.cell? ⟨b,off+i*2+1,none⟩=some (.string S))(lo hi':Int)(HM:∀w,Calls Tryz.prog 243 #[.string s,.int .i64 p] w fun e w'=>e=.returned (.tuple #[.int .i64 lo,.int .i64 hi'])/\Below w.heap.size w w')(hne:((((s[p]).toNat:Nat):Int)==115)=false)(hS:S.toList=[])(hl:N<lo):
  Calls Tryz.prog 259 #[.string s,.int .i64 p,.slice (some ⟨b,off,none⟩) n cap,.int .i64 i] w fun e w'=>e=.returned (.int .i64 (-1))/\Below w.heap.size w w':=by
 have hlt:¬((n:Int)<=(i:Int)):=by omega
 have HMM:=Ab HM;clear HM;go_enter Tryz.func259,Tryz.ntmps259;go_wp2_with fail
 refine((Aa HMM) _).mono ?_;rintro e w1 ⟨rfl,hb1⟩;have g0:w1.cell? ⟨w.heap.size,0,none⟩=some (.int .i64 N):=(hb1.cell (p:=⟨w.heap.size,0,none⟩) (by simp)).trans (by simp[go_sem]);have g1:w1.cell? ⟨w.heap.size,1,none⟩=some (.string S):=(hb1.cell (p:=⟨w.heap.size,1,none⟩) (by simp)).trans (by simp[go_sem]);have hb:Below w.heap.size w w1:=((Below.refl _ _).alloc (Nat.le_refl _) _).trans (hb1.mono (by simp));have hsz:w.heap.size<w1.heap.size:=by have:=hb1.size;simp at this;omega
 clear f0 f1 hb1;go_wp2
 go_ret
 exact⟨rfl,hb⟩
theorem Tp(s:ByteArray)(p n i b off cap:Nat)(N:Int)(S:ByteArray)(w:World)(hp:p<s.size)(hi:i<n)(hn:n<=9000000000000)(f0:w.cell? ⟨b,off+i*2,none⟩=some (.int .i64 N))(f1:w.cell? ⟨b,off+i*2+1,none⟩=some (.string S))(lo hi':Int)(HM:∀w,Calls Tryz.prog 243 #[.string s,.int .i64 p] w fun e w'=>e=.returned (.tuple #[.int .i64 lo,.int .i64 hi'])/\Below w.heap.size w w')(hne:((((s[p]).toNat:Nat):Int)==115)=false)(hS:S.toList=[])(hl:¬N<lo)(hh:hi'<N):
  Calls Tryz.prog 259 #[.string s,.int .i64 p,.slice (some ⟨b,off,none⟩) n cap,.int .i64 i] w fun e w'=>e=.returned (.int .i64 (-1))/\Below w.heap.size w w':=by
 have hlt:¬((n:Int)<=(i:Int)):=by omega
 have HMM:=Ab HM;clear HM;go_enter Tryz.func259,Tryz.ntmps259;go_wp2_with fail
 refine((Aa HMM) _).mono ?_;rintro e w1 ⟨rfl,hb1⟩;have g0:w1.cell? ⟨w.heap.size,0,none⟩=some (.int .i64 N):=(hb1.cell (p:=⟨w.heap.size,0,none⟩) (by simp)).trans (by simp[go_sem]);have g1:w1.cell? ⟨w.heap.size,1,none⟩=some (.string S):=(hb1.cell (p:=⟨w.heap.size,1,none⟩) (by simp)).trans (by simp[go_sem]);have hb:Below w.heap.size w w1:=((Below.refl _ _).alloc (Nat.le_refl _) _).trans (hb1.mono (by simp));have hsz:w.heap.size<w1.heap.size:=by have:=hb1.size;simp at this;omega
 clear f0 f1 hb1;go_wp2
 go_ret
 exact⟨rfl,hb⟩
theorem Nj(s:ByteArray)(p n i b off cap:Nat)(N:Int)(S:ByteArray)(w:World)(hp:p<s.size)(hi:i<n)(hn:n<=9000000000000)(f0:w.cell? ⟨b,off+i*2,none⟩=some (.int .i64 N))(f1:w.cell? ⟨b,off+i*2+1,none⟩=some (.string S))(lo hi':Int)(HM:∀w,Calls Tryz.prog 243 #[.string s,.int .i64 p] w fun e w'=>e=.returned (.tuple #[.int .i64 lo,.int .i64 hi'])/\Below w.heap.size w w')(hne:((((s[p]).toNat:Nat):Int)==115)=false)(hS:S.toList=[])(hl:¬N<lo)(hh:¬hi'<N)(hu:((((s[p]).toNat:Nat):Int)==117)=false)(hq:((((s[p]).toNat:Nat):Int)==113)=false):
  Calls Tryz.prog 259 #[.string s,.int .i64 p,.slice (some ⟨b,off,none⟩) n cap,.int .i64 i] w fun e w'=>e=.returned (.int .i64 ((i:Int)+1))/\Below w.heap.size w w':=by
 have hlt:¬((n:Int)<=(i:Int)):=by omega
 have HMM:=Ab HM;clear HM;go_enter Tryz.func259,Tryz.ntmps259;go_wp2_with fail
 refine((Aa HMM) _).mono ?_;rintro e w1 ⟨rfl,hb1⟩;have g0:w1.cell? ⟨w.heap.size,0,none⟩=some (.int .i64 N):=(hb1.cell (p:=⟨w.heap.size,0,none⟩) (by simp)).trans (by simp[go_sem]);have g1:w1.cell? ⟨w.heap.size,1,none⟩=some (.string S):=(hb1.cell (p:=⟨w.heap.size,1,none⟩) (by simp)).trans (by simp[go_sem]);have hb:Below w.heap.size w w1:=((Below.refl _ _).alloc (Nat.le_refl _) _).trans (hb1.mono (by simp));have hsz:w.heap.size<w1.heap.size:=by have:=hb1.size;simp at this;omega
 clear f0 f1 hb1;go_wp2;refine wp_loop_rounds 1 ?_;rw[rounds_succ];go_wp2
 go_ret
 exact⟨rfl,hb⟩
theorem VW(s:ByteArray)(p n i b off cap:Nat)(N:Int)(S:ByteArray)(w:World)(hp:p<s.size)(hi:i<n)(hn:n<=9000000000000)(f0:w.cell? ⟨b,off+i*2,none⟩=some (.int .i64 N))(f1:w.cell? ⟨b,off+i*2+1,none⟩=some (.string S))(lo hi':Int)(HM:∀w,Calls Tryz.prog 243 #[.string s,.int .i64 p] w fun e w'=>e=.returned (.tuple #[.int .i64 lo,.int .i64 hi'])/\Below w.heap.size w w')(hne:((((s[p]).toNat:Nat):Int)==115)=false)(hS:S.toList=[])(hl:¬N<lo)(hh:¬hi'<N)(hu:((((s[p]).toNat:Nat):Int)==117)=true)(q:Nat)(res:Int)(HP:∀w,Calls Tryz.prog 244 #[.string s,.int .i64 p,.int .i64 N] w fun e w'=>e=.returned (.int .i64 q)/\Below w.heap.size w w')
  (HV:∀w',Below w.heap.size w w'->Calls Tryz.prog 239 #[.string s,.int .i64 q,.slice (some ⟨b,off,none⟩) n cap,.int .i64 ((i:Int)+1)] w' fun e w''=>e=.returned (.int .i64 res)/\Below w'.heap.size w' w''):
  Calls Tryz.prog 259 #[.string s,.int .i64 p,.slice (some ⟨b,off,none⟩) n cap,.int .i64 i] w fun e w'=>e=.returned (.int .i64 res)/\Below w.heap.size w w':=by
 have HPP:=Ab HP;have HVV:=Ab HV;clear HP HV;have hlt:¬((n:Int)<=(i:Int)):=by omega
 have HMM:=Ab HM;clear HM;go_enter Tryz.func259,Tryz.ntmps259;go_wp2_with fail
 refine((Aa HMM) _).mono ?_;rintro e w1 ⟨rfl,hb1⟩;have g0:w1.cell? ⟨w.heap.size,0,none⟩=some (.int .i64 N):=(hb1.cell (p:=⟨w.heap.size,0,none⟩) (by simp)).trans (by simp[go_sem]);have g1:w1.cell? ⟨w.heap.size,1,none⟩=some (.string S):=(hb1.cell (p:=⟨w.heap.size,1,none⟩) (by simp)).trans (by simp[go_sem]);have hb:Below w.heap.size w w1:=((Below.refl _ _).alloc (Nat.le_refl _) _).trans (hb1.mono (by simp));have hsz:w.heap.size<w1.heap.size:=by have:=hb1.size;simp at this;omega
 clear f0 f1 hb1;go_wp2_with fail
 refine((Aa HPP) _).mono ?_;rintro e w2 ⟨rfl,hb2⟩;have hb':=hb.trans (hb2.mono (by omega));go_wp2_with fail
 refine((Aa HVV) _ hb').mono ?_;rintro e w3 ⟨rfl,hb3⟩;go_wp2
 go_ret
 exact⟨rfl,hb'.trans (hb3.mono hb'.size)⟩
theorem VT(s:ByteArray)(p n i b off cap:Nat)(N:Int)(S:ByteArray)(w:World)(hp:p<s.size)(hi:i<n)(hn:n<=9000000000000)(f0:w.cell? ⟨b,off+i*2,none⟩=some (.int .i64 N))(f1:w.cell? ⟨b,off+i*2+1,none⟩=some (.string S))(lo hi':Int)(HM:∀w,Calls Tryz.prog 243 #[.string s,.int .i64 p] w fun e w'=>e=.returned (.tuple #[.int .i64 lo,.int .i64 hi'])/\Below w.heap.size w w')(hne:((((s[p]).toNat:Nat):Int)==115)=false)(v:List It)(E:Nat->List It->Ck)(hv:v.length=n)(hEh:Ga (E (p+2)))(hS:S.toList=[])(hl:¬N<lo)(hh:¬hi'<N)(hu:((((s[p]).toNat:Nat):Int)==117)=false)(hq:((((s[p]).toNat:Nat):Int)==113)=true)(hN0:0<=N)(hN9:N<=9)
  (HV:∀(j:Nat) w',j<=n->Below w.heap.size w w'->Calls Tryz.prog 239 #[.string s,.int .i64 ((p:Int)+2),.slice (some ⟨b,off,none⟩) n cap,.int .i64 j] w' fun e w''=>e=.returned (.int .i64 (vI j (E (p+2) (v.drop j))))/\Below w'.heap.size w' w'') (hpl:p<=40):
  Calls Tryz.prog 259 #[.string s,.int .i64 p,.slice (some ⟨b,off,none⟩) n cap,.int .i64 i] w fun e w'=>e=.returned (.int .i64 (vI (i+1) (AX E (List.replicate N.toNat (p+2)) (v.drop (i+1)))))/\Below w.heap.size w w':=by
 have HVV:=Ab HV;have HEH:=Ab hEh;have HVL:=Ab hv;clear HV hEh hv;have hlt:¬((n:Int)<=(i:Int)):=by omega
 have HMM:=Ab HM;clear HM;go_enter Tryz.func259,Tryz.ntmps259;go_wp2_with fail
 refine((Aa HMM) _).mono ?_;rintro e w1 ⟨rfl,hb1⟩;have g0:w1.cell? ⟨w.heap.size,0,none⟩=some (.int .i64 N):=(hb1.cell (p:=⟨w.heap.size,0,none⟩) (by simp)).trans (by simp[go_sem]);have g1:w1.cell? ⟨w.heap.size,1,none⟩=some (.string S):=(hb1.cell (p:=⟨w.heap.size,1,none⟩) (by simp)).trans (by simp[go_sem]);have hb:Below w.heap.size w w1:=((Below.refl _ _).alloc (Nat.le_refl _) _).trans (hb1.mono (by simp));have hsz:w.heap.size<w1.heap.size:=by have:=hb1.size;simp at this;omega
 clear f0 f1 hb1;go_wp2;go_loopw [3,12] (fun iv kv wr=>∃k:Nat,k<=N.toNat/\kv=.int .i64 k/\iv=.int .i64 (vI (i+1) (AX E (List.replicate k (p+2)) (v.drop (i+1))))/\Below w.heap.size w wr/\wr.cell? ⟨w.heap.size,0,none⟩=some (.int .i64 N)) (fun _ kv _=>N.toNat-(intOf kv).toNat)
 case atStart=>exact⟨0,Nat.zero_le _,rfl,by simp[AX,vI],hb,g0⟩
 case round=>
  obtain⟨k,hk,rfl,rfl,hbr,g0r⟩:=hrel;clear hb g0 g1 hsz;by_cases hkN:k<N.toNat
  ·have hkI:(k:Int)<N:=by omega
   cases hst:AX E (List.replicate k (p+2)) (v.drop (i+1)) with
   |none=>
    have hfin:AX E (List.replicate N.toNat (p+2)) (v.drop (i+1))=none:=by
     refine FZ E (k:=k) ?_;rw[List.take_replicate,Nat.min_eq_left hk];exact hst
    have HFIN:=Ab hfin;rw[show vI (i+1) none=-1 from rfl];clear hst hfin;go_wp2
    go_ret
    exact⟨by rw[Aa HFIN];rfl,hbr⟩
   |some e=>
    obtain⟨ks,r⟩:=e;obtain⟨h1,h2⟩:=Dg (E:=E) (List.replicate k (p+2)) (fun q hq=>by rw[(List.mem_replicate.1 hq).2];exact Aa HEH) _ _ _ hst;have hstep:AX E (List.replicate (k+1) (p+2)) (v.drop (i+1))=BZ ks (E (p+2) r):=by
     rw[List.replicate_succ',E1,hst]
    rw[List.drop_drop]at h1;rw[List.length_drop]at h2;have hvl:=Aa HVL;obtain⟨j,hj⟩:∃j,j=i+1+ks.length:=⟨_,rfl⟩;have hjl:j<=n:=by omega
    have hvi:vI (i+1) (some (ks,r))=(j:Int):=by simp only[vI];omega
    have hnew:vI (i+1) (AX E (List.replicate (k+1) (p+2)) (v.drop (i+1)))=vI j (E (p+2) (v.drop j)):=by rw[hstep,IE,h1,<-hj]
    rw[hvi];have HNEW:=Ab hnew;clear hst h1 h2 hstep hj hvi hnew hvl;go_wp2_with fail
    refine((Aa HVV) j _ hjl hbr).mono ?_;rintro e w2 ⟨rfl,hb2⟩;have hb':=hbr.trans (hb2.mono hbr.size);have g0':w2.cell? ⟨w.heap.size,0,none⟩=some (.int .i64 N):=(hb2.cell (p:=⟨w.heap.size,0,none⟩) (lt_of_cell g0r)).trans g0r;rw[<-Aa HNEW];clear hb2 g0r hbr;go_wp2;go_roundw
    case rel=>exact⟨k+1,by omega,by go_num,rfl,hb',g0'⟩
    case measure=>simp[intOf];omega
  ·obtain rfl:k=N.toNat:=by omega
   have hkI:¬((N.toNat:Nat):Int)<N:=by omega
   go_wp2
   go_ret
   exact⟨rfl,hbr⟩
end Go.Proofs.YtblomippkddgiaaGreatDoor.V
