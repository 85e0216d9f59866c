import Derived.Test.YtblomippkddgiaaGreatDoorK03
import Derived.Defers
import Derived.Recover
import Derived.Deep.RegionLaw
set_option maxRecDepth 100000
set_option maxHeartbeats 1000000
namespace Go.Proofs.YtblomippkddgiaaGreatDoor.V
open Go.RowKit
def partOf(ks:List Nat)(k:Int):Nat:=if 0<=k then (ks[k.toNat]?).getD ks.length else ks.length
structure Mi(s:ByteArray)(f p:Nat):Prop where
 le:p<=s.size
 fuel:s.size-p<f
 ok:(Pt.ty (nx s) f p).1=true
theorem Mi.ends{s:ByteArray}{f p:Nat}(h:Mi s f p):p<(Pt.ty (nx s) f p).2/\(Pt.ty (nx s) f p).2<=s.size:=by
 obtain⟨_,hb,_⟩:=Pt.agree (g:=nx s) (n:=s.size) (fun p hp=>JS hp) f p 0 1 0 [] h.le h.fuel;exact hb h.ok
theorem Mi.lt{s:ByteArray}{f p:Nat}(h:Mi s f p):p<s.size:=by
 have:=h.ends;omega
theorem V5{s:ByteArray}{f:Nat}:∀(ks:List Nat) (start c:Nat),Pt.chain (Pt.ty (nx s) f) (nx s) start ks c->start<=s.size->s.size-start<f->∀k∈ks,start<=k/\Mi s f k:=by
 intro ks;induction ks with
 |nil=>intro start c _ _ _ k hk;cases hk
 |cons a ks ih=>
  intro start c h hle hf k hk;obtain⟨rfl,_,hT,hr⟩:=h;have ho:Mi s f start:=⟨hle,hf,hT⟩;have he:=ho.ends;rcases List.mem_cons.1 hk with rfl|hk
  ·exact⟨Nat.le_refl _,ho⟩
  ·have:=ih _ c hr he.2 (by omega) k hk;exact⟨by omega,this.2⟩
structure Okl(s:ByteArray)(f p:Nat):Prop where
 here:nx s p=114\/nx s p=117
 ok:Mi s (f+1) p
theorem Okl.chain{s:ByteArray}{f p:Nat}(h:Okl s f p):p+2<=s.size/\s.size-(p+2)<f/\∃c,Pt.chain (Pt.ty (nx s) f) (nx s) (p+2) (Pt.kids (nx s) f p) c:=by
 have hlt:=h.ok.lt;have hfu:=h.ok.fuel;have n1:¬nx s p=97:=by have:=h.here;omega
 have n2:¬nx s p=113:=by have:=h.here;omega
 have n3:¬nx s p=101:=by have:=h.here;omega
 have n4:Pt.BZ (nx s p)=false:=Pt.Uy (by have:=h.here;omega);have hok:=h.ok.ok;have hty:Pt.ty (nx s) (f+1) p=(if nx s (p+1)=40 then (if (Pt.ty (nx s) f (p+2)).1 then Pt.E4 (Pt.ty (nx s) f) (nx s) 5 (Pt.ty (nx s) f (p+2)).2 else (false,(Pt.ty (nx s) f (p+2)).2)) else (false,p+1)):=by
  simp[Pt.ty,n4,n3,n1,n2,h.here]
 rw[hty]at hok;have hks:Pt.kids (nx s) f p=(p+2) :: Pt.CP (Pt.ty (nx s) f) (nx s) 5 (Pt.ty (nx s) f (p+2)).2:=by simp[Pt.kids,n1,n2,h.here]
 by_cases h40:nx s (p+1)=40
 ·have hlt2:p+1<s.size:=FF h40 (by omega);rw[if_pos h40]at hok;cases hx:(Pt.ty (nx s) f (p+2)).1 with
  |false=>rw[hx]at hok;simp at hok
  |true=>
   rw[hx,if_pos rfl]at hok;have ho2:Mi s f (p+2):=⟨by omega,by omega,hx⟩;have hl2:=ho2.lt;refine⟨by omega,by omega,(Pt.E4 (Pt.ty (nx s) f) (nx s) 5 (Pt.ty (nx s) f (p+2)).2).2-1,?_⟩;rw[hks];refine⟨rfl,?_,hx,(Pt.OL 5 _ hok).1⟩;intro h41;cases f with
   |zero=>omega
   |succ f=>
    have:Pt.ty (nx s) (f+1) (p+2)=(false,p+2):=by simp[Pt.ty,h41,Pt.BZ]
    rw[this]at hx;cases hx
 ·rw[if_neg h40]at hok;simp at hok
theorem FX{s:ByteArray}{f p:Nat}(h:Mi s (f+1) p):
  (nx s p=98\/nx s p=99\/nx s p=105\/nx s p=115)\/(nx s p=101/\p+1<s.size/\49<=nx s (p+1)/\nx s (p+1)<=57) \/
  (nx s p=97/\p+1<s.size/\49<=nx s (p+1)/\nx s (p+1)<=57/\Mi s f (p+2))\/(nx s p=113/\p+1<s.size/\48<=nx s (p+1)/\nx s (p+1)<=57/\Mi s f (p+2))\/Okl s f p:=by
 have hlt:=h.lt;have hfu:=h.fuel;have hok:=h.ok;by_cases hl:nx s p=98\/nx s p=99\/nx s p=105\/nx s p=115
 ·exact Or.inl hl
 have hlf:Pt.BZ (nx s p)=false:=by simp[Pt.BZ];omega
 by_cases he:nx s p=101
 ·have hty:Pt.ty (nx s) (f+1) p=Pt.Gd (nx s) 1 (p+1):=by simp[Pt.ty,he,Pt.BZ]
  rw[hty]at hok;unfold Pt.Gd at hok;split at hok
  ·rename_i hc;exact Or.inr (Or.inl ⟨he,FF (s:=s) (p:=p+1) rfl (by omega),by omega,hc.2⟩)
  ·cases hok
 by_cases ha:nx s p=97
 ·have hty:Pt.ty (nx s) (f+1) p=(if (Pt.Gd (nx s) 1 (p+1)).1 then Pt.ty (nx s) f (p+2) else (false,p+1)):=by simp[Pt.ty,ha,Pt.BZ]
  rw[hty]at hok;by_cases hc:48+1<=nx s (p+1)/\nx s (p+1)<=57
  ·have hd:Pt.Gd (nx s) 1 (p+1)=(true,p+2):=by unfold Pt.Gd;rw[if_pos hc]
   rw[hd,if_pos rfl]at hok;have hl1:=FF (s:=s) (p:=p+1) rfl (by omega);exact Or.inr (Or.inr (Or.inl ⟨ha,hl1,by omega,hc.2,⟨by omega,by omega,hok⟩⟩))
  ·have hd:Pt.Gd (nx s) 1 (p+1)=(false,p+1):=by unfold Pt.Gd;rw[if_neg hc]
   rw[hd,if_neg (by simp)]at hok;cases hok
 by_cases hq:nx s p=113
 ·have hty:Pt.ty (nx s) (f+1) p=(if (Pt.Gd (nx s) 0 (p+1)).1 then Pt.ty (nx s) f (p+2) else (false,p+1)):=by simp[Pt.ty,hq,Pt.BZ]
  rw[hty]at hok;by_cases hc:48+0<=nx s (p+1)/\nx s (p+1)<=57
  ·have hd:Pt.Gd (nx s) 0 (p+1)=(true,p+2):=by unfold Pt.Gd;rw[if_pos hc]
   rw[hd,if_pos rfl]at hok;have hl1:=FF (s:=s) (p:=p+1) rfl (by omega);exact Or.inr (Or.inr (Or.inr (Or.inl ⟨hq,hl1,by omega,hc.2,⟨by omega,by omega,hok⟩⟩)))
  ·have hd:Pt.Gd (nx s) 0 (p+1)=(false,p+1):=by unfold Pt.Gd;rw[if_neg hc]
   rw[hd,if_neg (by simp)]at hok;cases hok
 by_cases hr:nx s p=114\/nx s p=117
 ·exact Or.inr (Or.inr (Or.inr (Or.inr ⟨hr,h⟩)))
 ·have hty:Pt.ty (nx s) (f+1) p=(false,p):=by simp[Pt.ty,hlf,he,ha,hq,hr]
  rw[hty]at hok;cases hok
theorem Hs{s:ByteArray}{f p:Nat}(h:Okl s f p):∀q∈Pt.kids (nx s) f p,p<q/\Mi s f q:=by
 obtain⟨h1,h2,c,hc⟩:=h.chain;intro q hq;have:=V5 _ _ _ hc h1 h2 q hq;exact⟨by omega,this.2⟩
def CG(c:Nat):Int:=if c=105 then -32768 else 0
def BO(g:Nat->Nat)(f p:Nat):Int:=
 if g p=98 then 1 else if g p=99 then 65535 else if g p=105 then 32767 else if g p=101 then (g (p+1):Int)-48-1 else if g p=113 then (g (p+1):Int)-48 else ((Pt.kids g f p).length:Int)-1
abbrev It:=Int×ByteArray
abbrev Dn:=Option (List Bool×List It)
def AF(g:Nat->Nat)(f p:Nat)(v:List It):Option (List Bool×List Nat×List It):=
 if g p=97 then some ([],List.replicate (g (p+1)-48) (p+2),v)
 else if g p=114 then some ([],Pt.kids g f p,v)
 else match v with
  |[]=>none
  |x :: r=>
   if g p=115 then (if x.1=0/\x.2.size<=14 then some ([true],[],r) else none)
   else if x.2.size=0/\CG (g p)<=x.1/\x.1<=BO g f p then
    some ([false],(if g p=117 then [partOf (Pt.kids g f p) x.1] else if g p=113 then List.replicate x.1.toNat (p+2) else []),r)
   else none
def BS(k0:List Bool):Dn->Dn
 |none=>none
 |some (k,r)=>some (k0++k,r)
def BG(E:Nat->List It->Dn):List Nat->List It->Dn
 |[],v=>some ([],v)
 |q :: qs,v=>match E q v with
  |none=>none
  |some (k,r)=>BS k (BG E qs r)
def Ct(g:Nat->Nat):Nat->Nat->List It->Dn
 |0,_,_=>none
 |f+1,p,v=>match AF g f p v with
  |none=>none
  |some (k0,qs,r)=>BS k0 (BG (Ct g f) qs r)
theorem Ii(e:Dn):BS [] e=e:=by
 cases e with
 |none=>rfl
 |some e=>rfl
def ME(E:List It->Dn):Prop:=∀v ks r,E v=some (ks,r)->r=v.drop ks.length/\ks.length<=v.length
theorem Sf{E:Nat->List It->Dn}:∀qs:List Nat,(∀q∈qs,ME (E q))->ME (BG E qs):=by
 intro qs;induction qs with
 |nil=>intro _ v ks r h;simp[BG]at h;obtain⟨rfl,rfl⟩:=h;simp
 |cons a qs ih=>
  intro hE v ks r h;simp only[BG]at h;cases ha:E a v with
  |none=>rw[ha]at h;cases h
  |some e=>
   obtain⟨k,r1⟩:=e;rw[ha]at h;simp only at h;obtain⟨h1,h2⟩:=hE a (by simp) v k r1 ha;cases hs:BG E qs r1 with
   |none=>rw[hs]at h;cases h
   |some e'=>
    obtain⟨k',r2⟩:=e';rw[hs]at h;simp only[BS,Option.some.injEq,Prod.mk.injEq]at h;obtain⟨rfl,rfl⟩:=h;obtain⟨h3,h4⟩:=ih (fun q hq=>hE q (by simp[hq])) r1 k' r2 hs;subst h1;rw[List.length_drop]at h4;refine⟨?_,by simp;omega⟩;rw[h3,List.drop_drop,List.length_append]
theorem Jo{g:Nat->Nat}{f p:Nat}{v:List It}{k0:List Bool}{qs:List Nat}{r:List It}(h:AF g f p v=some (k0,qs,r)):r=v.drop k0.length/\k0.length<=v.length:=by
 unfold AF at h;split at h
 ·cases h;simp
 ·split at h
  ·cases h;simp
  ·cases v with
   |nil=>cases h
   |cons x v=>
    simp only at h;split at h
    ·split at h
     ·cases h;simp
     ·cases h
    ·split at h
     ·cases h;simp
     ·cases h
theorem FM(g:Nat->Nat):∀f p,ME (Ct g f p):=by
 intro f;induction f with
 |zero=>intro p v ks r h;cases h
 |succ f ih=>
  intro p v ks r h;simp only[Ct]at h;cases hh:AF g f p v with
  |none=>rw[hh]at h;cases h
  |some e=>
   obtain⟨k0,qs,r0⟩:=e;rw[hh]at h;simp only at h;obtain⟨h1,h2⟩:=Jo hh;cases hs:BG (Ct g f) qs r0 with
   |none=>rw[hs]at h;cases h
   |some e'=>
    obtain⟨k',r2⟩:=e';rw[hs]at h;simp only[BS,Option.some.injEq,Prod.mk.injEq]at h;obtain⟨rfl,rfl⟩:=h;obtain⟨h3,h4⟩:=Sf qs (fun q _=>ih q) r0 k' r2 hs;subst h1;rw[List.length_drop]at h4;refine⟨?_,by simp;omega⟩;rw[h3,List.drop_drop,List.length_append]
def Items(w:World)(V:Value)(v:List It):Prop:=∃a cap,V=.slice a v.length cap/\v.length<=cap/\(v=[]\/∃b off,a=some ⟨b,off,none⟩/\b<w.heap.size/\∀j x,v[j]?=some x->w.cell? ⟨b,off+j*2,none⟩=some (.int .i64 x.1)/\w.cell? ⟨b,off+j*2+1,none⟩=some (.string x.2))
theorem Items.below{w w':World}{V:Value}{v:List It}(h:Items w V v)(hb:Below w.heap.size w w'):Items w' V v:=by
 obtain⟨a,cap,hV,hc,h⟩:=h;refine⟨a,cap,hV,hc,?_⟩;rcases h with h|⟨b,off,ha,hl,hx⟩
 ·exact Or.inl h
 ·refine Or.inr ⟨b,off,ha,Nat.lt_of_lt_of_le hl hb.size,fun j x hj=>?_⟩;obtain⟨h1,h2⟩:=hx j x hj;exact⟨(hb.cell (p:=⟨b,_,none⟩) hl).trans h1,(hb.cell (p:=⟨b,_,none⟩) hl).trans h2⟩
abbrev Ba(n q:Nat):Value:=.agg #[.int .i64 n,.int .i64 q]
abbrev Ax(n q:Nat):Ending:=.panicked [{v:=.iface 86 (Ba n q),recovered:=false}]
theorem at_new(w:World)(s:ByteArray):At (w.alloc (.cells #[.string s,.int .i64 0] 206)) w.heap.size s 0:=by
 show (w.heap.push _)[w.heap.size]?=_;rw[Array.getElem?_push_size];rfl
theorem US(s:ByteArray)(w:World)(hs:¬s.size<=40):
  Calls Tryz.prog 78 #[.string s] w fun e w'=>e=Ax 1 0/\Below w.heap.size w w':=by
 have h:(40:Int)<(s.size:Int):=by omega
 clear hs;go_enter Tryz.func78,Tryz.ntmps78;go_wp2;exact⟨rfl,rfl,(Below.refl _ _).alloc (Nat.le_refl _) _⟩
theorem Jc{w v:World}{b:Nat}(hk:Af b (w.alloc Bj) v)(hb:w.heap.size<=b):Below w.heap.size w v:=
 ((Below.refl _ _).alloc (Nat.le_refl _) Bj).trans ⟨hk.os,hk.tape,hk.output,hk.size,fun k h=>hk.block k (by simp;omega) (by omega)⟩
theorem RU(s:ByteArray)(hs:s.size<=40)(w:World):Calls Tryz.prog 128 #[.pointer (some ⟨w.heap.size+1,0,none⟩)] ((w.alloc Bj).alloc (.cells #[.string s,.int .i64 0] 206)) (CZ (w.heap.size+1) s (s.size+1) 0 ((w.alloc Bj).alloc (.cells #[.string s,.int .i64 0] 206))):=by
 have h:=at_new (w.alloc Bj) s;have e:(w.alloc Bj).heap.size=w.heap.size+1:=by simp
 rw[e]at h;exact Zw (w.heap.size+1) s hs (s.size+1) 0 _ h (by omega) (by omega)
theorem R4(s:ByteArray)(w:World)(hs:s.size<=40)(hT:(Pt.ty (nx s) (s.size+1) 0).1=false):
  Calls Tryz.prog 78 #[.string s] w fun e w'=>e=Ax 2 (Pt.ty (nx s) (s.size+1) 0).2/\Below w.heap.size w w':=by
 have H:=RU s hs w;unfold CZ at H;simp only[hT,Bool.false_eq_true,if_false]at H;clear hT;go_enter Tryz.func78,Tryz.ntmps78;go_wp2_with fail
 refine H.mono ?_;rintro e w1 ⟨rfl,hk⟩;go_wp2;exact⟨rfl,rfl,Jc (((Af.refl _ _).alloc _).trans hk) (by omega)⟩
theorem UT(s:ByteArray)(w:World)(hs:s.size<=40)(hT:(Pt.ty (nx s) (s.size+1) 0).1=true)(hq:(Pt.ty (nx s) (s.size+1) 0).2<s.size):
  Calls Tryz.prog 78 #[.string s] w fun e w'=>e=Ax 2 (Pt.ty (nx s) (s.size+1) 0).2/\Below w.heap.size w w':=by
 have H:=RU s hs w;unfold CZ at H;simp only[hT,if_true]at H;clear hT;generalize (Pt.ty (nx s) (s.size+1) 0).2=q at *;have hq':(q:Int)<(s.size:Int):=by omega
 go_enter Tryz.func78,Tryz.ntmps78;go_wp2_with fail
 refine H.mono ?_;rintro e w1 ⟨c0,c1,c2,rfl,hk,ha,hr⟩;obtain⟨⟨x0,rfl⟩,⟨x1,rfl⟩,⟨ea,en,ec,rfl⟩⟩:=Bp hr;clear H hr;have hp:=fun o=>(ha.alloc o).place
 have hk':=((Af.refl (w.heap.size+1) (w.alloc Bj)).alloc _).trans hk;have hb1:=ha.lt;go_wp2_with fail
 refine(Gc (w.heap.size+1) q s _ (ha.alloc _)).mono ?_;rintro e w2 ⟨rfl,hk2⟩;go_wp2;exact⟨rfl,rfl,Jc ((hk'.alloc _).trans hk2) (by omega)⟩
theorem XK(s:ByteArray)(w:World)(hs:s.size<=40)(hT:(Pt.ty (nx s) (s.size+1) 0).1=true)(hq:(Pt.ty (nx s) (s.size+1) 0).2=s.size):
  Calls Tryz.prog 78 #[.string s] w fun e w'=>(if 4<Pt.Eh (nx s) (s.size+1) 0 then e=Ax 3 0 else ∃c0 c1 c2,e=.returned (.agg #[c0,c1,c2])/\EN w' (fun k=>w.heap.size<=k) (nx s) (s.size+1) 0 c0 c1 c2)/\Below w.heap.size w w':=by
 have H:=RU s hs w;unfold CZ at H;simp only[hT,if_true,hq]at H;clear hT hq;have hD:=fun S c0 c1 c2 w' h=>Uj (nx s) (s.size+1) (by omega) 0 S c0 c1 c2 w' h
 generalize hd:Pt.Eh (nx s) (s.size+1) 0=d at *;have hd41:d<=41:=by have:=Rc (nx s) (s.size+1) 0;omega
 have HD:=Ab hD;clear hD hd;by_cases h4:4<d
 ·have h4':(4:Int)<(d:Int):=by omega
  simp only[h4,if_true];go_enter Tryz.func78,Tryz.ntmps78;go_wp2_with fail
  refine H.mono ?_;rintro e w1 ⟨c0,c1,c2,rfl,hk,ha,hr⟩;clear H;obtain⟨⟨x0,rfl⟩,⟨x1,rfl⟩,⟨ea,en,ec,rfl⟩⟩:=Bp hr;have hp:=fun o=>(ha.alloc o).place
  have hk':=((Af.refl (w.heap.size+1) (w.alloc Bj)).alloc _).trans hk;have HR:=Ab (fun o=>Bo ((Ce.refl _ _).alloc o) hr);clear hr;go_wp2_with fail
  refine((Aa HD) _ _ _ _ _ (Aa HR _)).mono ?_;rintro e w2 ⟨rfl,hb2⟩;go_wp2;refine⟨rfl,rfl,(Jc (hk'.alloc (.cells #[.int .u8 x0,.int .i64 x1,.slice ea en ec] 153)) (by omega)).trans (hb2.mono ?_)⟩;have:=hk'.size;simp at this ⊢;omega
 ·have h4':¬(4:Int)<(d:Int):=by omega
  simp only[h4,if_false];go_enter Tryz.func78,Tryz.ntmps78;go_wp2_with fail
  refine H.mono ?_;rintro e w1 ⟨c0,c1,c2,rfl,hk,ha,hr⟩;clear H;obtain⟨⟨x0,rfl⟩,⟨x1,rfl⟩,⟨ea,en,ec,rfl⟩⟩:=Bp hr;have hp:=fun o=>(ha.alloc o).place
  have hk':=((Af.refl (w.heap.size+1) (w.alloc Bj)).alloc _).trans hk;have T0:=((Fe.new w (.int .u8 0) (.int .i64 0) (.slice none 0 0)).keeps hk' (by omega)).alloc (.cells #[.int .u8 x0,.int .i64 x1,.slice ea en ec] 153);have T1:=Fe.new w1 (.int .u8 x0) (.int .i64 x1) (.slice ea en ec);have hl1:=T0.lt;have hz1:w.heap.size+1<w1.heap.size:=ha.lt;have HR:=Ab hr;clear hr;go_wp2_with fail
  refine((Aa HD) _ _ _ _ _ (Bo ((Ce.refl _ _).alloc _) (Aa HR))).mono ?_;rintro e w2 ⟨rfl,hb2⟩;have hbk:∀k o,k<w1.heap.size+1->w2.cell? ⟨k,o,none⟩=(w1.alloc (.cells #[.int .u8 x0,.int .i64 x1,.slice ea en ec] 153)).cell? ⟨k,o,none⟩:=fun k o hk=>hb2.cell (p:=⟨k,o,none⟩) (by simpa using hk)
  have hfk:∀k o,k<w1.heap.size+1->w2.frozen? ⟨k,o,none⟩=(w1.alloc (.cells #[.int .u8 x0,.int .i64 x1,.slice ea en ec] 153)).frozen? ⟨k,o,none⟩:=fun k o hk=>hb2.frozen (p:=⟨k,o,none⟩) (by simpa using hk)
  obtain⟨u0,u1,u2,v0,v1,v2⟩:=T0.facts;obtain⟨x0',x1',x2',y0,y1,y2⟩:=T1.facts;rw[<-hbk _ _ (by omega)]at u0 u1 u2 x0' x1' x2';rw[<-hfk _ _ (by omega)]at v0 v1 v2 y0 y1 y2;clear hbk hfk T0 T1;go_wp2;have hz2:=hb2.size;have hk1s:=hk.size;simp at hz2 hk1s;refine bodyPost_ret (v:=.agg #[.int .u8 x0,.int .i64 x1,.slice ea en ec]) (by simp[results,Tryz.results78,go_sem,u0,u1,u2]) rfl ⟨⟨_,_,_,rfl,?_⟩,?_⟩
  ·have h1:EN w1 (fun k=>w.heap.size+2<=k) (nx s) (s.size+1) 0 (.int .u8 x0) (.int .i64 x1) (.slice ea en ec):=by simpa using Aa HR
   have h2:=Bo (((Ce.refl _ _).alloc (.cells #[.int .u8 x0,.int .i64 x1,.slice ea en ec] 153)).trans (⟨hb2.size,fun k _ hl=>hb2.block k hl⟩:Ce (fun k=>w.heap.size+2<=k) _ w2)) h1;refine Dv (fun k hk _=>by omega) (Bo ?_ h2);exact(((Ce.refl _ _).setCell (by simp) _).setCell (by simp) _).setCell (by simp) _
  ·have h1:=(Jc (hk'.alloc (.cells #[.int .u8 x0,.int .i64 x1,.slice ea en ec] 153)) (by omega)).trans (hb2.mono (by simp;omega));exact((h1.setCell (by simp) _).setCell (by simp) _).setCell (by simp) _
theorem Gg(n q:Nat)(w:World):(Instr.typeAssert (.iface 86 (Ba n q)) 20 86 true).run Tryz.prog w=.ok (.tuple #[Ba n q,.bool true]) w:=by kernel_rfl
theorem Gn(n q:Nat)(w:World):
  Calls Tryz.prog 34 #[.iface 86 (Ba n q)] w fun e w'=>e=.returned (Ba n q)/\Below w.heap.size w w':=by
 have hta:=Gg n q;go_enter Tryz.func34,Tryz.ntmps34;go_wp2;exact bodyPost_ret (v:=Ba n q) (by simp[results,Tryz.results34,go_sem]) rfl ⟨rfl,((Below.refl _ _).alloc (Nat.le_refl _) _).alloc (by simp) _⟩
theorem lt_of_cell{w:World}{k o:Nat}{v:Value}(h:w.cell? ⟨k,o,none⟩=some v):k<w.heap.size:=by
 rcases Nat.lt_or_ge k w.heap.size with hh|hh
 ·exact hh
 ·simp[World.cell?,Array.getElem?_eq_none hh]at h
theorem toList_nil{S:ByteArray}:S.toList=[]↔S.size=0:=by
 rw[ByteArray.toList_eq];constructor
 ·intro h;have h2:=congrArg List.length h;rw[Array.length_toList]at h2;exact h2
 ·intro h;exact List.eq_nil_of_length_eq_zero (by rw[Array.length_toList];exact h)
theorem Ec{g:Nat->Nat}{f p:Nat}{v:List It}{k0:List Bool}{qs:List Nat}{r:List It}(h:AF g f p v=some (k0,qs,r)):Ct g (f+1) p v=BS k0 (BG (Ct g f) qs r):=by
 simp only[Ct,h]
theorem FN{g:Nat->Nat}{f p:Nat}{v:List It}(h:AF g f p v=none):Ct g (f+1) p v=none:=by
 simp only[Ct,h]
def b8(n:Int):UInt8:=UInt8.ofNat n.toNat
theorem Bn{n:Int}(h0:0<=n)(h1:n<=255):((b8 n).toNat:Int)=n:=by
 unfold b8;rw[UInt8.toNat_ofNat_of_lt' (by show n.toNat<256;omega)];omega
def AX(n:Int):List UInt8:=[b8 (n % 65536 / 256),b8 (n % 256)]
def El(k:Bool)(x:It):List UInt8:=if k then AX x.2.size++(x.2.data.toList++(if x.2.size % 2=1 then [0] else [])) else AX x.1
def bytesOf:List Bool->List It->List UInt8
 |k :: ks,x :: v=>El k x++bytesOf ks v
 |_,_=>[]
theorem YX(k:Bool)(x:It)(h:k=true->x.2.size<=14):(El k x).length<=17:=by
 unfold El;cases k with
 |false=>simp[AX]
 |true=>
  have h14:=h rfl;have e:x.2.data.toList.length=x.2.size:=by simp
  simp only[if_true,List.length_append,e];split<;>simp[AX]<;>omega
def ZY(ks:List Bool)(v:List It):Prop:=ks.length=v.length/\∀(i:Nat) (k:Bool) (x:It),ks[i]?=some k->v[i]?=some x->(k=true->x.2.size<=14)/\(k=false->-32768<=x.1/\x.1<=65535)
theorem Dt(w:World):Calls Tryz.prog 126 #[] w fun e w'=>e=.returned (.agg #[.int .i64 4,.int .i64 0])/\Below w.heap.size w w':=by
 go_enter Tryz.func126,Tryz.ntmps126;go_wp2;exact bodyPost_ret (v:=.agg #[.int .i64 4,.int .i64 0]) (by simp[results,Tryz.results126,go_sem]) rfl ⟨rfl,(Below.refl _ _).alloc (Nat.le_refl _) _⟩
def Wr(w:World)(b:Nat)(L O:Value):Prop:=w.heap[b]?=some (.cells #[L,O] 201 (0,0))
theorem Wr.left{w:World}{b:Nat}{L O:Value}(h:Wr w b L O):w.cell? ⟨b,0,none⟩=some L:=by
 unfold Wr at h;simp[World.cell?,h]
theorem Wr.out{w:World}{b:Nat}{L O:Value}(h:Wr w b L O):w.cell? ⟨b,1,none⟩=some O:=by
 unfold Wr at h;simp[World.cell?,h]
theorem Wr.acw{w:World}{b:Nat}{L O:Value}(h:Wr w b L O):w.frozen? ⟨b,0,none⟩=false:=by
 unfold Wr at h;simp[World.frozen?,h]
theorem Wr.Qv{w:World}{b:Nat}{L O:Value}(h:Wr w b L O):w.frozen? ⟨b,1,none⟩=false:=by
 unfold Wr at h;simp[World.frozen?,h]
theorem Wr.lt{w:World}{b:Nat}{L O:Value}(h:Wr w b L O):b<w.heap.size:=lt_of_block h
theorem Wr.set0{w:World}{b:Nat}{L O:Value}(h:Wr w b L O)(x:Value):Wr (w.setCell ⟨b,0,none⟩ x) b x O:=by
 unfold Wr at h ⊢;simp only[World.setCell,Array.getElem?_modify,h];simp
theorem Wr.set1{w:World}{b:Nat}{L O:Value}(h:Wr w b L O)(x:Value):Wr (w.setCell ⟨b,1,none⟩ x) b L x:=by
 unfold Wr at h ⊢;simp only[World.setCell,Array.getElem?_modify,h];simp
theorem Wr.alloc{w:World}{b:Nat}{L O:Value}(h:Wr w b L O)(o:Obj):Wr (w.alloc o) b L O:=by
 have hl:=h.lt;unfold Wr at h ⊢;rw[Below.heap_alloc w o b hl];exact h
theorem Wr.below{w w':World}{b:Nat}{L O:Value}(h:Wr w b L O)(hb:Below w.heap.size w w'):Wr w' b L O:=by
 have hl:=h.lt;unfold Wr at h ⊢;rw[hb.block b hl];exact h
theorem Tn(b:Nat)(a:Option Addr)(cap:Nat)(O:Value)(w:World)(h:Wr w b (.slice a 0 cap) O):
  Calls Tryz.prog 283 #[.pointer (some ⟨b,0,none⟩)] w fun e w'=>e=Ax 4 0/\Below w.heap.size w w':=by
 have h1:=fun o=>(h.alloc o).left
 have HN:=Ab Dt;clear h;go_enter Tryz.func283,Tryz.ntmps283;go_wp2_with fail
 refine((Aa HN) _).mono ?_;rintro e w1 ⟨rfl,hb1⟩;go_wp2;exact⟨rfl,rfl,((Below.refl _ _).alloc (Nat.le_refl _) _).trans (hb1.mono (by simp))⟩
def Dx(l:List UInt8):List Value:=l.map fun c=>Value.int .u8 (c.toNat:Int)
theorem Bu{w w':World}{B n size:Nat}{e:TypeId}{v:Value}{xs:List Value}(h:w.ownsRow B e size v n xs)(hb:Below w.heap.size w w'):w'.ownsRow B e size v n xs:=by
 obtain⟨hl,h⟩:=h;refine⟨hl,?_⟩;rcases h with h|⟨g,cap,cur,hv,hg,hh,r⟩
 ·exact Or.inl h
 ·refine Or.inr ⟨g,cap,cur,hv,hg,?_,r⟩;rw[hb.block g (lt_of_block hh)];exact hh
theorem Jz{w:World}{B n size k o:Nat}{e:TypeId}{v x:Value}{xs:List Value}(h:w.ownsRow B e size v n xs)(hk:k<B):(w.setCell ⟨k,o,none⟩ x).ownsRow B e size v n xs:=by
 obtain⟨hl,h⟩:=h;refine⟨hl,?_⟩;rcases h with h|⟨g,cap,cur,hv,hg,hh,r⟩
 ·exact Or.inl h
 ·refine Or.inr ⟨g,cap,cur,hv,hg,?_,r⟩;rw[Below.heap_setCell _ _ _ _ (by simp;omega)];exact hh
theorem JF(l:List UInt8):∀u∈Dx l,u.oneCell'=true:=by
 intro u hu;unfold Dx at hu;obtain⟨c,_,rfl⟩:=List.mem_map.1 hu;rfl
structure WS(w0 w:World)(L:Value)(v:List It)(O:Value)(out:List UInt8):Prop where
 wr:Wr w w0.heap.size L O
 items:Items w0 L v
 below:Below w0.heap.size w0 w
 own:w.ownsRow (w0.heap.size+1) 5 1 O out.length (Dx out)
structure Wk(b:Nat)(O O':Value)(w w':World):Prop where
 size:w.heap.size<=w'.heap.size
 block:∀k,k<w.heap.size->k≠b->O.ownBlock≠some k->w'.heap[k]?=w.heap[k]?
 row:O'.ownBlock=O.ownBlock\/∃g,O'.ownBlock=some g/\w.heap.size<=g
theorem Wk.trans{b:Nat}{O O1 O2:Value}{w w1 w2:World}(h:Wk b O O1 w w1)(k:Wk b O1 O2 w1 w2):Wk b O O2 w w2:=by
 have hs:=h.size;refine⟨Nat.le_trans h.size k.size,fun i hi hb hr=>?_,?_⟩
 ·rw[k.block i (by omega) hb ?_,h.block i hi hb hr];rcases h.row with h1|⟨g,h1,h2⟩
  ·rw[h1];exact hr
  ·rw[h1];intro e;cases e;omega
 ·rcases k.row with k1|⟨g,k1,k2⟩
  ·rcases h.row with h1|⟨g,h1,h2⟩
   ·exact Or.inl (k1.trans h1)
   ·exact Or.inr ⟨g,k1.trans h1,h2⟩
  ·exact Or.inr ⟨g,k1,by omega⟩
theorem Wk.of_below{b:Nat}{O:Value}{w w':World}(h:Below w.heap.size w w'):Wk b O O w w':=⟨h.size,fun k hk _ _=>h.block k hk,Or.inl rfl⟩
theorem Wk.cell{b:Nat}{O O':Value}{w w':World}(h:Wk b O O' w w'){k o:Nat}(hk:k<w.heap.size)(hb:k≠b)(hr:O.ownBlock≠some k):w'.cell? ⟨k,o,none⟩=w.cell? ⟨k,o,none⟩:=World.cell?_of_block (w:=w) (h.block k hk hb hr)
theorem WS.row{w0 w:World}{L O:Value}{v:List It}{out:List UInt8}(h:WS w0 w L v O out){k:Nat}(hk:O.ownBlock=some k):w0.heap.size<k/\k<w.heap.size:=by
 have:=h.own.lt k hk;omega
theorem WS.go{w0 w w':World}{L O:Value}{v:List It}{out:List UInt8}(h:WS w0 w L v O out)(hb:Below w.heap.size w w'):WS w0 w' L v O out:=
 ⟨h.wr.below hb,h.items,h.below.trans (hb.mono h.below.size),Bu h.own hb⟩
theorem Rz{w:World}{L:Value}{x:It}{v:List It}(h:Items w L (x :: v)):∃g off cap,L=.slice (some ⟨g,off,none⟩) (v.length+1) cap/\v.length+1<=cap/\g<w.heap.size/\w.cell? ⟨g,off,none⟩=some (.int .i64 x.1)/\w.cell? ⟨g,off+1,none⟩=some (.string x.2)/\Items w (.slice (some ⟨g,off+2,none⟩) v.length (cap-1)) v/\(cap=1->Items w (.slice (some ⟨g,off,none⟩) v.length 0) v):=by
 obtain⟨a,cap,hL,hc,h⟩:=h;rcases h with h|⟨g,off,ha,hl,hx⟩
 ·cases h
 ·subst ha;simp only[List.length_cons]at hL hc;have h0:=hx 0 x rfl;refine⟨g,off,cap,hL,hc,hl,by simpa using h0.1,by simpa using h0.2,⟨_,_,rfl,by omega,?_⟩,fun hc1=>⟨_,_,rfl,by omega,Or.inl ?_⟩⟩
  ·refine Or.inr ⟨g,off+2,rfl,hl,fun j y hj=>?_⟩;have h1:=hx (j+1) y (by simpa using hj);rw[show off+2+j*2=off+(j+1)*2 by omega];exact h1
  ·exact List.eq_nil_of_length_eq_zero (by omega)
theorem Gt(w0 w:World)(L O:Value)(x:It)(v:List It)(out:List UInt8)(h:WS w0 w L (x :: v) O out)(hn:v.length<=9000000000000):
  Calls Tryz.prog 283 #[.pointer (some ⟨w0.heap.size,0,none⟩)] w fun e w'=>e=.returned (.agg #[.int .i64 x.1,.string x.2])/\∃L',WS w0 w' L' v O out/\Wk w0.heap.size O O w w':=by
 obtain⟨g,off,cap,rfl,hc,hg,f0,f1,it1,it2⟩:=Rz h.items;have hbz:=h.below.size;obtain⟨b,hbb⟩:∃b,b=w0.heap.size:=⟨_,rfl⟩;have hwr:=h.wr;have hlt:=hwr.lt;have hgw:g<w.heap.size:=by omega
 have e0:=fun o=>(World.cell?_of_block (w:=w) (a:=⟨g,off,none⟩) (Below.heap_alloc w o g hgw)).trans ((h.below.cell (p:=⟨g,off,none⟩) hg).trans f0)
 have e1:=fun o=>(World.cell?_of_block (w:=w) (a:=⟨g,off+1,none⟩) (Below.heap_alloc w o g hgw)).trans ((h.below.cell (p:=⟨g,off+1,none⟩) hg).trans f1)
 have h1:=fun o=>(hwr.alloc o).left
 have h2:=fun o=>(hwr.alloc o).acw
 have HS:=Ab h;have hne:¬w.heap.size=w0.heap.size:=by omega
 have fin:∀L',Items w0 L' v->WS w0 (((w.setCell ⟨w0.heap.size,0,none⟩ L').alloc (.cells #[.int .i64 x.1,.string x.2] 106)).alloc (.cells #[.int .i64 x.1,.string x.2] 106)) L' v O out/\Wk w0.heap.size O O w (((w.setCell ⟨w0.heap.size,0,none⟩ L').alloc (.cells #[.int .i64 x.1,.string x.2] 106)).alloc (.cells #[.int .i64 x.1,.string x.2] 106)):=by
  intro L' hi;have hb:Below w0.heap.size w0 (w.setCell ⟨w0.heap.size,0,none⟩ L'):=h.below.setCell (by simp) _;refine⟨⟨((hwr.set0 L').alloc _).alloc _,hi,(hb.alloc (by simp;omega) _).alloc (by simp;omega) _,((Jz h.own (by omega)).alloc _).alloc _⟩,⟨by simp;omega,fun k hk hkb _=>?_,Or.inl rfl⟩⟩;rw[Below.heap_alloc _ _ _ (by simp;omega),Below.heap_alloc _ _ _ (by simp;omega),Below.heap_setCell _ _ _ _ (by simpa using hkb)]
 have FIN:=Ab fin;clear h hwr f0 f1 hbb fin;by_cases hc1:cap=1
 ·subst hc1;obtain rfl:v=[]:=List.eq_nil_of_length_eq_zero (by omega);have it:=it2 rfl;clear it1 it2;have HIT:=Ab it;clear it;go_enter Tryz.func283,Tryz.ntmps283;go_wp2;exact bodyPost_ret (v:=.agg #[.int .i64 x.1,.string x.2]) (by simp[results,Tryz.results283,go_sem]) rfl ⟨rfl,_,Aa FIN _ (Aa HIT)⟩
 ·have HIT:=Ab it1;clear it1 it2;go_enter Tryz.func283,Tryz.ntmps283;go_wp2;exact bodyPost_ret (v:=.agg #[.int .i64 x.1,.string x.2]) (by simp[results,Tryz.results283,go_sem]) rfl ⟨rfl,_,Aa FIN _ (Aa HIT)⟩
theorem info5:(Tryz.prog.info? 5).map (fun i=>(i.zero,i.size,i.bytes))=some (some (.int .u8 0),1,1):=by kernel_rfl
theorem Ar{w:World}{B n size:Nat}{e:TypeId}{v:Value}{xs:List Value}(h:w.ownsRow B e size v n xs):∃a k c,v=.slice a k c:=by
 rcases h.2 with ⟨hv,_⟩|⟨g,cap,cur,hv,_⟩
 ·exact⟨_,_,_,hv⟩
 ·exact⟨_,_,_,hv⟩
theorem abr(n:Int):IntKind.u16.wrap n=n % 65536:=by
 simp[IntKind.wrap,IntKind.bits,IntKind.signed]
theorem TJ{w0 w w1:World}{L O O1:Value}{v:List It}{out news:List UInt8}{o:Obj}(h:WS w0 w L v O out)(hown:w1.ownsRow (w0.heap.size+1) 5 1 O1 (out.length+news.length) (Dx out++Dx news))(hg:(w.alloc o).grownBy w1 O.ownBlock)(hat:O1.ownBlock=O.ownBlock\/O1.ownBlock=some (w.alloc o).heap.size):
  Wr w1 w0.heap.size L O/\WS w0 (w1.setCell ⟨w0.heap.size,1,none⟩ O1) L v O1 (out++news)/\Wk w0.heap.size O O1 w (w1.setCell ⟨w0.heap.size,1,none⟩ O1):=by
 have hlt:=h.wr.lt;have hgs:(w.alloc o).heap.size=w.heap.size+1:=by simp
 have hs1:=hg.size;have keep:∀k,k<w.heap.size->O.ownBlock≠some k->w1.heap[k]?=w.heap[k]?:=by
  intro k hk hr;rw[hg.block k (by omega) (fun e=>hr e.symm)];exact Below.heap_alloc _ _ _ hk
 have hrow:∀k,O.ownBlock=some k->w0.heap.size<k:=fun k hk=>(h.row hk).1
 have hwr:Wr w1 w0.heap.size L O:=by
  have:=h.wr;unfold Wr at this ⊢;rw[keep _ hlt (fun e=>by have:=hrow _ e;omega)];exact this
 refine⟨hwr,⟨hwr.set1 O1,h.items,?_,?_⟩,⟨by simp;omega,fun k hk hkb hr=>?_,?_⟩⟩
 ·exact((h.below.alloc (by omega) o).grown hg (by omega) (fun k hk=>by have:=hrow k hk;omega)).setCell (by simp) _
 ·have:=Jz (k:=w0.heap.size) (o:=1) (x:=O1) hown (by omega);rw[List.length_append];unfold Dx at this ⊢;rw[List.map_append];exact this
 ·rw[Below.heap_setCell _ _ _ _ (by simpa using hkb)];exact keep k hk hr
 ·rcases hat with h1|h1
  ·exact Or.inl h1
  ·exact Or.inr ⟨_,h1,by omega⟩
theorem WS.drew{w0 w:World}{L O:Value}{v:List It}{out:List UInt8}(h:WS w0 w L v O out):WS w0 w.drew L v O out:=⟨h.wr,h.items,h.below.drew,h.own⟩
theorem J8(w0 w:World)(L O:Value)(v:List It)(out:List UInt8)(n:Int)(h:WS w0 w L v O out)(hol:out.length<=1000000):
  Calls Tryz.prog 186 #[O,.int .i64 n] w fun e w'=>∃a k c,e=.returned (.slice a k c)/\Wr w' w0.heap.size L O/\WS w0 (w'.setCell ⟨w0.heap.size,1,none⟩ (.slice a k c)) L v (.slice a k c) (out++AX n)/\Wk w0.heap.size O (.slice a k c) w (w'.setCell ⟨w0.heap.size,1,none⟩ (.slice a k c)):=by
 have hbz:=h.wr.lt;have how:=h.own;have HH:=Ab h;have HN:Hid (∀(j:Nat) (u:Value),(Dx (AX n))[j]?=some u->(w.alloc (.cells #[.int .u8 (IntKind.u16.wrap n / 256 % 256),.int .u8 (IntKind.u16.wrap n % 256)] 5)).cell? ((⟨w.heap.size,0,none⟩:Addr).add j)=some u):=by
  intro j u hj;rw[abr];unfold Dx AX at hj;match j,hj with
  |0,hj=>
   simp at hj;rw[Bn (by omega) (by omega)]at hj;subst hj;rw[show n % 65536 / 256 % 256=n % 65536 / 256 by omega];simp[Addr.add,go_sem]
  |1,hj=>
   simp at hj;rw[Bn (by omega) (by omega)]at hj;subst hj;rw[show n % 65536 % 256=n % 256 by omega];simp[Addr.add,go_sem]
 obtain⟨oa,ocap,hO⟩:∃a c,O=.slice a out.length c:=by
  rcases how.2 with ⟨hv,h0⟩|⟨g,cap,cur,hv,_⟩
  ·exact⟨none,0,by rw[hv,h0]⟩
  ·exact⟨_,_,hv⟩
 subst hO;clear h;obtain⟨i0,hi,hz0,hz1,hz2⟩:=info_parts info5;go_enter Tryz.func186,Tryz.ntmps186;go_wp2_with (at_builtin;refine wpList_append_own_at _ rfl (.tmp 8) (.tmp 14) 199 rfl (w0.heap.size+1) 5 i0 (.int .u8 0) 1 1 Tryz.underlying199 hi hz0 hz1 hz2 rfl (by decide) _ out.length (Dx out) rfl (by exact how.alloc _) ⟨w.heap.size,0,none⟩ 2 2 (Dx (AX n)) rfl rfl (Aa HN) (by exact JF _) (by unfold maxLen;omega) (by omega) (by simp;omega) ?_)
 intro O1 w1 hown hgrow _ hat;obtain⟨oa1,on1,oc1,hO1⟩:=Ar hown;subst hO1;obtain⟨hwr,hws,hwk⟩:=TJ (Aa HH) hown hgrow (by simpa using hat);have HWR:=Ab hwr;have HWS:=Ab hws;have HWK:=Ab hwk;clear hown hgrow hat hwr hws hwk how;go_wp2
 go_ret
 exact⟨_,_,_,rfl,Aa HWR,Aa HWS,Aa HWK⟩
theorem PT(w0 w:World)(L O:Value)(out:List UInt8)(lo hi':Int)(h:WS w0 w L [] O out):
  Calls Tryz.prog 281 #[.pointer (some ⟨w0.heap.size,0,none⟩),.int .i64 lo,.int .i64 hi'] w fun e w'=>e=Ax 4 0/\Below w0.heap.size w0 w':=by
 obtain⟨a,cap,hL,_,_⟩:=h.items;subst hL;have H1:=Ab (Tn w0.heap.size a cap O w h.wr);have hb:=h.below;clear h;go_enter Tryz.func281,Tryz.ntmps281;go_wp2_with fail
 refine(Aa H1).mono ?_;rintro e w1 ⟨rfl,hb1⟩;go_wp2;exact⟨rfl,rfl,hb.trans (hb1.mono hb.size)⟩
theorem PQ(w0 w:World)(L O:Value)(x:It)(v:List It)(out:List UInt8)(lo hi':Int)(h:WS w0 w L (x :: v) O out)(hn:v.length<=9000000000000)(hS:¬x.2.toList=[]):
  Calls Tryz.prog 281 #[.pointer (some ⟨w0.heap.size,0,none⟩),.int .i64 lo,.int .i64 hi'] w fun e w'=>e=Ax 4 0/\Below w0.heap.size w0 w':=by
 have H1:=Ab (Gt w0 w L O x v out h hn);have HN:=Ab Dt;clear h;obtain⟨N,S⟩:=x;simp only at H1 hS;go_enter Tryz.func281,Tryz.ntmps281;go_wp2_with fail
 refine(Aa H1).mono ?_;rintro e w1 ⟨rfl,L',hws,hwk⟩;have hb:=hws.below;have hbz:=hb.size;clear hws hwk;go_wp2_with fail
 refine((Aa HN) _).mono ?_;rintro e w2 ⟨rfl,hb2⟩;go_wp2;exact⟨rfl,rfl,(hb.alloc (by omega) _).trans (hb2.mono (by simp;omega))⟩
theorem PR(w0 w:World)(L O:Value)(x:It)(v:List It)(out:List UInt8)(lo hi':Int)(h:WS w0 w L (x :: v) O out)(hn:v.length<=9000000000000)(hS:x.2.toList=[])(hl:x.1<lo):
  Calls Tryz.prog 281 #[.pointer (some ⟨w0.heap.size,0,none⟩),.int .i64 lo,.int .i64 hi'] w fun e w'=>e=Ax 4 0/\Below w0.heap.size w0 w':=by
 have H1:=Ab (Gt w0 w L O x v out h hn);have HN:=Ab Dt;clear h;obtain⟨N,S⟩:=x;simp only at H1 hS hl;go_enter Tryz.func281,Tryz.ntmps281;go_wp2_with fail
 refine(Aa H1).mono ?_;rintro e w1 ⟨rfl,L',hws,hwk⟩;have hb:=hws.below;have hbz:=hb.size;clear hws hwk;go_wp2_with fail
 refine((Aa HN) _).mono ?_;rintro e w2 ⟨rfl,hb2⟩;go_wp2;exact⟨rfl,rfl,(hb.alloc (by omega) _).trans (hb2.mono (by simp;omega))⟩
theorem PS(w0 w:World)(L O:Value)(x:It)(v:List It)(out:List UInt8)(lo hi':Int)(h:WS w0 w L (x :: v) O out)(hn:v.length<=9000000000000)(hS:x.2.toList=[])(hl:¬x.1<lo)(hh:hi'<x.1):
  Calls Tryz.prog 281 #[.pointer (some ⟨w0.heap.size,0,none⟩),.int .i64 lo,.int .i64 hi'] w fun e w'=>e=Ax 4 0/\Below w0.heap.size w0 w':=by
 have H1:=Ab (Gt w0 w L O x v out h hn);have HN:=Ab Dt;clear h;obtain⟨N,S⟩:=x;simp only at H1 hS hl hh;go_enter Tryz.func281,Tryz.ntmps281;go_wp2_with fail
 refine(Aa H1).mono ?_;rintro e w1 ⟨rfl,L',hws,hwk⟩;have hb:=hws.below;have hbz:=hb.size;clear hws hwk;go_wp2_with fail
 refine((Aa HN) _).mono ?_;rintro e w2 ⟨rfl,hb2⟩;go_wp2;exact⟨rfl,rfl,(hb.alloc (by omega) _).trans (hb2.mono (by simp;omega))⟩
theorem UI(w0 w:World)(L O:Value)(x:It)(v:List It)(out:List UInt8)(lo hi':Int)(h:WS w0 w L (x :: v) O out)(hn:v.length<=9000000000000)(hS:x.2.toList=[])(hl:¬x.1<lo)(hh:¬hi'<x.1)(hol:out.length<=1000000):
  Calls Tryz.prog 281 #[.pointer (some ⟨w0.heap.size,0,none⟩),.int .i64 lo,.int .i64 hi'] w fun e w'=>e=.returned (.int .i64 x.1)/\∃L' O',WS w0 w' L' v O' (out++AX x.1)/\Wk w0.heap.size O O' w w':=by
 have H1:=Ab (Gt w0 w L O x v out h hn);clear h;obtain⟨N,S⟩:=x;simp only at H1 hS hl hh ⊢;go_enter Tryz.func281,Tryz.ntmps281;go_wp2_with fail
 refine(Aa H1).mono ?_;rintro e w1 ⟨rfl,L',hws,hwk⟩;have hws2:=hws.go ((Below.refl w1.heap.size w1).alloc (Nat.le_refl _) (.cells #[.int .i64 N,.string S] 106));have H2:=Ab (J8 w0 _ L' O v out N hws2.drew hol);have hrow:O.ownBlock≠some w1.heap.size:=fun e=>by have:=(hws.row e).2;omega
 have hbz:=hws.wr.lt;have hout:=hws2.wr.out;have HWK:=Ab hwk;obtain⟨sa,sn,sc,hsO⟩:=Ar hws2.own;subst hsO;clear hws hwk hws2;go_wp2_with fail
 go_region_with ((go_at_call 186;refine(Aa H2).mono ?_;rintro e w2 ⟨ta,tn,tc,rfl,hwr3,hws3,hwk3⟩;have t1:=hwr3.out;have t2:=hwr3.Qv))
 all_goals
  have c0:(w2.setCell ⟨w0.heap.size,1,none⟩ (.slice ta tn tc)).cell? ⟨w1.heap.size,0,none⟩=some (.int .i64 N):=(hwk3.cell (by simp) (by omega) hrow).trans (by simp[go_sem]);have HW3:=Ab hws3;have HK3:=Ab ((Aa HWK).trans ((Wk.of_below (((Below.refl w1.heap.size w1).alloc (Nat.le_refl _) (.cells #[.int .i64 N,.string S] 106)).drew)).trans hwk3));clear hws3 hwk3 hwr3 t1 t2;generalize w2.setCell ⟨w0.heap.size,1,none⟩ (.slice ta tn tc)=W3 at *;go_wp2
  go_ret
  exact⟨rfl,L',_,Aa HW3,Aa HK3⟩
end Go.Proofs.YtblomippkddgiaaGreatDoor.V
