import Derived.Test.YtblomippkddgiaaGreatDoorJ03
import Derived.Test.YtblomippkddgiaaGreatDoorJ04
import Derived.Defers
import Derived.Recover
import Derived.Deep.RegionWith
set_option maxRecDepth 100000
set_option maxHeartbeats 1000000
namespace Go.Proofs.YtblomippkddgiaaGreatDoor.V
open Go.RowKit
def partOf(ks:List Nat)(k:Int):Nat:=if 0≤k then (ks[k.toNat]?).getD ks.length else ks.length
structure Okp(s:ByteArray)(f p:Nat):Prop where
 le:p≤s.size
 fuel:s.size-p<f
 ok:(Pt.ty (nx s) f p).1=true
theorem Okp.ends{s:ByteArray}{f p:Nat}(h:Okp s f p):p<(Pt.ty (nx s) f p).2∧(Pt.ty (nx s) f p).2≤s.size:=by
 obtain⟨_,hb,_⟩:=Pt.agree (g:=nx s) (n:=s.size) (fun p hp=>aeR hp) f p 0 1 0 [] h.le h.fuel
 exact hb h.ok
theorem Okp.lt{s:ByteArray}{f p:Nat}(h:Okp s f p):p<s.size:=by
 have:=h.ends
 omega
theorem anE{s:ByteArray}{f:Nat}:∀(ks:List Nat) (start c:Nat),Pt.chain (Pt.ty (nx s) f) (nx s) start ks c→start≤s.size→s.size-start<f→∀k∈ks,start≤k∧Okp s f k:=by
 intro ks
 induction ks with
 |nil=>intro start c _ _ _ k hk;cases hk
 |cons a ks ih=>
  intro start c h hle hf k hk
  obtain⟨rfl,_,hT,hr⟩:=h
  have ho:Okp s f start:=⟨hle,hf,hT⟩
  have he:=ho.ends
  rcases List.mem_cons.1 hk with rfl|hk
  ·exact⟨Nat.le_refl _,ho⟩
  ·have:=ih _ c hr he.2 (by omega) k hk
   exact⟨by omega,this.2⟩
structure Okl(s:ByteArray)(f p:Nat):Prop where
 here:nx s p=114∨nx s p=117
 ok:Okp s (f+1) p
theorem Okl.chain{s:ByteArray}{f p:Nat}(h:Okl s f p):p+2≤s.size∧s.size-(p+2)<f∧∃c,Pt.chain (Pt.ty (nx s) f) (nx s) (p+2) (Pt.kids (nx s) f p) c:=by
 have hlt:=h.ok.lt
 have hfu:=h.ok.fuel
 have n1:¬nx s p=97:=by have:=h.here;omega
 have n2:¬nx s p=113:=by have:=h.here;omega
 have n3:¬nx s p=101:=by have:=h.here;omega
 have n4:Pt.isLeaf (nx s p)=false:=Pt.isLeaf_of (by have:=h.here;omega)
 have hok:=h.ok.ok
 have hty:Pt.ty (nx s) (f+1) p=(if nx s (p+1)=40 then (if (Pt.ty (nx s) f (p+2)).1 then Pt.lst (Pt.ty (nx s) f) (nx s) 5 (Pt.ty (nx s) f (p+2)).2 else (false,(Pt.ty (nx s) f (p+2)).2)) else (false,p+1)):=by
  simp[Pt.ty,n4,n3,n1,n2,h.here]
 rw[hty]at hok
 have hks:Pt.kids (nx s) f p=(p+2) :: Pt.lkids (Pt.ty (nx s) f) (nx s) 5 (Pt.ty (nx s) f (p+2)).2:=by simp[Pt.kids,n1,n2,h.here]
 by_cases h40:nx s (p+1)=40
 ·have hlt2:p+1<s.size:=acw h40 (by omega)
  rw[if_pos h40]at hok
  cases hx:(Pt.ty (nx s) f (p+2)).1 with
  |false=>rw[hx]at hok;simp at hok
  |true=>
   rw[hx,if_pos rfl]at hok
   have ho2:Okp s f (p+2):=⟨by omega,by omega,hx⟩
   have hl2:=ho2.lt
   refine⟨by omega,by omega,(Pt.lst (Pt.ty (nx s) f) (nx s) 5 (Pt.ty (nx s) f (p+2)).2).2-1,?_⟩
   rw[hks]
   refine⟨rfl,?_,hx,(Pt.chain_lkids 5 _ hok).1⟩
   intro h41
   cases f with
   |zero=>omega
   |succ f=>
    have:Pt.ty (nx s) (f+1) (p+2)=(false,p+2):=by simp[Pt.ty,h41,Pt.isLeaf]
    rw[this]at hx
    cases hx
 ·rw[if_neg h40]at hok
  simp at hok
theorem okp_cases{s:ByteArray}{f p:Nat}(h:Okp s (f+1) p) :
  (nx s p=98∨nx s p=99∨nx s p=105∨nx s p=115)∨(nx s p=101∧p+1<s.size∧49≤nx s (p+1)∧nx s (p+1)≤57) ∨
  (nx s p=97∧p+1<s.size∧49≤nx s (p+1)∧nx s (p+1)≤57∧Okp s f (p+2))∨(nx s p=113∧p+1<s.size∧48≤nx s (p+1)∧nx s (p+1)≤57∧Okp s f (p+2))∨Okl s f p:=by
 have hlt:=h.lt
 have hfu:=h.fuel
 have hok:=h.ok
 by_cases hl:nx s p=98∨nx s p=99∨nx s p=105∨nx s p=115
 ·exact Or.inl hl
 have hlf:Pt.isLeaf (nx s p)=false:=by simp[Pt.isLeaf];omega
 by_cases he:nx s p=101
 ·have hty:Pt.ty (nx s) (f+1) p=Pt.dig (nx s) 1 (p+1):=by simp[Pt.ty,he,Pt.isLeaf]
  rw[hty]at hok
  unfold Pt.dig at hok
  split at hok
  ·rename_i hc
   exact Or.inr (Or.inl ⟨he,acw (s:=s) (p:=p+1) rfl (by omega),by omega,hc.2⟩)
  ·cases hok
 by_cases ha:nx s p=97
 ·have hty:Pt.ty (nx s) (f+1) p=(if (Pt.dig (nx s) 1 (p+1)).1 then Pt.ty (nx s) f (p+2) else (false,p+1)):=by simp[Pt.ty,ha,Pt.isLeaf]
  rw[hty]at hok
  by_cases hc:48+1≤nx s (p+1)∧nx s (p+1)≤57
  ·have hd:Pt.dig (nx s) 1 (p+1)=(true,p+2):=by unfold Pt.dig;rw[if_pos hc]
   rw[hd,if_pos rfl]at hok
   have hl1:=acw (s:=s) (p:=p+1) rfl (by omega)
   exact Or.inr (Or.inr (Or.inl ⟨ha,hl1,by omega,hc.2,⟨by omega,by omega,hok⟩⟩))
  ·have hd:Pt.dig (nx s) 1 (p+1)=(false,p+1):=by unfold Pt.dig;rw[if_neg hc]
   rw[hd,if_neg (by simp)]at hok
   cases hok
 by_cases hq:nx s p=113
 ·have hty:Pt.ty (nx s) (f+1) p=(if (Pt.dig (nx s) 0 (p+1)).1 then Pt.ty (nx s) f (p+2) else (false,p+1)):=by simp[Pt.ty,hq,Pt.isLeaf]
  rw[hty]at hok
  by_cases hc:48+0≤nx s (p+1)∧nx s (p+1)≤57
  ·have hd:Pt.dig (nx s) 0 (p+1)=(true,p+2):=by unfold Pt.dig;rw[if_pos hc]
   rw[hd,if_pos rfl]at hok
   have hl1:=acw (s:=s) (p:=p+1) rfl (by omega)
   exact Or.inr (Or.inr (Or.inr (Or.inl ⟨hq,hl1,by omega,hc.2,⟨by omega,by omega,hok⟩⟩)))
  ·have hd:Pt.dig (nx s) 0 (p+1)=(false,p+1):=by unfold Pt.dig;rw[if_neg hc]
   rw[hd,if_neg (by simp)]at hok
   cases hok
 by_cases hr:nx s p=114∨nx s p=117
 ·exact Or.inr (Or.inr (Or.inr (Or.inr ⟨hr,h⟩)))
 ·have hty:Pt.ty (nx s) (f+1) p=(false,p):=by simp[Pt.ty,hlf,he,ha,hq,hr]
  rw[hty]at hok
  cases hok
theorem acP{s:ByteArray}{f p:Nat}(h:Okl s f p):∀q∈Pt.kids (nx s) f p,p<q∧Okp s f q:=by
 obtain⟨h1,h2,c,hc⟩:=h.chain
 intro q hq
 have:=anE _ _ _ hc h1 h2 q hq
 exact⟨by omega,this.2⟩
def loOf(c:Nat):Int:=if c=105 then -32768 else 0
def hiOf(g:Nat→Nat)(f p:Nat):Int:=
 if g p=98 then 1 else if g p=99 then 65535 else if g p=105 then 32767 else if g p=101 then (g (p+1):Int)-48-1 else if g p=113 then (g (p+1):Int)-48 else ((Pt.kids g f p).length:Int)-1
abbrev It:=Int×ByteArray
abbrev Eaten:=Option (List Bool×List It)
def headOf(g:Nat→Nat)(f p:Nat)(v:List It):Option (List Bool×List Nat×List It):=
 if g p=97 then some ([],List.replicate (g (p+1)-48) (p+2),v)
 else if g p=114 then some ([],Pt.kids g f p,v)
 else match v with
  |[]=>none
  |x :: r=>
   if g p=115 then (if x.1=0∧x.2.size≤14 then some ([true],[],r) else none)
   else if x.2.size=0∧loOf (g p)≤x.1∧x.1≤hiOf g f p then
    some ([false],(if g p=117 then [partOf (Pt.kids g f p) x.1] else if g p=113 then List.replicate x.1.toNat (p+2) else []),r)
   else none
def joinE(k0:List Bool):Eaten→Eaten
 |none=>none
 |some (k,r)=>some (k0++k,r)
def seqE(E:Nat→List It→Eaten):List Nat→List It→Eaten
 |[],v=>some ([],v)
 |q :: qs,v=>match E q v with
  |none=>none
  |some (k,r)=>joinE k (seqE E qs r)
def eat(g:Nat→Nat):Nat→Nat→List It→Eaten
 |0,_,_=>none
 |f+1,p,v=>match headOf g f p v with
  |none=>none
  |some (k0,qs,r)=>joinE k0 (seqE (eat g f) qs r)
theorem acS(e:Eaten):joinE [] e=e:=by
 cases e with
 |none=>rfl
 |some e=>rfl
def ajK(E:List It→Eaten):Prop:=∀v ks r,E v=some (ks,r)→r=v.drop ks.length∧ks.length≤v.length
theorem aiN{E:Nat→List It→Eaten}:∀qs:List Nat,(∀q∈qs,ajK (E q))→ajK (seqE E qs):=by
 intro qs
 induction qs with
 |nil=>intro _ v ks r h;simp[seqE]at h;obtain⟨rfl,rfl⟩:=h;simp
 |cons a qs ih=>
  intro hE v ks r h
  simp only[seqE]at h
  cases ha:E a v with
  |none=>rw[ha]at h;cases h
  |some e=>
   obtain⟨k,r1⟩:=e
   rw[ha]at h
   simp only at h
   obtain⟨h1,h2⟩:=hE a (by simp) v k r1 ha
   cases hs:seqE E qs r1 with
   |none=>rw[hs]at h;cases h
   |some e'=>
    obtain⟨k',r2⟩:=e'
    rw[hs]at h
    simp only[joinE,Option.some.injEq,Prod.mk.injEq]at h
    obtain⟨rfl,rfl⟩:=h
    obtain⟨h3,h4⟩:=ih (fun q hq=>hE q (by simp[hq])) r1 k' r2 hs
    subst h1
    rw[List.length_drop]at h4
    refine⟨?_,by simp;omega⟩
    rw[h3,List.drop_drop,List.length_append]
theorem adr{g:Nat→Nat}{f p:Nat}{v:List It}{k0:List Bool}{qs:List Nat}{r:List It}(h:headOf g f p v=some (k0,qs,r)):r=v.drop k0.length∧k0.length≤v.length:=by
 unfold headOf at h
 split at h
 ·cases h;simp
 ·split at h
  ·cases h;simp
  ·cases v with
   |nil=>cases h
   |cons x v=>
    simp only at h
    split at h
    ·split at h
     ·cases h;simp
     ·cases h
    ·split at h
     ·cases h;simp
     ·cases h
theorem eat_heads(g:Nat→Nat):∀f p,ajK (eat g f p):=by
 intro f
 induction f with
 |zero=>intro p v ks r h;cases h
 |succ f ih=>
  intro p v ks r h
  simp only[eat]at h
  cases hh:headOf g f p v with
  |none=>rw[hh]at h;cases h
  |some e=>
   obtain⟨k0,qs,r0⟩:=e
   rw[hh]at h
   simp only at h
   obtain⟨h1,h2⟩:=adr hh
   cases hs:seqE (eat g f) qs r0 with
   |none=>rw[hs]at h;cases h
   |some e'=>
    obtain⟨k',r2⟩:=e'
    rw[hs]at h
    simp only[joinE,Option.some.injEq,Prod.mk.injEq]at h
    obtain⟨rfl,rfl⟩:=h
    obtain⟨h3,h4⟩:=aiN qs (fun q _=>ih q) r0 k' r2 hs
    subst h1
    rw[List.length_drop]at h4
    refine⟨?_,by simp;omega⟩
    rw[h3,List.drop_drop,List.length_append]
def Items(w:World)(V:Value)(v:List It):Prop:=∃a cap,V=.slice a v.length cap∧v.length≤cap∧(v=[]∨∃b off,a=some ⟨b,off,none⟩∧b<w.heap.size∧∀j x,v[j]?=some x→w.cell? ⟨b,off+j*2,none⟩=some (.int .i64 x.1)∧w.cell? ⟨b,off+j*2+1,none⟩=some (.string x.2))
theorem Items.below{w w':World}{V:Value}{v:List It}(h:Items w V v)(hb:Below w.heap.size w w'):Items w' V v:=by
 obtain⟨a,cap,hV,hc,h⟩:=h
 refine⟨a,cap,hV,hc,?_⟩
 rcases h with h|⟨b,off,ha,hl,hx⟩
 ·exact Or.inl h
 ·refine Or.inr ⟨b,off,ha,Nat.lt_of_lt_of_le hl hb.size,fun j x hj=>?_⟩
  obtain⟨h1,h2⟩:=hx j x hj
  exact⟨(hb.cell (p:=⟨b,_,none⟩) hl).trans h1,(hb.cell (p:=⟨b,_,none⟩) hl).trans h2⟩
abbrev aaw(n q:Nat):Value:=.agg #[.int .i64 n,.int .i64 q]
abbrev aaf(n q:Nat):Ending:=.panicked [{v:=.iface 86 (aaw n q),recovered:=false}]
theorem aqd(w:World)(s:ByteArray):At (w.alloc (.cells #[.string s,.int .i64 0] 206)) w.heap.size s 0:=by
 show (w.heap.push _)[w.heap.size]?=_
 rw[Array.getElem?_push_size]
 rfl
theorem akx(s:ByteArray)(w:World)(hs:¬s.size≤40) :
  Calls Tryz.prog 78 #[.string s] w fun e w'=>e=aaf 1 0∧Below w.heap.size w w':=by
 have h:(40:Int)<(s.size:Int):=by omega
 clear hs
 go_enter Tryz.func78,Tryz.ntmps78
 go_wp2
 exact⟨rfl,rfl,(Below.refl _ _).alloc (Nat.le_refl _) _⟩
theorem adJ{w v:World}{b:Nat}(hk:Keeps b (w.alloc zero63) v)(hb:w.heap.size≤b):Below w.heap.size w v:=
 ((Below.refl _ _).alloc (Nat.le_refl _) zero63).trans ⟨hk.os,hk.tape,hk.output,hk.size,fun k h=>hk.block k (by simp;omega) (by omega)⟩
theorem akJ(s:ByteArray)(hs:s.size≤40)(w:World):Calls Tryz.prog 128 #[.pointer (some ⟨w.heap.size+1,0,none⟩)] ((w.alloc zero63).alloc (.cells #[.string s,.int .i64 0] 206)) (aba (w.heap.size+1) s (s.size+1) 0 ((w.alloc zero63).alloc (.cells #[.string s,.int .i64 0] 206))):=by
 have h:=aqd (w.alloc zero63) s
 have e:(w.alloc zero63).heap.size=w.heap.size+1:=by simp
 rw[e]at h
 exact aox (w.heap.size+1) s hs (s.size+1) 0 _ h (by omega) (by omega)
theorem aiX(s:ByteArray)(w:World)(hs:s.size≤40)(hT:(Pt.ty (nx s) (s.size+1) 0).1=false) :
  Calls Tryz.prog 78 #[.string s] w fun e w'=>e=aaf 2 (Pt.ty (nx s) (s.size+1) 0).2∧Below w.heap.size w w':=by
 have H:=akJ s hs w
 unfold aba at H
 simp only[hT,Bool.false_eq_true,if_false]at H
 clear hT
 go_enter Tryz.func78,Tryz.ntmps78
 go_wp2_with fail
 refine H.mono ?_
 rintro e w1 ⟨rfl,hk⟩
 go_wp2
 exact⟨rfl,rfl,adJ (((Keeps.refl _ _).alloc _).trans hk) (by omega)⟩
theorem akw(s:ByteArray)(w:World)(hs:s.size≤40)(hT:(Pt.ty (nx s) (s.size+1) 0).1=true)(hq:(Pt.ty (nx s) (s.size+1) 0).2<s.size) :
  Calls Tryz.prog 78 #[.string s] w fun e w'=>e=aaf 2 (Pt.ty (nx s) (s.size+1) 0).2∧Below w.heap.size w w':=by
 have H:=akJ s hs w
 unfold aba at H
 simp only[hT,if_true]at H
 clear hT
 generalize (Pt.ty (nx s) (s.size+1) 0).2=q at *
 have hq':(q:Int)<(s.size:Int):=by omega
 go_enter Tryz.func78,Tryz.ntmps78
 go_wp2_with fail
 refine H.mono ?_
 rintro e w1 ⟨c0,c1,c2,rfl,hk,ha,hr⟩
 obtain⟨⟨x0,rfl⟩,⟨x1,rfl⟩,⟨ea,en,ec,rfl⟩⟩:=rep_shape hr
 clear H hr
 have hp:=fun o=>(ha.alloc o).place
 have hk':=((Keeps.refl (w.heap.size+1) (w.alloc zero63)).alloc _).trans hk
 have hb1:=ha.lt
 go_wp2_with fail
 refine(abZ (w.heap.size+1) q s _ (ha.alloc _)).mono ?_
 rintro e w2 ⟨rfl,hk2⟩
 go_wp2
 exact⟨rfl,rfl,adJ ((hk'.alloc _).trans hk2) (by omega)⟩
theorem amy(s:ByteArray)(w:World)(hs:s.size≤40)(hT:(Pt.ty (nx s) (s.size+1) 0).1=true)(hq:(Pt.ty (nx s) (s.size+1) 0).2=s.size) :
  Calls Tryz.prog 78 #[.string s] w fun e w'=>(if 4<Pt.dep (nx s) (s.size+1) 0 then e=aaf 3 0 else ∃c0 c1 c2,e=.returned (.agg #[c0,c1,c2])∧Rep w' (fun k=>w.heap.size≤k) (nx s) (s.size+1) 0 c0 c1 c2)∧Below w.heap.size w w':=by
 have H:=akJ s hs w
 unfold aba at H
 simp only[hT,if_true,hq]at H
 clear hT hq
 have hD:=fun S c0 c1 c2 w' h=>alo (nx s) (s.size+1) (by omega) 0 S c0 c1 c2 w' h
 generalize hd:Pt.dep (nx s) (s.size+1) 0=d at *
 have hd41:d≤41:=by have:=alp (nx s) (s.size+1) 0;omega
 have HD:=aab hD
 clear hD hd
 by_cases h4:4<d
 ·have h4':(4:Int)<(d:Int):=by omega
  simp only[h4,if_true]
  go_enter Tryz.func78,Tryz.ntmps78
  go_wp2_with fail
  refine H.mono ?_
  rintro e w1 ⟨c0,c1,c2,rfl,hk,ha,hr⟩
  clear H
  obtain⟨⟨x0,rfl⟩,⟨x1,rfl⟩,⟨ea,en,ec,rfl⟩⟩:=rep_shape hr
  have hp:=fun o=>(ha.alloc o).place
  have hk':=((Keeps.refl (w.heap.size+1) (w.alloc zero63)).alloc _).trans hk
  have HR:=aab (fun o=>rep_above ((Above.refl _ _).alloc o) hr)
  clear hr
  go_wp2_with fail
  refine((unhide HD) _ _ _ _ _ (unhide HR _)).mono ?_
  rintro e w2 ⟨rfl,hb2⟩
  go_wp2
  refine⟨rfl,rfl,(adJ (hk'.alloc (.cells #[.int .u8 x0,.int .i64 x1,.slice ea en ec] 153)) (by omega)).trans (hb2.mono ?_)⟩
  have:=hk'.size
  simp at this ⊢
  omega
 ·have h4':¬(4:Int)<(d:Int):=by omega
  simp only[h4,if_false]
  go_enter Tryz.func78,Tryz.ntmps78
  go_wp2_with fail
  refine H.mono ?_
  rintro e w1 ⟨c0,c1,c2,rfl,hk,ha,hr⟩
  clear H
  obtain⟨⟨x0,rfl⟩,⟨x1,rfl⟩,⟨ea,en,ec,rfl⟩⟩:=rep_shape hr
  have hp:=fun o=>(ha.alloc o).place
  have hk':=((Keeps.refl (w.heap.size+1) (w.alloc zero63)).alloc _).trans hk
  have T0:=((Tri.new w (.int .u8 0) (.int .i64 0) (.slice none 0 0)).keeps hk' (by omega)).alloc (.cells #[.int .u8 x0,.int .i64 x1,.slice ea en ec] 153)
  have T1:=Tri.new w1 (.int .u8 x0) (.int .i64 x1) (.slice ea en ec)
  have hl1:=T0.lt
  have hz1:w.heap.size+1<w1.heap.size:=ha.lt
  have HR:=aab hr
  clear hr
  go_wp2_with fail
  refine((unhide HD) _ _ _ _ _ (rep_above ((Above.refl _ _).alloc _) (unhide HR))).mono ?_
  rintro e w2 ⟨rfl,hb2⟩
  have hbk:∀k o,k<w1.heap.size+1→w2.cell? ⟨k,o,none⟩=(w1.alloc (.cells #[.int .u8 x0,.int .i64 x1,.slice ea en ec] 153)).cell? ⟨k,o,none⟩:=fun k o hk=>hb2.cell (p:=⟨k,o,none⟩) (by simpa using hk)
  have hfk:∀k o,k<w1.heap.size+1→w2.frozen? ⟨k,o,none⟩=(w1.alloc (.cells #[.int .u8 x0,.int .i64 x1,.slice ea en ec] 153)).frozen? ⟨k,o,none⟩:=fun k o hk=>hb2.frozen (p:=⟨k,o,none⟩) (by simpa using hk)
  obtain⟨u0,u1,u2,v0,v1,v2⟩:=T0.facts
  obtain⟨x0',x1',x2',y0,y1,y2⟩:=T1.facts
  rw[←hbk _ _ (by omega)]at u0 u1 u2 x0' x1' x2'
  rw[←hfk _ _ (by omega)]at v0 v1 v2 y0 y1 y2
  clear hbk hfk T0 T1
  go_wp2
  have hz2:=hb2.size
  have hk1s:=hk.size
  simp at hz2 hk1s
  refine bodyPost_ret (v:=.agg #[.int .u8 x0,.int .i64 x1,.slice ea en ec]) (by simp[results,Tryz.results78,go_sem,u0,u1,u2]) rfl ⟨⟨_,_,_,rfl,?_⟩,?_⟩
  ·have h1:Rep w1 (fun k=>w.heap.size+2≤k) (nx s) (s.size+1) 0 (.int .u8 x0) (.int .i64 x1) (.slice ea en ec):=by simpa using unhide HR
   have h2:=rep_above (((Above.refl _ _).alloc (.cells #[.int .u8 x0,.int .i64 x1,.slice ea en ec] 153)).trans (⟨hb2.size,fun k _ hl=>hb2.block k hl⟩:Above (fun k=>w.heap.size+2≤k) _ w2)) h1
   refine aa6 (fun k hk _=>by omega) (rep_above ?_ h2)
   exact(((Above.refl _ _).setCell (by simp) _).setCell (by simp) _).setCell (by simp) _
  ·have h1:=(adJ (hk'.alloc (.cells #[.int .u8 x0,.int .i64 x1,.slice ea en ec] 153)) (by omega)).trans (hb2.mono (by simp;omega))
   exact((h1.setCell (by simp) _).setCell (by simp) _).setCell (by simp) _
theorem ab9(n q:Nat)(w:World):(Instr.typeAssert (.iface 86 (aaw n q)) 20 86 true).run Tryz.prog w=.ok (.tuple #[aaw n q,.bool true]) w:=by kernel_rfl
theorem caught_any(n q:Nat)(w:World) :
  Calls Tryz.prog 34 #[.iface 86 (aaw n q)] w fun e w'=>e=.returned (aaw n q)∧Below w.heap.size w w':=by
 have hta:=ab9 n q
 go_enter Tryz.func34,Tryz.ntmps34
 go_wp2
 exact bodyPost_ret (v:=aaw n q) (by simp[results,Tryz.results34,go_sem]) rfl ⟨rfl,((Below.refl _ _).alloc (Nat.le_refl _) _).alloc (by simp) _⟩
theorem aeE{S:ByteArray}:S.toList=[]↔S.size=0:=by
 rw[ByteArray.toList_eq]
 constructor
 ·intro h
  have h2:=congrArg List.length h
  rw[Array.length_toList]at h2
  exact h2
 ·intro h
  exact List.eq_nil_of_length_eq_zero (by rw[Array.length_toList];exact h)
theorem abp{g:Nat→Nat}{f p:Nat}{v:List It}{k0:List Bool}{qs:List Nat}{r:List It}(h:headOf g f p v=some (k0,qs,r)):eat g (f+1) p v=joinE k0 (seqE (eat g f) qs r):=by
 simp only[eat,h]
theorem acn{g:Nat→Nat}{f p:Nat}{v:List It}(h:headOf g f p v=none):eat g (f+1) p v=none:=by
 simp only[eat,h]
def b8(n:Int):UInt8:=UInt8.ofNat n.toNat
theorem aaA{n:Int}(h0:0≤n)(h1:n≤255):((b8 n).toNat:Int)=n:=by
 unfold b8
 rw[UInt8.toNat_ofNat_of_lt' (by show n.toNat<256;omega)]
 omega
def two8(n:Int):List UInt8:=[b8 (n % 65536 / 256),b8 (n % 256)]
def enc8(k:Bool)(x:It):List UInt8:=if k then two8 x.2.size++(x.2.data.toList++(if x.2.size % 2=1 then [0] else [])) else two8 x.1
def bytesOf:List Bool→List It→List UInt8
 |k :: ks,x :: v=>enc8 k x++bytesOf ks v
 |_,_=>[]
theorem ao0(k:Bool)(x:It)(h:k=true→x.2.size≤14):(enc8 k x).length≤17:=by
 unfold enc8
 cases k with
 |false=>simp[two8]
 |true=>
  have h14:=h rfl
  have e:x.2.data.toList.length=x.2.size:=by simp
  simp only[if_true,List.length_append,e]
  split <;> simp[two8] <;> omega
def aql(ks:List Bool)(v:List It):Prop:=ks.length=v.length∧∀(i:Nat) (k:Bool) (x:It),ks[i]?=some k→v[i]?=some x→(k=true→x.2.size≤14)∧(k=false→-32768≤x.1∧x.1≤65535)
end Go.Proofs.YtblomippkddgiaaGreatDoor.V
