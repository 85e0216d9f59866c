import Derived.Test.YtblomippkddgiaaGreatDoorK02
set_option maxRecDepth 100000
set_option maxHeartbeats 2000000
namespace Go.Proofs.YtblomippkddgiaaGreatDoor.V
open Go.RowKit
theorem aaM:(Tryz.prog.info? 153).map (fun i=>(i.zero,i.size,i.bytes))=some (some (.agg #[.int .u8 0,.int .i64 0,.slice none 0 0]),3,40):=by kernel_rfl
def KA(b:Nat)(s:ByteArray)(f:Nat):Prop:=∀(p:Nat) (w:World),At w b s p->p<=s.size->s.size-p<f->Calls Tryz.prog 128 #[.pointer (some ⟨b,0,none⟩)] w (CZ b s f p w)
def aam(w:World)(B:Nat)(s:ByteArray)(f:Nat)(ks:List Nat)(v:Value)(xs:List Value):Prop:=
 ∀(i q:Nat),ks[i]?=some q->∃d0 d1 d2,xs[3*i]?=some d0/\xs[3*i+1]?=some d1/\xs[3*i+2]?=some d2/\EN w (fun k=>B<=k/\v.ownBlock≠some k) (nx s) f q d0 d1 d2
structure QK(b f p:Nat)(s:ByteArray)(w:World)(j k q:Nat)(ks:List Nat)(v:Value)(xs:List Value)(wr:World):Prop where
 sum:k+j=6
 some:1<=k
 len:ks.length=k
 le:q<=s.size
 fuel:s.size-q<f
 reader:At wr b s q
 keeps:Af b w wr
 owns:wr.ownsRow w.heap.size 153 3 v k xs
 inside:aam wr w.heap.size s f ks v xs
 rest:Pt.E4 (Pt.ty (nx s) f) (nx s) 5 (Pt.ty (nx s) f (p+1)).2=Pt.E4 (Pt.ty (nx s) f) (nx s) j q
 kids:(p+1) :: Pt.CP (Pt.ty (nx s) f) (nx s) 5 (Pt.ty (nx s) f (p+1)).2=ks++Pt.CP (Pt.ty (nx s) f) (nx s) j q
def lenOf:Value->Nat|.slice _ n _=>n|_=>0
theorem Bp{w:World}{S:Nat->Prop}{g:Nat->Nat}{f p:Nat}{c0 c1 c2:Value}(h:EN w S g f p c0 c1 c2):(∃x,c0=.int .u8 x)/\(∃x,c1=.int .i64 x)/\(∃a n c,c2=.slice a n c):=by
 cases f with
 |zero=>exact h.elim
 |succ f=>
  obtain⟨h0,h1,xs,⟨⟨_,ho⟩,_⟩,_⟩:=h;refine⟨⟨_,h0⟩,⟨_,h1⟩,?_⟩;rcases ho with ⟨hv,_⟩|⟨g,cap,cur,hv,_⟩
  ·exact⟨_,_,_,hv⟩
  ·exact⟨_,_,_,hv⟩
theorem Ik{w:World}{B n:Nat}{v:Value}{xs:List Value}(h:w.ownsRow B 153 3 v n xs)(hn:1<=n):∃g cap,v=.slice (some ⟨g,0,none⟩) n cap/\B<=g/\g<w.heap.size:=by
 obtain⟨_,h⟩:=h;rcases h with ⟨_,h0⟩|⟨g,cap,cur,hv,hg,hh,_⟩
 ·omega
 ·exact⟨g,cap,hv,hg,lt_of_block hh⟩
theorem Lw{w w':World}{b B n:Nat}{v:Value}{xs:List Value}(h:w.ownsRow B 153 3 v n xs)(hk:Af b w w')(hb:b<B):w'.ownsRow B 153 3 v n xs:=by
 obtain⟨hl,h⟩:=h;refine⟨hl,?_⟩;rcases h with h|⟨g,cap,cur,hv,hg,hh,r⟩
 ·exact Or.inl h
 ·refine Or.inr ⟨g,cap,cur,hv,hg,?_,r⟩;rw[hk.block g (lt_of_block hh) (by omega)];exact hh
theorem Uv{b f p q0:Nat}{s:ByteArray}{w w1 w2:World}{d0 d1 d2:Value}(hk1:Af b w w1)(hk2:Af b w1 w2)(ha:At w2 b s q0)(hq:(Pt.ty (nx s) f (p+1)).2=q0)(hle:q0<=s.size)(hf:s.size-q0<f)
  (hr:EN w2 (fun k=>w1.heap.size<=k) (nx s) f (p+1) d0 d1 d2):
  QK b f p s w 5 1 q0 [p+1] (.slice (some ⟨w2.heap.size,0,none⟩) 1 1) [d0,d1,d2] (w2.alloc (.cells #[d0,d1,d2] 153)):=by
 have hs1:=hk1.size;have hs2:=hk2.size;refine⟨rfl,Nat.le_refl _,rfl,hle,hf,ha.alloc _,(hk1.trans hk2).alloc _,?_,?_,by rw[hq],by rw[hq];rfl⟩
 ·obtain⟨⟨hl,ho⟩,hS⟩:=Lx (d0:=d0) (d1:=d1) (d2:=d2) w2 rfl;refine⟨hl,?_⟩;rcases ho with ⟨h1,_⟩|⟨g,cap,cur,hv,hg,r⟩
  ·cases h1
  ·cases hv;exact Or.inr ⟨_,_,cur,rfl,by omega,r⟩
 ·intro i q hq';match i,hq' with
  |0,hq'=>
   simp at hq';subst hq';refine⟨d0,d1,d2,rfl,rfl,rfl,Bo ((Ce.refl _ _).alloc _) (Dv (fun k hk hlt=>⟨by omega,?_⟩) hr)⟩;simp only[Value.ownBlock,ne_eq,Option.some.injEq];omega
theorem Wz{b f p j k q:Nat}{s:ByteArray}{w wr w2 w3:World}{ks:List Nat}{v v' d0 d1 d2:Value}{xs:List Value}(hbw:b<w.heap.size)(I:QK b f p s w (j+1) k q ks v xs wr)(hk:Af b wr w2)
  (ha:At w2 b s (Pt.ty (nx s) f q).2) (hT:(Pt.ty (nx s) f q).1=true) (hb:Pt.Agree (nx s) s.size f) (hc:¬nx s q=41) (hr:EN w2 (fun k=>wr.heap.size<=k) (nx s) f q d0 d1 d2)
  (hown:w3.ownsRow w.heap.size 153 3 v' (k+1) (xs++[d0,d1,d2])) (hg:(w2.alloc (.cells #[d0,d1,d2] 153)).grownBy w3 v.ownBlock) (hat:v'.ownBlock=v.ownBlock\/v'.ownBlock=some (w2.alloc (.cells #[d0,d1,d2] 153)).heap.size):
  QK b f p s w j (k+1) (Pt.ty (nx s) f q).2 (ks++[q]) v' (xs++[d0,d1,d2]) w3:=by
 obtain⟨hsum,hsome,hlen,hle,hfuel,hrd,hkp,how,hin,hrest,hkids⟩:=I;obtain⟨g,cap,hv,hBg,hgl⟩:=Ik how hsome;have hvb:v.ownBlock=some g:=by rw[hv];rfl
 obtain⟨_,hpos,_⟩:=hb q 0 1 0 [] hle hfuel;obtain⟨q1,q2⟩:=hpos hT;have hs1:=hkp.size;have hs2:=hk.size;have hxl:xs.length=3*k:=by have:=how.1;omega
 have hgs:(w2.alloc (.cells #[d0,d1,d2] 153)).heap.size=w2.heap.size+1:=by simp
 have hsz3:w2.heap.size+1<=w3.heap.size:=by have:=hg.size;omega
 have keep3:∀k',k'<w2.heap.size->¬k'=g->w3.heap[k']?=w2.heap[k']?:=by
  intro k' hl hn;rw[hg.block k' (by omega) (by rw[hvb];intro e;cases e;exact hn rfl)];exact Below.heap_alloc _ _ _ hl
 refine⟨by omega,by omega,by simp[hlen],q2,by omega,?_,?_,hown,?_,?_,?_⟩
 ·unfold At at ha ⊢;rw[keep3 b (lt_of_block ha) (by omega)];exact ha
 ·refine⟨?_,?_,?_,by omega,?_⟩
  ·exact hg.os.trans (hk.os.trans hkp.os)
  ·exact hg.tape.trans (hk.tape.trans hkp.tape)
  ·exact hg.output.trans (hk.output.trans hkp.output)
  ·intro k' hl hn;rw[keep3 k' (by omega) (by omega),hk.block k' (by omega) hn,hkp.block k' hl hn]
 ·have ab:∀(S:Nat->Prop),¬S g->Ce S w2 w3:=fun S hS=>⟨by omega,fun k' hk' hl=>keep3 k' hl (fun e=>hS (e ▸ hk'))⟩
  have fresh:∀k',k'<w2.heap.size->¬k'=g->v'.ownBlock≠some k':=by
   intro k' hl hn e;rcases hat with h|h
   ·rw[h,hvb]at e;cases e;exact hn rfl
   ·rw[h,hgs]at e;cases e;omega
  intro i q' hq';by_cases hi:i<ks.length
  ·rw[List.getElem?_append_left hi]at hq';obtain⟨e0,e1,e2,a0,a1,a2,hre⟩:=hin i q' hq';refine⟨e0,e1,e2,?_,?_,?_,?_⟩
   ·rw[List.getElem?_append_left (by omega)];exact a0
   ·rw[List.getElem?_append_left (by omega)];exact a1
   ·rw[List.getElem?_append_left (by omega)];exact a2
   ·have h1:=Bo (hk.above (S:=fun k=>w.heap.size<=k/\v.ownBlock≠some k) (by omega)) hre;have h2:=Dv (S':=fun k=>w.heap.size<=k/\v.ownBlock≠some k/\v'.ownBlock≠some k) (fun k' hk' hl=>⟨hk'.1,hk'.2,fresh k' hl (fun e=>hk'.2 (by rw[e];exact hvb))⟩) h1;exact Dv (fun k' hk' _=>⟨hk'.1,hk'.2.2⟩) (Bo (ab _ (fun h=>h.2.1 hvb)) h2)
  ·have hi':i=ks.length:=by
    rcases Nat.lt_or_ge i (ks.length+1) with h|h
    ·omega
    ·rw[List.getElem?_eq_none (by simpa using h)]at hq';cases hq'
   subst hi';rw[List.getElem?_append_right (Nat.le_refl _)]at hq';simp at hq';subst hq';refine⟨d0,d1,d2,?_,?_,?_,?_⟩
   ·rw[List.getElem?_append_right (by omega),show 3*ks.length-xs.length=0 by omega];rfl
   ·rw[List.getElem?_append_right (by omega),show 3*ks.length+1-xs.length=1 by omega];rfl
   ·rw[List.getElem?_append_right (by omega),show 3*ks.length+2-xs.length=2 by omega];rfl
   ·have h2:=Dv (S':=fun k=>w.heap.size<=k/\¬k=g/\v'.ownBlock≠some k) (fun k' hk' hl=>⟨by omega,by omega,fresh k' hl (by omega)⟩) hr;exact Dv (fun k' hk' _=>⟨hk'.1,hk'.2.2⟩) (Bo (ab _ (fun h=>h.2.1 rfl)) h2)
 ·rw[hrest];simp[Pt.E4,hc,hT]
 ·rw[hkids];simp[Pt.CP,hc]
def Dz(b:Nat)(s:ByteArray)(f p:Nat)(w:World)(e:Ending)(w':World):Prop:=
 if (Pt.E4 (Pt.ty (nx s) f) (nx s) 5 (Pt.ty (nx s) f (p+1)).2).1 then ∃v,e=.returned v/\Af b w w'/\At w' b s (Pt.E4 (Pt.ty (nx s) f) (nx s) 5 (Pt.ty (nx s) f (p+1)).2).2/\Kids w' (fun k=>w.heap.size<=k) (nx s) f ((p+1) :: Pt.CP (Pt.ty (nx s) f) (nx s) 5 (Pt.ty (nx s) f (p+1)).2) v
 else e=BB (Pt.E4 (Pt.ty (nx s) f) (nx s) 5 (Pt.ty (nx s) f (p+1)).2).2/\Af b w w'
theorem Lg{b f p j k q:Nat}{s:ByteArray}{w wr w':World}{ks:List Nat}{v:Value}{xs:List Value}(hbw:b<w.heap.size)(I:QK b f p s w j k q ks v xs wr)(hq:nx s q=41)(hk:Af b wr w')(ha:At w' b s (q+1)):
  Dz b s f p w (.returned v) w':=by
 have e1:Pt.E4 (Pt.ty (nx s) f) (nx s) j q=(true,q+1):=by cases j<;>simp[Pt.E4,hq]
 have e2:Pt.CP (Pt.ty (nx s) f) (nx s) j q=[]:=by cases j<;>simp[Pt.CP,hq]
 unfold Dz;rw[I.rest,e1,I.kids,e2,List.append_nil,if_pos rfl];refine⟨v,rfl,I.keeps.trans hk,ha,xs,⟨?_,?_⟩,?_⟩
 ·obtain⟨hl,h⟩:=Lw I.owns hk hbw;rw[I.len];refine⟨hl,?_⟩;rcases h with h|⟨g,cap,cur,hv,hg,r⟩
  ·exact Or.inl h
  ·exact Or.inr ⟨g,cap,cur,hv,Nat.zero_le _,r⟩
 ·intro k' hk';obtain⟨g,cap,hv,hBg,hgl⟩:=Ik I.owns I.some;rw[hv]at hk';cases hk';exact hBg
 ·intro i q' hq';obtain⟨d0,d1,d2,a0,a1,a2,hr⟩:=I.inside i q' hq';refine⟨d0,d1,d2,a0,a1,a2,Dv (fun k' hk' _=>hk'.1) (Bo (hk.above ?_) hr)⟩;intro h;have:=h.1;omega
theorem Rw{b f p k q:Nat}{s:ByteArray}{w wr w':World}{ks:List Nat}{v:Value}{xs:List Value}(I:QK b f p s w 0 k q ks v xs wr)(hq:¬nx s q=41)(hk:Af b wr w'):
  Dz b s f p w (BB q) w':=by
 have e1:Pt.E4 (Pt.ty (nx s) f) (nx s) 0 q=(false,q):=by simp[Pt.E4,hq]
 unfold Dz;rw[I.rest,e1,if_neg (by simp)];exact⟨rfl,I.keeps.trans hk⟩
theorem Zg{b f p j k q:Nat}{s:ByteArray}{w wr w':World}{ks:List Nat}{v:Value}{xs:List Value}(I:QK b f p s w (j+1) k q ks v xs wr)(hq:¬nx s q=41)(hT:(Pt.ty (nx s) f q).1=false)(hk:Af b wr w'):
  Dz b s f p w (BB (Pt.ty (nx s) f q).2) w':=by
 have e1:Pt.E4 (Pt.ty (nx s) f) (nx s) (j+1) q=(false,(Pt.ty (nx s) f q).2):=by simp[Pt.E4,hq,hT]
 unfold Dz;rw[I.rest,e1,if_neg (by simp)];exact⟨rfl,I.keeps.trans hk⟩
theorem RY(b p:Nat)(s:ByteArray)(w:World)(h:At w b s p)(hp:p<=s.size)(hs:s.size<=40)(hc:¬nx s p=40):
  Calls Tryz.prog 196 #[.pointer (some ⟨b,0,none⟩)] w fun e w'=>e=BB p/\Af b w w':=by
 have HB:=KU b p s w (nx s p) 40 h hp hs rfl hc;clear hc h;go_enter Tryz.func196,Tryz.ntmps196;go_wp2_with fail
 refine HB.mono ?_;rintro e w1 ⟨rfl,hk⟩;go_wp2;exact⟨rfl,rfl,hk⟩
theorem PZ(b f p:Nat)(s:ByteArray)(w:World)(h:At w b s p)(hp:p<s.size)(hs:s.size<=40)(hf:s.size-(p+1)<f)(hc:nx s p=40)(H:KA b s f)(hT:(Pt.ty (nx s) f (p+1)).1=false):
  Calls Tryz.prog 196 #[.pointer (some ⟨b,0,none⟩)] w fun e w'=>e=BB (Pt.ty (nx s) f (p+1)).2/\Af b w w':=by
 have HB:=Gj b p s w 40 h (by omega) hs hc;have HO:∀w,At w b s (p+1)->Calls Tryz.prog 128 #[.pointer (some ⟨b,0,none⟩)] w fun e w'=>e=BB (Pt.ty (nx s) f (p+1)).2/\Af b w w':=by
  intro w1 ha;refine(H (p+1) w1 ha (by omega) hf).mono ?_;intro e w' hp';unfold CZ at hp';rw[hT,if_neg (by simp)]at hp';exact hp'
 have HO:=Ab HO;clear hc h H hT;go_enter Tryz.func196,Tryz.ntmps196;go_wp2_with fail
 refine HB.mono ?_;rintro e w1 ⟨rfl,hk,ha⟩;clear HB;go_wp2_with fail
 refine((Aa HO) _ ha).mono ?_;rintro e w2 ⟨rfl,hk2⟩;go_wp2;exact⟨rfl,rfl,hk.trans hk2⟩
theorem RZ(b f p:Nat)(s:ByteArray)(w:World)(h:At w b s p)(hp:p<s.size)(hs:s.size<=40)(hf:s.size-(p+1)<f)(hc:nx s p=40)(H:KA b s f)(hA:Pt.Agree (nx s) s.size f)(hT:(Pt.ty (nx s) f (p+1)).1=true):
  Calls Tryz.prog 196 #[.pointer (some ⟨b,0,none⟩)] w (Dz b s f p w):=by
 have hbw:=h.lt;have HB:=Gj b p s w 40 h (by omega) hs hc;have HA:=Ab hA;have HT:=Ab hT;have HO:=Ab H;clear hc h H hT hA;obtain⟨i0,hi,hz0,hz1,hz2⟩:=info_parts aaM;go_enter Tryz.func196,Tryz.ntmps196;go_wp2_with fail
 refine HB.mono ?_;rintro e w1 ⟨rfl,hk,ha⟩;clear HB;go_wp2_with fail
 refine((Aa HO) (p+1) _ ha (by omega) hf).mono ?_;intro e w2 hpo;unfold CZ at hpo;rw[Aa HT,if_pos rfl]at hpo;obtain⟨d0,d1,d2,rfl,hk2,ha2,hr2⟩:=hpo;obtain⟨_,hpos,_⟩:=(Aa HA) (p+1) 0 1 0 [] (by omega) hf;obtain⟨q1,q2⟩:=hpos (Aa HT);have I:=Uv hk hk2 ha2 rfl q2 (by omega) hr2;have I0:=Ab I;clear I hpos hk hk2 ha ha2 hr2;go_wp2;go_loopw [3] (fun v wr=>∃(j k q:Nat) (ks:List Nat) (xs:List Value),QK b f p s w j k q ks v xs wr) (fun v _=>6-lenOf v)
 case atStart=>exact⟨_,_,_,_,_,Aa I0⟩
 case round=>
  obtain⟨j,k,q,ks,xs,I⟩:=hrel;clear I0;obtain⟨g,cap,hv,hBg,hgl⟩:=Ik I.owns I.some;subst hv;have HI:=Ab I;have hsum:=I.sum;have hsome:=I.some;have har:=I.reader;have hle:=I.le;have hfuel:=I.fuel;clear I;by_cases h6:k=6
  ·subst h6;obtain rfl:j=0:=by omega
   by_cases h41:nx s q=41
   ·have H41:=Ab h41;clear h41;go_wp2_with fail
    refine(Gj b q s _ 41 har hle hs (Aa H41)).mono ?_;rintro e w3 ⟨rfl,hk3,ha3⟩;go_wp2
    go_ret
    exact Lg hbw (Aa HI) (Aa H41) hk3 ha3
   ·have H41:=Ab h41;clear h41;go_wp2_with fail
    refine(KU b q s _ _ 41 har hle hs rfl (Aa H41)).mono ?_;rintro e w3 ⟨rfl,hk3⟩;go_wp2;exact⟨rfl,Rw (Aa HI) (Aa H41) hk3⟩
  ·obtain⟨j',rfl⟩:∃j',j=j'+1:=⟨j-1,by omega⟩;have hk6:(k:Int)<6:=by omega
   by_cases h41:nx s q=41
   ·have H41:=Ab h41;have HN:=ED b q s wr har hle hs;rw[h41]at HN;clear h41;go_wp2_with fail
    refine HN.mono ?_;rintro e w3 ⟨rfl,hk3,ha3⟩;clear HN;go_wp2_with fail
    refine(Gj b q s _ 41 ha3 hle hs (Aa H41)).mono ?_;rintro e w4 ⟨rfl,hk4,ha4⟩;go_wp2
    go_ret
    exact Lg hbw (Aa HI) (Aa H41) (hk3.trans hk4) ha4
   ·have H41:=Ab h41;have HN:=ED b q s wr har hle hs;obtain⟨c,hcc⟩:∃c,c=nx s q:=⟨_,rfl⟩;rw[<-hcc]at HN;have hne41:((c:Int) != 41)=true:=by simp;omega
    clear h41 hcc;go_wp2_with fail
    refine HN.mono ?_;rintro e w3 ⟨rfl,hk3,ha3⟩;clear HN;go_wp2_with fail
    refine((Aa HO) q _ ha3 hle hfuel).mono ?_;intro e w4 hpo;unfold CZ at hpo;cases hTq:(Pt.ty (nx s) f q).1 with
    |false=>
     rw[hTq,if_neg (by simp)]at hpo;obtain⟨rfl,hk4⟩:=hpo;have HTq:=Ab hTq;clear hTq;go_wp2;exact⟨rfl,Zg (Aa HI) (Aa H41) (Aa HTq) (hk3.trans hk4)⟩
    |true=>
     rw[hTq,if_pos rfl]at hpo;obtain⟨e0,e1,e2,rfl,hk4,ha4,hr4⟩:=hpo;have HTq:=Ab hTq;clear hTq;obtain⟨⟨x0,rfl⟩,⟨x1,rfl⟩,⟨ea,en,ec,rfl⟩⟩:=Bp hr4;have hk34:=hk3.trans hk4;have how:=Lw (Aa HI).owns hk34 hbw;have hsz:=(Aa HI).keeps.size;have hsz4:=hk34.size;have HR:=Ab hr4;have HA4:=Ab ha4;have HK34:=Ab hk34;have hb3:wr.heap.size<=w3.heap.size:=hk3.size;clear hr4 ha4 hk34 hk3 hk4 ha3 har;go_wp2_with (at_builtin;refine wpList_append_own_at _ rfl _ _ 151 rfl w.heap.size 153 i0 (.agg #[.int .u8 0,.int .i64 0,.slice none 0 0]) 3 40 Tryz.underlying151 hi hz0 hz1 hz2 rfl (by decide) _ k xs rfl (how.alloc _) ⟨w4.heap.size,0,none⟩ 1 1 [.int .u8 x0,.int .i64 x1,.slice ea en ec] rfl rfl ?c1 ?c2 ?c3 ?c4 ?c5 ?_)
     case c1=>
      intro i u hu;obtain⟨t0,t1,t2,_⟩:=(Fe.new w4 (.int .u8 x0) (.int .i64 x1) (.slice ea en ec)).facts;match i,hu with
      |0,hu=>simp at hu;subst hu;exact t0
      |1,hu=>simp at hu;subst hu;exact t1
      |2,hu=>simp at hu;subst hu;exact t2
     case c2=>
      intro u hu;simp at hu;rcases hu with rfl|rfl|rfl<;>rfl
     case c3=>unfold maxLen;omega
     case c4=>omega
     case c5=>simp;omega
     intro v' w5 hown' hgrow _ hat;have R:=Wz hbw (Aa HI) (Aa HK34) (Aa HA4) (Aa HTq) (Aa HA) (Aa H41) (Dv (fun k' hk' _=>by omega) (Aa HR)) hown' hgrow (by simpa using hat);have hl5:lenOf v'=k+1:=by
      obtain⟨g',cap',hv',_⟩:=Ik hown' (by omega);rw[hv'];rfl
     have R:=Ab R;have hl5:=Ab hl5;clear hown' hgrow hat how;go_wp2;go_roundw
     case rel=>exact⟨_,_,_,_,_,Aa R⟩
     case measure=>rw[Aa hl5];simp only[lenOf];omega
theorem UK(b f p:Nat)(s:ByteArray)(w:World)(h:At w b s p)(hp:p<=s.size)(hs:s.size<=40)(hf:p<s.size->s.size-(p+1)<f)(H:KA b s f)(hA:Pt.Agree (nx s) s.size f):
  Calls Tryz.prog 196 #[.pointer (some ⟨b,0,none⟩)] w fun e w'=>
   if nx s p=40 then (if (Pt.ty (nx s) f (p+1)).1 then Dz b s f p w e w' else e=BB (Pt.ty (nx s) f (p+1)).2/\Af b w w') else e=BB p/\Af b w w':=by
 by_cases hc:nx s p=40
 ·have hlt:p<s.size:=by
   rcases Nat.lt_or_ge p s.size with h'|h'
   ·exact h'
   ·rw[JS h']at hc;omega
  simp only[hc,if_true];cases hT:(Pt.ty (nx s) f (p+1)).1 with
  |false=>simpa using PZ b f p s w h hlt hs (hf hlt) hc H hT
  |true=>simpa using RZ b f p s w h hlt hs (hf hlt) hc H hA hT
 ·simp only[hc,if_false];exact RY b p s w h hp hs hc
theorem FF{s:ByteArray}{p c:Nat}(h:nx s p=c)(hc:c≠0):p<s.size:=by
 rcases Nat.lt_or_ge p s.size with h'|h'
 ·exact h'
 ·rw[JS h']at h;omega
theorem Zw(b:Nat)(s:ByteArray)(hs:s.size<=40):∀f,KA b s f:=by
 have hA:=fun f=>Pt.agree (g:=nx s) (n:=s.size) (fun p hp=>JS hp) f
 intro f;induction f with
 |zero=>intro p w _ _ hf;omega
 |succ f ih=>
  intro p w h hp hf;obtain⟨c,hc⟩:∃c,nx s p=c:=⟨_,rfl⟩;by_cases hl:c=98\/c=99\/c=105\/c=115
  ·have hlf:Pt.BZ c=true:=by simp[Pt.BZ];omega
   refine(Xu b p s w c h hp hs hc hl).mono ?_;rintro e w' ⟨rfl,hk,ha⟩;have e1:Pt.ty (nx s) (f+1) p=(true,p+1):=by simp[Pt.ty,hc,hlf]
   unfold CZ;rw[e1,if_pos rfl];refine⟨_,_,_,rfl,hk,ha,Qd ?_ (by rw[hc]) ?_⟩
   ·have n1:¬c=97:=by omega
    have n2:¬c=113:=by omega
    have n3:¬c=114:=by omega
    have n4:¬c=117:=by omega
    simp[Pt.kids,hc,n1,n2,n3,n4]
   ·unfold Bl;rw[if_neg (by rw[hc];omega)]
  have hlf:Pt.BZ c=false:=by simp[Pt.BZ];omega
  by_cases he:c=101
  ·subst he;have hlt:=FF hc (by omega);by_cases hd:48+1<=nx s (p+1)/\nx s (p+1)<=57
   ·refine(acf b p s w h hlt hs hc hd).mono ?_;rintro e w' ⟨rfl,hk,ha⟩;have e1:Pt.ty (nx s) (f+1) p=(true,p+2):=by simp[Pt.ty,hc,hlf,Pt.Gd];omega
    unfold CZ;rw[e1,if_pos rfl];refine⟨_,_,_,rfl,hk,ha,Qd (by simp[Pt.kids,hc]) (by rw[hc];rfl) ?_⟩;unfold Bl;rw[if_pos (by omega)]
   ·refine(Xr b p s w h hlt hs hc hd).mono ?_;rintro e w' ⟨rfl,hk⟩;have e1:Pt.ty (nx s) (f+1) p=(false,p+1):=by
     simp only[Pt.ty,hc,hlf,Pt.Gd];simp;omega
    unfold CZ;rw[e1,if_neg (by simp)];exact⟨rfl,hk⟩
  by_cases ha':c=97
  ·subst ha';have hlt:=FF hc (by omega);by_cases hd:48+1<=nx s (p+1)/\nx s (p+1)<=57
   ·have hlt2:=FF (s:=s) (p:=p+1) rfl (by omega);have hdg:Pt.Gd (nx s) 1 (p+1)=(true,p+2):=by unfold Pt.Gd;rw[if_pos hd]
    have e1:Pt.ty (nx s) (f+1) p=Pt.ty (nx s) f (p+2):=by simp[Pt.ty,hc,hlf,hdg]
    have hch:=fun w' (ha:At w' b s (p+2))=>ih (p+2) w' ha (by omega) (by omega)
    unfold CZ at hch ⊢;rw[e1];cases hT:(Pt.ty (nx s) f (p+2)).1 with
    |false=>
     simp only[hT,Bool.false_eq_true,if_false]at hch ⊢;exact Xo b p s w _ h hlt hs hc hd hch
    |true=>
     simp only[hT,if_true]at hch ⊢;exact Xq b p f s w _ h hlt hs hc hd hch
   ·refine(Xp b p s w h hlt hs hc hd).mono ?_;rintro e w' ⟨rfl,hk⟩;have hdg:Pt.Gd (nx s) 1 (p+1)=(false,p+1):=by unfold Pt.Gd;rw[if_neg hd]
    have e1:Pt.ty (nx s) (f+1) p=(false,p+1):=by simp[Pt.ty,hc,hlf,hdg]
    unfold CZ;rw[e1,if_neg (by simp)];exact⟨rfl,hk⟩
  by_cases hq':c=113
  ·subst hq';have hlt:=FF hc (by omega);by_cases hd:48+0<=nx s (p+1)/\nx s (p+1)<=57
   ·have hlt2:=FF (s:=s) (p:=p+1) rfl (by omega);have hdg:Pt.Gd (nx s) 0 (p+1)=(true,p+2):=by unfold Pt.Gd;rw[if_pos hd]
    have e1:Pt.ty (nx s) (f+1) p=Pt.ty (nx s) f (p+2):=by simp[Pt.ty,hc,hlf,hdg]
    have hch:=fun w' (ha:At w' b s (p+2))=>ih (p+2) w' ha (by omega) (by omega)
    unfold CZ at hch ⊢;rw[e1];cases hT:(Pt.ty (nx s) f (p+2)).1 with
    |false=>
     simp only[hT,Bool.false_eq_true,if_false]at hch ⊢;exact Xx b p s w _ h hlt hs hc hd hch
    |true=>
     simp only[hT,if_true]at hch ⊢;exact Xz b p f s w _ h hlt hs hc hd hch
   ·refine(Xy b p s w h hlt hs hc hd).mono ?_;rintro e w' ⟨rfl,hk⟩;have hdg:Pt.Gd (nx s) 0 (p+1)=(false,p+1):=by unfold Pt.Gd;rw[if_neg hd]
    have e1:Pt.ty (nx s) (f+1) p=(false,p+1):=by simp[Pt.ty,hc,hlf,hdg]
    unfold CZ;rw[e1,if_neg (by simp)];exact⟨rfl,hk⟩
  by_cases hr:c=114\/c=117
  ·have hlt:=FF hc (by omega);have e1:Pt.ty (nx s) (f+1) p=(if nx s (p+1)=40 then (if (Pt.ty (nx s) f (p+2)).1 then Pt.E4 (Pt.ty (nx s) f) (nx s) 5 (Pt.ty (nx s) f (p+2)).2 else (false,(Pt.ty (nx s) f (p+2)).2)) else (false,p+1)):=by
    simp[Pt.ty,hc,hlf,he,ha',hq',hr]
   have ek:Pt.kids (nx s) f p=(p+2) :: Pt.CP (Pt.ty (nx s) f) (nx s) 5 (Pt.ty (nx s) f (p+2)).2:=by simp[Pt.kids,hc,ha',hq',hr]
   have hch:=fun w' (ha:At w' b s (p+1))=>UK b f (p+1) s w' ha (by omega) hs (fun _=>by omega) ih (hA f)
   by_cases h40:nx s (p+1)=40
   ·cases hT:(Pt.ty (nx s) f (p+2)).1 with
    |false=>
     simp only[h40,if_true,show p+1+1=p+2 from rfl,hT,Bool.false_eq_true,if_false]at hch;unfold CZ;rw[e1];simp only[h40,if_true,hT,Bool.false_eq_true,if_false];rcases hr with rfl|rfl
     ·exact Ls b p s w _ h hlt hs hc hch
     ·exact Lt b p s w _ h hlt hs hc hch
    |true=>
     unfold Dz at hch;simp only[h40,if_true,show p+1+1=p+2 from rfl,hT]at hch;unfold CZ;rw[e1];simp only[h40,if_true,hT];cases hL:(Pt.E4 (Pt.ty (nx s) f) (nx s) 5 (Pt.ty (nx s) f (p+2)).2).1 with
     |false=>
      simp only[hL,Bool.false_eq_true,if_false]at hch ⊢;rcases hr with rfl|rfl
      ·exact Ls b p s w _ h hlt hs hc hch
      ·exact Lt b p s w _ h hlt hs hc hch
     |true=>
      simp only[hL,if_true,<-ek]at hch ⊢;rcases hr with rfl|rfl
      ·exact XA b p f s w _ h hlt hs hc hch
      ·exact XB b p f s w _ h hlt hs hc hch
   ·simp only[h40,if_false]at hch;unfold CZ;rw[e1];simp only[h40,if_false,Bool.false_eq_true];rcases hr with rfl|rfl
    ·exact Ls b p s w _ h hlt hs hc hch
    ·exact Lt b p s w _ h hlt hs hc hch
  ·refine(Zx b p s w c h hp hs hc (by omega)).mono ?_;rintro e w' ⟨rfl,hk⟩;have e1:Pt.ty (nx s) (f+1) p=(false,p):=by simp[Pt.ty,hc,hlf,he,ha',hq',hr]
   unfold CZ;rw[e1,if_neg (by simp)];exact⟨rfl,hk⟩
theorem Yk{l:List Nat}{m:Nat}(h:∀x∈l,x<=m):Pt.top l<=m:=by
 induction l with
 |nil=>simp[Pt.top]
 |cons x l ih=>
  have h1:=h x (by simp);have h2:=ih (fun y hy=>h y (by simp[hy]));simp only[Pt.top];omega
theorem Rc(g:Nat->Nat):∀f p,Pt.Eh g f p<=f:=by
 intro f;induction f with
 |zero=>intro p;simp[Pt.Eh]
 |succ f ih=>
  intro p;simp only[Pt.Eh];have:=Yk (l:=(Pt.kids g f p).map (Pt.Eh g f)) (m:=f) (by intro x hx;simp at hx;obtain⟨a,_,rfl⟩:=hx;exact ih a);omega
theorem Yl(l:List Nat)(x:Nat):Pt.top (l++[x])=max (Pt.top l) x:=by
 induction l with
 |nil=>simp[Pt.top]
 |cons y l ih=>simp only[List.cons_append,Pt.top,ih];omega
theorem Ym{ks:List Nat}{d:Nat->Nat}{k q:Nat}(h:ks[k]?=some q):Pt.top ((ks.take (k+1)).map d)=max (Pt.top ((ks.take k).map d)) (d q):=by
 rw[List.take_add_one,h];simp only[Option.toList_some,List.map_append,List.map_cons,List.map_nil];exact Yl _ _
theorem UD(T:Nat->Bool×Nat)(g:Nat->Nat):∀j p,(Pt.CP T g j p).length<=j:=by
 intro j;induction j with
 |zero=>intro p;simp[Pt.CP]
 |succ j ih=>
  intro p;unfold Pt.CP;split
  ·simp
  ·have:=ih (T p).2;simp;omega
theorem Hm(g:Nat->Nat)(f p:Nat):(Pt.kids g f p).length<=6:=by
 unfold Pt.kids;split
 ·simp
 ·split
  ·have:=UD (Pt.ty g f) g 5 (Pt.ty g f (p+2)).2;simp;omega
  ·simp
def JI(g:Nat->Nat)(f:Nat):Prop:=∀(p:Nat) (S:Nat->Prop) (c0 c1 c2:Value) (w:World),EN w S g f p c0 c1 c2->Calls Tryz.prog 130 #[.agg #[c0,c1,c2]] w fun e w'=>e=.returned (.int .i64 (Pt.Eh g f p))/\Below w.heap.size w w'
theorem Re(g:Nat->Nat)(f:Nat)(hf:f<=41)(ih:JI g f):JI g (f+1):=by
 intro p S c0 c1 c2 w h;obtain⟨rfl,rfl,xs,ho,hi⟩:=h;obtain⟨va,vn,vc,rfl,hvn⟩:∃a n c,c2=.slice a n c/\n=(Pt.kids g f p).length:=by
  rcases ho.1.2 with ⟨rfl,h0⟩|⟨gb,cap,cur,rfl,_⟩
  ·exact⟨_,_,_,rfl,h0.symm⟩
  ·exact⟨_,_,_,rfl,rfl⟩
 have HO:=(show Hid (Mj w S (.slice va vn vc) (Pt.kids g f p).length xs) from ho);have HI:=Ab hi;have HIH:=Ab ih;have HN:=Ab hvn;have hvl:vn<=6:=by rw[hvn];exact Hm g f p
 clear ho hi ih hvn;go_enter Tryz.func130,Tryz.ntmps130;go_wp2;go_loopw [3,9] (fun gr i wr=>∃k:Nat,k<=vn/\i=.int .i64 k/\gr=.int .i64 (Pt.top (((Pt.kids g f p).take k).map (Pt.Eh g f)))/\Below w.heap.size w wr) (fun _ i _=>vn-(intOf i).toNat)
 case atStart=>exact⟨0,Nat.zero_le _,rfl,rfl,(Below.refl _ _).alloc (Nat.le_refl _) _⟩
 case round=>
  obtain⟨k,hk,rfl,rfl,hb⟩:=hrel;obtain⟨tk,htk⟩:∃tk,tk=Pt.top (((Pt.kids g f p).take k).map (Pt.Eh g f)):=⟨_,rfl⟩;have htl:tk<=f:=by
   rw[htk];exact Yk (fun x hx=>by
    obtain⟨a,_,rfl⟩:=List.mem_map.1 hx;exact Rc g f a)
  rw[<-htk];have HTK:=Ab htk;clear htk;by_cases hlt:k<vn
  ·obtain⟨q,hq⟩:∃q,(Pt.kids g f p)[k]?=some q:=⟨_,List.getElem?_eq_getElem (by have:=Aa HN;omega)⟩;obtain⟨d0,d1,d2,a0,a1,a2,hr⟩:=(Aa HI) k q hq;obtain⟨gb,rfl,hgb⟩:∃gb,va=some ⟨gb,0,none⟩/\gb<w.heap.size:=by
    rcases(Aa HO).1.2 with ⟨hv,h0⟩|⟨gb,cap,cur,hv,_,hh,_⟩
    ·have:=Aa HN;omega
    ·cases hv;exact⟨gb,rfl,lt_of_block hh⟩
   have hcl:=(Aa HO).1.cells (g:=gb) rfl;have ad:∀o,(⟨gb,0,none⟩:Addr).add o=⟨gb,o,none⟩:=fun o=>by simp[Addr.add];omega
   have f0:wr.cell? ⟨gb,k*3,none⟩=some d0:=by
    rw[hb.cell (p:=⟨gb,k*3,none⟩) hgb,<-ad,Nat.mul_comm];exact hcl _ _ a0
   have f1:wr.cell? ⟨gb,k*3+1,none⟩=some d1:=by
    rw[hb.cell (p:=⟨gb,k*3+1,none⟩) hgb,<-ad,Nat.mul_comm];exact hcl _ _ a1
   have f2:wr.cell? ⟨gb,k*3+2,none⟩=some d2:=by
    rw[hb.cell (p:=⟨gb,k*3+2,none⟩) hgb,<-ad,Nat.mul_comm];exact hcl _ _ a2
   obtain⟨⟨x0,rfl⟩,⟨x1,rfl⟩,⟨ea,en,ec,rfl⟩⟩:=Bp hr;have hr':∀o,EN (wr.alloc o) S g f q (.int .u8 x0) (.int .i64 x1) (.slice ea en ec):=fun o=>Bo ((show Ce S w wr from ⟨hb.size,fun k' _ hl=>hb.block k' hl⟩).alloc o) hr
   have HR:=Ab hr';have HQ:=Ab hq;clear hq hr hr' a0 a1 a2 hcl ad;go_wp2_with fail
   refine((Aa HIH) q S _ _ _ _ (Aa HR _)).mono ?_;rintro e w2 ⟨rfl,hb2⟩;obtain⟨dq,hdq⟩:∃dq,dq=Pt.Eh g f q:=⟨_,rfl⟩;have hdl:dq<=f:=by rw[hdq];exact Rc g f q
   rw[<-hdq];have HDQ:=Ab hdq;have hb':Below w.heap.size w w2:=(hb.alloc hb.size _).trans (hb2.mono (by have:=hb.size;simp;omega));clear hdq hb2 hb f0 f1 f2;go_wp2;go_roundw
   case rel=>
    refine⟨k+1,by omega,by go_num,?_,hb'⟩;rw[Ym (Aa HQ),<-Aa HTK,<-Aa HDQ];by_cases hx:tk<dq
    ·rw[if_pos hx,show max tk dq=dq by omega]
    ·rw[if_neg hx,show max tk dq=tk by omega]
   case measure=>simp[intOf];omega
  ·go_wp2
   go_ret
   refine⟨?_,hb⟩;have e1:Pt.Eh g (f+1) p=tk+1:=by
    rw[Aa HTK,List.take_of_length_le (by have:=Aa HN;omega)];rfl
   rw[e1];rfl
theorem Uj(g:Nat->Nat):∀f,f<=42->JI g f:=by
 intro f;induction f with
 |zero=>intro _ p S c0 c1 c2 w h;exact h.elim
 |succ f ih=>intro hf;exact Re g f (by omega) (ih (by omega))
end Go.Proofs.YtblomippkddgiaaGreatDoor.V
namespace Go.Proofs.YtblomippkddgiaaGreatDoor.V.Pt
def chain(T:Nat->Bool×Nat)(g:Nat->Nat):Nat->List Nat->Nat->Prop
 |start,[],c=>start=c/\g c=41
 |start,k :: r,c=>start=k/\g k≠41/\(T k).1=true/\chain T g (T k).2 r c
theorem OL{T:Nat->Bool×Nat}{g:Nat->Nat}:∀(j p:Nat),(E4 T g j p).1=true->chain T g p (CP T g j p) ((E4 T g j p).2-1)/\1<=(E4 T g j p).2:=by
 intro j;induction j with
 |zero=>
  intro p h;by_cases hc:g p=41
  ·simp[E4,hc,CP,chain]
  ·simp[E4,hc]at h
 |succ j ih=>
  intro p h;by_cases hc:g p=41
  ·simp[E4,hc,CP,chain]
  ·cases hx:(T p).1 with
   |false=>simp[E4,hc,hx]at h
   |true=>
    have e:E4 T g (j+1) p=E4 T g j (T p).2:=by simp[E4,hc,hx]
    rw[e]at h ⊢;obtain⟨h1,h2⟩:=ih (T p).2 h;refine⟨?_,h2⟩;simp only[CP,hc,if_false];exact⟨rfl,hc,hx,h1⟩
end Go.Proofs.YtblomippkddgiaaGreatDoor.V.Pt
