import Derived.Test.YtblomippkddgiaaGreatDoorJ02
set_option maxRecDepth 100000
set_option maxHeartbeats 2000000
namespace Go.Proofs.YtblomippkddgiaaGreatDoor.V
open Go.RowKit
theorem Yl:(Tryz.prog.info? 153).map (fun i=>(i.zero,i.size,i.bytes))=some (some (.agg #[.int .u8 0,.int .i64 0,.slice none 0 0]),3,40):=by kernel_rfl
def Iw(b:Nat)(s:ByteArray)(f:Nat):Prop:=∀(p:Nat) (w:World),At w b s p->p<=s.size->s.size-p<f->Calls Tryz.prog 128 #[.pointer (some ⟨b,0,none⟩)] w (Co b s f p w)
def XX(w:World)(B:Nat)(s:ByteArray)(f:Nat)(ks:List Nat)(v:Value)(xs:List Value):Prop:=
 ∀(i q:Nat),ks[i]?=some q->∃d0 d1 d2,xs[3*i]?=some d0/\xs[3*i+1]?=some d1/\xs[3*i+2]?=some d2/\EU w (fun k=>B<=k/\v.ownBlock≠some k) (nx s) f q d0 d1 d2
structure Ng(b f p:Nat)(s:ByteArray)(w:World)(j k q:Nat)(ks:List Nat)(v:Value)(xs:List Value)(wr:World):Prop where
 sum:k+j=6
 some:1<=k
 len:ks.length=k
 le:q<=s.size
 fuel:s.size-q<f
 reader:At wr b s q
 keeps:Ae b w wr
 owns:wr.ownsRow w.heap.size 153 3 v k xs
 inside:XX wr w.heap.size s f ks v xs
 rest:Pt.DC (Pt.ty (nx s) f) (nx s) 5 (Pt.ty (nx s) f (p+1)).2=Pt.DC (Pt.ty (nx s) f) (nx s) j q
 kids:(p+1) :: Pt.Cc (Pt.ty (nx s) f) (nx s) 5 (Pt.ty (nx s) f (p+1)).2=ks++Pt.Cc (Pt.ty (nx s) f) (nx s) j q
def lenOf:Value->Nat|.slice _ n _=>n|_=>0
theorem Cg{w:World}{S:Nat->Prop}{g:Nat->Nat}{f p:Nat}{c0 c1 c2:Value}(h:EU w S g f p c0 c1 c2):(∃x,c0=.int .u8 x)/\(∃x,c1=.int .i64 x)/\(∃a n c,c2=.slice a n c):=by
 cases f with
 |zero=>exact h.elim
 |succ f=>
  obtain⟨h0,h1,xs,⟨⟨_,ho⟩,_⟩,_⟩:=h;refine⟨⟨_,h0⟩,⟨_,h1⟩,?_⟩;rcases ho with ⟨hv,_⟩|⟨g,cap,cur,hv,_⟩
  ·exact⟨_,_,_,hv⟩
  ·exact⟨_,_,_,hv⟩
theorem FU{w:World}{B n:Nat}{v:Value}{xs:List Value}(h:w.ownsRow B 153 3 v n xs)(hn:1<=n):∃g cap,v=.slice (some ⟨g,0,none⟩) n cap/\B<=g/\g<w.heap.size:=by
 obtain⟨_,h⟩:=h;rcases h with ⟨_,h0⟩|⟨g,cap,cur,hv,hg,hh,_⟩
 ·omega
 ·exact⟨g,cap,hv,hg,lt_of_block hh⟩
theorem Jl{w w':World}{b B n:Nat}{v:Value}{xs:List Value}(h:w.ownsRow B 153 3 v n xs)(hk:Ae b w w')(hb:b<B):w'.ownsRow B 153 3 v n xs:=by
 obtain⟨hl,h⟩:=h;refine⟨hl,?_⟩;rcases h with h|⟨g,cap,cur,hv,hg,hh,r⟩
 ·exact Or.inl h
 ·refine Or.inr ⟨g,cap,cur,hv,hg,?_,r⟩;rw[hk.block g (lt_of_block hh) (by omega)];exact hh
theorem Q6{b f p q0:Nat}{s:ByteArray}{w w1 w2:World}{d0 d1 d2:Value}(hk1:Ae b w w1)(hk2:Ae b w1 w2)(ha:At w2 b s q0)(hq:(Pt.ty (nx s) f (p+1)).2=q0)(hle:q0<=s.size)(hf:s.size-q0<f)
  (hr:EU w2 (fun k=>w1.heap.size<=k) (nx s) f (p+1) d0 d1 d2):
  Ng b f p s w 5 1 q0 [p+1] (.slice (some ⟨w2.heap.size,0,none⟩) 1 1) [d0,d1,d2] (w2.alloc (.cells #[d0,d1,d2] 153)):=by
 have hs1:=hk1.size;have hs2:=hk2.size;refine⟨rfl,Nat.le_refl _,rfl,hle,hf,ha.alloc _,(hk1.trans hk2).alloc _,?_,?_,by rw[hq],by rw[hq];rfl⟩
 ·obtain⟨⟨hl,ho⟩,hS⟩:=Jm (d0:=d0) (d1:=d1) (d2:=d2) w2 rfl;refine⟨hl,?_⟩;rcases ho with ⟨h1,_⟩|⟨g,cap,cur,hv,hg,r⟩
  ·cases h1
  ·cases hv;exact Or.inr ⟨_,_,cur,rfl,by omega,r⟩
 ·intro i q hq';match i,hq' with
  |0,hq'=>
   simp at hq';subst hq';refine⟨d0,d1,d2,rfl,rfl,rfl,Bj ((BQ.refl _ _).alloc _) (CO (fun k hk hlt=>⟨by omega,?_⟩) hr)⟩;simp only[Value.ownBlock,ne_eq,Option.some.injEq];omega
theorem Ud{b f p j k q:Nat}{s:ByteArray}{w wr w2 w3:World}{ks:List Nat}{v v' d0 d1 d2:Value}{xs:List Value}(hbw:b<w.heap.size)(I:Ng b f p s w (j+1) k q ks v xs wr)(hk:Ae b wr w2)
  (ha:At w2 b s (Pt.ty (nx s) f q).2) (hT:(Pt.ty (nx s) f q).1=true) (hb:Pt.Agree (nx s) s.size f) (hc:¬nx s q=41) (hr:EU w2 (fun k=>wr.heap.size<=k) (nx s) f q d0 d1 d2)
  (hown:w3.ownsRow w.heap.size 153 3 v' (k+1) (xs++[d0,d1,d2])) (hg:(w2.alloc (.cells #[d0,d1,d2] 153)).grownBy w3 v.ownBlock) (hat:v'.ownBlock=v.ownBlock\/v'.ownBlock=some (w2.alloc (.cells #[d0,d1,d2] 153)).heap.size):
  Ng b f p s w j (k+1) (Pt.ty (nx s) f q).2 (ks++[q]) v' (xs++[d0,d1,d2]) w3:=by
 obtain⟨hsum,hsome,hlen,hle,hfuel,hrd,hkp,how,hin,hrest,hkids⟩:=I;obtain⟨g,cap,hv,hBg,hgl⟩:=FU how hsome;have hvb:v.ownBlock=some g:=by rw[hv];rfl
 obtain⟨_,hpos,_⟩:=hb q 0 1 0 [] hle hfuel;obtain⟨q1,q2⟩:=hpos hT;have hs1:=hkp.size;have hs2:=hk.size;have hxl:xs.length=3*k:=by have:=how.1;omega
 have hgs:(w2.alloc (.cells #[d0,d1,d2] 153)).heap.size=w2.heap.size+1:=by simp
 have hsz3:w2.heap.size+1<=w3.heap.size:=by have:=hg.size;omega
 have keep3:∀k',k'<w2.heap.size->¬k'=g->w3.heap[k']?=w2.heap[k']?:=by
  intro k' hl hn;rw[hg.block k' (by omega) (by rw[hvb];intro e;cases e;exact hn rfl)];exact Below.heap_alloc _ _ _ hl
 refine⟨by omega,by omega,by simp[hlen],q2,by omega,?_,?_,hown,?_,?_,?_⟩
 ·unfold At at ha ⊢;rw[keep3 b (lt_of_block ha) (by omega)];exact ha
 ·refine⟨?_,?_,?_,by omega,?_⟩
  ·exact hg.os.trans (hk.os.trans hkp.os)
  ·exact hg.tape.trans (hk.tape.trans hkp.tape)
  ·exact hg.output.trans (hk.output.trans hkp.output)
  ·intro k' hl hn;rw[keep3 k' (by omega) (by omega),hk.block k' (by omega) hn,hkp.block k' hl hn]
 ·have ab:∀(S:Nat->Prop),¬S g->BQ S w2 w3:=fun S hS=>⟨by omega,fun k' hk' hl=>keep3 k' hl (fun e=>hS (e ▸ hk'))⟩
  have fresh:∀k',k'<w2.heap.size->¬k'=g->v'.ownBlock≠some k':=by
   intro k' hl hn e;rcases hat with h|h
   ·rw[h,hvb]at e;cases e;exact hn rfl
   ·rw[h,hgs]at e;cases e;omega
  intro i q' hq';by_cases hi:i<ks.length
  ·rw[List.getElem?_append_left hi]at hq';obtain⟨e0,e1,e2,a0,a1,a2,hre⟩:=hin i q' hq';refine⟨e0,e1,e2,?_,?_,?_,?_⟩
   ·rw[List.getElem?_append_left (by omega)];exact a0
   ·rw[List.getElem?_append_left (by omega)];exact a1
   ·rw[List.getElem?_append_left (by omega)];exact a2
   ·have h1:=Bj (hk.above (S:=fun k=>w.heap.size<=k/\v.ownBlock≠some k) (by omega)) hre;have h2:=CO (S':=fun k=>w.heap.size<=k/\v.ownBlock≠some k/\v'.ownBlock≠some k) (fun k' hk' hl=>⟨hk'.1,hk'.2,fresh k' hl (fun e=>hk'.2 (by rw[e];exact hvb))⟩) h1;exact CO (fun k' hk' _=>⟨hk'.1,hk'.2.2⟩) (Bj (ab _ (fun h=>h.2.1 hvb)) h2)
  ·have hi':i=ks.length:=by
    rcases Nat.lt_or_ge i (ks.length+1) with h|h
    ·omega
    ·rw[List.getElem?_eq_none (by simpa using h)]at hq';cases hq'
   subst hi';rw[List.getElem?_append_right (Nat.le_refl _)]at hq';simp at hq';subst hq';refine⟨d0,d1,d2,?_,?_,?_,?_⟩
   ·rw[List.getElem?_append_right (by omega),show 3*ks.length-xs.length=0 by omega];rfl
   ·rw[List.getElem?_append_right (by omega),show 3*ks.length+1-xs.length=1 by omega];rfl
   ·rw[List.getElem?_append_right (by omega),show 3*ks.length+2-xs.length=2 by omega];rfl
   ·have h2:=CO (S':=fun k=>w.heap.size<=k/\¬k=g/\v'.ownBlock≠some k) (fun k' hk' hl=>⟨by omega,by omega,fresh k' hl (by omega)⟩) hr;exact CO (fun k' hk' _=>⟨hk'.1,hk'.2.2⟩) (Bj (ab _ (fun h=>h.2.1 rfl)) h2)
 ·rw[hrest];simp[Pt.DC,hc,hT]
 ·rw[hkids];simp[Pt.Cc,hc]
def CR(b:Nat)(s:ByteArray)(f p:Nat)(w:World)(e:Ending)(w':World):Prop:=
 if (Pt.DC (Pt.ty (nx s) f) (nx s) 5 (Pt.ty (nx s) f (p+1)).2).1 then ∃v,e=.returned v/\Ae b w w'/\At w' b s (Pt.DC (Pt.ty (nx s) f) (nx s) 5 (Pt.ty (nx s) f (p+1)).2).2/\Kids w' (fun k=>w.heap.size<=k) (nx s) f ((p+1) :: Pt.Cc (Pt.ty (nx s) f) (nx s) 5 (Pt.ty (nx s) f (p+1)).2) v
 else e=Bp (Pt.DC (Pt.ty (nx s) f) (nx s) 5 (Pt.ty (nx s) f (p+1)).2).2/\Ae b w w'
theorem I9{b f p j k q:Nat}{s:ByteArray}{w wr w':World}{ks:List Nat}{v:Value}{xs:List Value}(hbw:b<w.heap.size)(I:Ng b f p s w j k q ks v xs wr)(hq:nx s q=41)(hk:Ae b wr w')(ha:At w' b s (q+1)):
  CR b s f p w (.returned v) w':=by
 have e1:Pt.DC (Pt.ty (nx s) f) (nx s) j q=(true,q+1):=by cases j<;>simp[Pt.DC,hq]
 have e2:Pt.Cc (Pt.ty (nx s) f) (nx s) j q=[]:=by cases j<;>simp[Pt.Cc,hq]
 unfold CR;rw[I.rest,e1,I.kids,e2,List.append_nil,if_pos rfl];refine⟨v,rfl,I.keeps.trans hk,ha,xs,⟨?_,?_⟩,?_⟩
 ·obtain⟨hl,h⟩:=Jl I.owns hk hbw;rw[I.len];refine⟨hl,?_⟩;rcases h with h|⟨g,cap,cur,hv,hg,r⟩
  ·exact Or.inl h
  ·exact Or.inr ⟨g,cap,cur,hv,Nat.zero_le _,r⟩
 ·intro k' hk';obtain⟨g,cap,hv,hBg,hgl⟩:=FU I.owns I.some;rw[hv]at hk';cases hk';exact hBg
 ·intro i q' hq';obtain⟨d0,d1,d2,a0,a1,a2,hr⟩:=I.inside i q' hq';refine⟨d0,d1,d2,a0,a1,a2,CO (fun k' hk' _=>hk'.1) (Bj (hk.above ?_) hr)⟩;intro h;have:=h.1;omega
theorem N9{b f p k q:Nat}{s:ByteArray}{w wr w':World}{ks:List Nat}{v:Value}{xs:List Value}(I:Ng b f p s w 0 k q ks v xs wr)(hq:¬nx s q=41)(hk:Ae b wr w'):
  CR b s f p w (Bp q) w':=by
 have e1:Pt.DC (Pt.ty (nx s) f) (nx s) 0 q=(false,q):=by simp[Pt.DC,hq]
 unfold CR;rw[I.rest,e1,if_neg (by simp)];exact⟨rfl,I.keeps.trans hk⟩
theorem WJ{b f p j k q:Nat}{s:ByteArray}{w wr w':World}{ks:List Nat}{v:Value}{xs:List Value}(I:Ng b f p s w (j+1) k q ks v xs wr)(hq:¬nx s q=41)(hT:(Pt.ty (nx s) f q).1=false)(hk:Ae b wr w'):
  CR b s f p w (Bp (Pt.ty (nx s) f q).2) w':=by
 have e1:Pt.DC (Pt.ty (nx s) f) (nx s) (j+1) q=(false,(Pt.ty (nx s) f q).2):=by simp[Pt.DC,hq,hT]
 unfold CR;rw[I.rest,e1,if_neg (by simp)];exact⟨rfl,I.keeps.trans hk⟩
theorem Om(b p:Nat)(s:ByteArray)(w:World)(h:At w b s p)(hp:p<=s.size)(hs:s.size<=40)(hc:¬nx s p=40):
  Calls Tryz.prog 196 #[.pointer (some ⟨b,0,none⟩)] w fun e w'=>e=Bp p/\Ae b w w':=by
 have HB:=IQ b p s w (nx s p) 40 h hp hs rfl hc;clear hc h;go_enter Tryz.func196,Tryz.ntmps196;go_wp2_with fail
 refine HB.mono ?_;rintro e w1 ⟨rfl,hk⟩;go_wp2;exact⟨rfl,rfl,hk⟩
theorem Mt(b f p:Nat)(s:ByteArray)(w:World)(h:At w b s p)(hp:p<s.size)(hs:s.size<=40)(hf:s.size-(p+1)<f)(hc:nx s p=40)(H:Iw b s f)(hT:(Pt.ty (nx s) f (p+1)).1=false):
  Calls Tryz.prog 196 #[.pointer (some ⟨b,0,none⟩)] w fun e w'=>e=Bp (Pt.ty (nx s) f (p+1)).2/\Ae b w w':=by
 have HB:=E9 b p s w 40 h (by omega) hs hc;have HO:∀w,At w b s (p+1)->Calls Tryz.prog 128 #[.pointer (some ⟨b,0,none⟩)] w fun e w'=>e=Bp (Pt.ty (nx s) f (p+1)).2/\Ae b w w':=by
  intro w1 ha;refine(H (p+1) w1 ha (by omega) hf).mono ?_;intro e w' hp';unfold Co at hp';rw[hT,if_neg (by simp)]at hp';exact hp'
 have HO:=Ab HO;clear hc h H hT;go_enter Tryz.func196,Tryz.ntmps196;go_wp2_with fail
 refine HB.mono ?_;rintro e w1 ⟨rfl,hk,ha⟩;clear HB;go_wp2_with fail
 refine((Aa HO) _ ha).mono ?_;rintro e w2 ⟨rfl,hk2⟩;go_wp2;exact⟨rfl,rfl,hk.trans hk2⟩
theorem On(b f p:Nat)(s:ByteArray)(w:World)(h:At w b s p)(hp:p<s.size)(hs:s.size<=40)(hf:s.size-(p+1)<f)(hc:nx s p=40)(H:Iw b s f)(hA:Pt.Agree (nx s) s.size f)(hT:(Pt.ty (nx s) f (p+1)).1=true):
  Calls Tryz.prog 196 #[.pointer (some ⟨b,0,none⟩)] w (CR b s f p w):=by
 have hbw:=h.lt;have HB:=E9 b p s w 40 h (by omega) hs hc;have HA:=Ab hA;have HT:=Ab hT;have HO:=Ab H;clear hc h H hT hA;obtain⟨i0,hi,hz0,hz1,hz2⟩:=info_parts Yl;go_enter Tryz.func196,Tryz.ntmps196;go_wp2_with fail
 refine HB.mono ?_;rintro e w1 ⟨rfl,hk,ha⟩;clear HB;go_wp2_with fail
 refine((Aa HO) (p+1) _ ha (by omega) hf).mono ?_;intro e w2 hpo;unfold Co at hpo;rw[Aa HT,if_pos rfl]at hpo;obtain⟨d0,d1,d2,rfl,hk2,ha2,hr2⟩:=hpo;obtain⟨_,hpos,_⟩:=(Aa HA) (p+1) 0 1 0 [] (by omega) hf;obtain⟨q1,q2⟩:=hpos (Aa HT);have I:=Q6 hk hk2 ha2 rfl q2 (by omega) hr2;have I0:=Ab I;clear I hpos hk hk2 ha ha2 hr2;go_wp2;go_loopw [3] (fun v wr=>∃(j k q:Nat) (ks:List Nat) (xs:List Value),Ng b f p s w j k q ks v xs wr) (fun v _=>6-lenOf v)
 case atStart=>exact⟨_,_,_,_,_,Aa I0⟩
 case round=>
  obtain⟨j,k,q,ks,xs,I⟩:=hrel;clear I0;obtain⟨g,cap,hv,hBg,hgl⟩:=FU I.owns I.some;subst hv;have HI:=Ab I;have hsum:=I.sum;have hsome:=I.some;have har:=I.reader;have hle:=I.le;have hfuel:=I.fuel;clear I;by_cases h6:k=6
  ·subst h6;obtain rfl:j=0:=by omega
   by_cases h41:nx s q=41
   ·have H41:=Ab h41;clear h41;go_wp2_with fail
    refine(E9 b q s _ 41 har hle hs (Aa H41)).mono ?_;rintro e w3 ⟨rfl,hk3,ha3⟩;go_wp2
    go_ret
    exact I9 hbw (Aa HI) (Aa H41) hk3 ha3
   ·have H41:=Ab h41;clear h41;go_wp2_with fail
    refine(IQ b q s _ _ 41 har hle hs rfl (Aa H41)).mono ?_;rintro e w3 ⟨rfl,hk3⟩;go_wp2;exact⟨rfl,N9 (Aa HI) (Aa H41) hk3⟩
  ·obtain⟨j',rfl⟩:∃j',j=j'+1:=⟨j-1,by omega⟩;have hk6:(k:Int)<6:=by omega
   by_cases h41:nx s q=41
   ·have H41:=Ab h41;have HN:=D6 b q s wr har hle hs;rw[h41]at HN;clear h41;go_wp2_with fail
    refine HN.mono ?_;rintro e w3 ⟨rfl,hk3,ha3⟩;clear HN;go_wp2_with fail
    refine(E9 b q s _ 41 ha3 hle hs (Aa H41)).mono ?_;rintro e w4 ⟨rfl,hk4,ha4⟩;go_wp2
    go_ret
    exact I9 hbw (Aa HI) (Aa H41) (hk3.trans hk4) ha4
   ·have H41:=Ab h41;have HN:=D6 b q s wr har hle hs;obtain⟨c,hcc⟩:∃c,c=nx s q:=⟨_,rfl⟩;rw[<-hcc]at HN;have hne41:((c:Int) != 41)=true:=by simp;omega
    clear h41 hcc;go_wp2_with fail
    refine HN.mono ?_;rintro e w3 ⟨rfl,hk3,ha3⟩;clear HN;go_wp2_with fail
    refine((Aa HO) q _ ha3 hle hfuel).mono ?_;intro e w4 hpo;unfold Co at hpo;cases hTq:(Pt.ty (nx s) f q).1 with
    |false=>
     rw[hTq,if_neg (by simp)]at hpo;obtain⟨rfl,hk4⟩:=hpo;have HTq:=Ab hTq;clear hTq;go_wp2;exact⟨rfl,WJ (Aa HI) (Aa H41) (Aa HTq) (hk3.trans hk4)⟩
    |true=>
     rw[hTq,if_pos rfl]at hpo;obtain⟨e0,e1,e2,rfl,hk4,ha4,hr4⟩:=hpo;have HTq:=Ab hTq;clear hTq;obtain⟨⟨x0,rfl⟩,⟨x1,rfl⟩,⟨ea,en,ec,rfl⟩⟩:=Cg hr4;have hk34:=hk3.trans hk4;have how:=Jl (Aa HI).owns hk34 hbw;have hsz:=(Aa HI).keeps.size;have hsz4:=hk34.size;have HR:=Ab hr4;have HA4:=Ab ha4;have HK34:=Ab hk34;have hb3:wr.heap.size<=w3.heap.size:=hk3.size;clear hr4 ha4 hk34 hk3 hk4 ha3 har;go_wp2_with (at_builtin;refine wpList_append_own_at _ rfl _ _ 151 rfl w.heap.size 153 i0 (.agg #[.int .u8 0,.int .i64 0,.slice none 0 0]) 3 40 Tryz.underlying151 hi hz0 hz1 hz2 rfl (by decide) _ k xs rfl (how.alloc _) ⟨w4.heap.size,0,none⟩ 1 1 [.int .u8 x0,.int .i64 x1,.slice ea en ec] rfl rfl ?c1 ?c2 ?c3 ?c4 ?c5 ?_)
     case c1=>
      intro i u hu;obtain⟨t0,t1,t2,_⟩:=(EB.new w4 (.int .u8 x0) (.int .i64 x1) (.slice ea en ec)).facts;match i,hu with
      |0,hu=>simp at hu;subst hu;exact t0
      |1,hu=>simp at hu;subst hu;exact t1
      |2,hu=>simp at hu;subst hu;exact t2
     case c2=>
      intro u hu;simp at hu;rcases hu with rfl|rfl|rfl<;>rfl
     case c3=>unfold maxLen;omega
     case c4=>omega
     case c5=>simp;omega
     intro v' w5 hown' hgrow _ hat;have R:=Ud hbw (Aa HI) (Aa HK34) (Aa HA4) (Aa HTq) (Aa HA) (Aa H41) (CO (fun k' hk' _=>by omega) (Aa HR)) hown' hgrow (by simpa using hat);have hl5:lenOf v'=k+1:=by
      obtain⟨g',cap',hv',_⟩:=FU hown' (by omega);rw[hv'];rfl
     have R:=Ab R;have hl5:=Ab hl5;clear hown' hgrow hat how;go_wp2;go_roundw
     case rel=>exact⟨_,_,_,_,_,Aa R⟩
     case measure=>rw[Aa hl5];simp only[lenOf];omega
theorem Ro(b f p:Nat)(s:ByteArray)(w:World)(h:At w b s p)(hp:p<=s.size)(hs:s.size<=40)(hf:p<s.size->s.size-(p+1)<f)(H:Iw b s f)(hA:Pt.Agree (nx s) s.size f):
  Calls Tryz.prog 196 #[.pointer (some ⟨b,0,none⟩)] w fun e w'=>
   if nx s p=40 then (if (Pt.ty (nx s) f (p+1)).1 then CR b s f p w e w' else e=Bp (Pt.ty (nx s) f (p+1)).2/\Ae b w w') else e=Bp p/\Ae b w w':=by
 by_cases hc:nx s p=40
 ·have hlt:p<s.size:=by
   rcases Nat.lt_or_ge p s.size with h'|h'
   ·exact h'
   ·rw[Gm h']at hc;omega
  simp only[hc,if_true];cases hT:(Pt.ty (nx s) f (p+1)).1 with
  |false=>simpa using Mt b f p s w h hlt hs (hf hlt) hc H hT
  |true=>simpa using On b f p s w h hlt hs (hf hlt) hc H hA hT
 ·simp only[hc,if_false];exact Om b p s w h hp hs hc
theorem Ev{s:ByteArray}{p c:Nat}(h:nx s p=c)(hc:c≠0):p<s.size:=by
 rcases Nat.lt_or_ge p s.size with h'|h'
 ·exact h'
 ·rw[Gm h']at h;omega
theorem WZ(b:Nat)(s:ByteArray)(hs:s.size<=40):∀f,Iw b s f:=by
 have hA:=fun f=>Pt.agree (g:=nx s) (n:=s.size) (fun p hp=>Gm hp) f
 intro f;induction f with
 |zero=>intro p w _ _ hf;omega
 |succ f ih=>
  intro p w h hp hf;obtain⟨c,hc⟩:∃c,nx s p=c:=⟨_,rfl⟩;by_cases hl:c=98\/c=99\/c=105\/c=115
  ·have hlf:Pt.AL c=true:=by simp[Pt.AL];omega
   refine(UJ b p s w c h hp hs hc hl).mono ?_;rintro e w' ⟨rfl,hk,ha⟩;have e1:Pt.ty (nx s) (f+1) p=(true,p+1):=by simp[Pt.ty,hc,hlf]
   unfold Co;rw[e1,if_pos rfl];refine⟨_,_,_,rfl,hk,ha,ME ?_ (by rw[hc]) ?_⟩
   ·have n1:¬c=97:=by omega
    have n2:¬c=113:=by omega
    have n3:¬c=114:=by omega
    have n4:¬c=117:=by omega
    simp[Pt.kids,hc,n1,n2,n3,n4]
   ·unfold A7;rw[if_neg (by rw[hc];omega)]
  have hlf:Pt.AL c=false:=by simp[Pt.AL];omega
  by_cases he:c=101
  ·subst he;have hlt:=Ev hc (by omega);by_cases hd:48+1<=nx s (p+1)/\nx s (p+1)<=57
   ·refine(ZI b p s w h hlt hs hc hd).mono ?_;rintro e w' ⟨rfl,hk,ha⟩;have e1:Pt.ty (nx s) (f+1) p=(true,p+2):=by simp[Pt.ty,hc,hlf,Pt.Ee];omega
    unfold Co;rw[e1,if_pos rfl];refine⟨_,_,_,rfl,hk,ha,ME (by simp[Pt.kids,hc]) (by rw[hc];rfl) ?_⟩;unfold A7;rw[if_pos (by omega)]
   ·refine(UI b p s w h hlt hs hc hd).mono ?_;rintro e w' ⟨rfl,hk⟩;have e1:Pt.ty (nx s) (f+1) p=(false,p+1):=by
     simp only[Pt.ty,hc,hlf,Pt.Ee];simp;omega
    unfold Co;rw[e1,if_neg (by simp)];exact⟨rfl,hk⟩
  by_cases ha':c=97
  ·subst ha';have hlt:=Ev hc (by omega);by_cases hd:48+1<=nx s (p+1)/\nx s (p+1)<=57
   ·have hlt2:=Ev (s:=s) (p:=p+1) rfl (by omega);have hdg:Pt.Ee (nx s) 1 (p+1)=(true,p+2):=by unfold Pt.Ee;rw[if_pos hd]
    have e1:Pt.ty (nx s) (f+1) p=Pt.ty (nx s) f (p+2):=by simp[Pt.ty,hc,hlf,hdg]
    have hch:=fun w' (ha:At w' b s (p+2))=>ih (p+2) w' ha (by omega) (by omega)
    unfold Co at hch ⊢;rw[e1];cases hT:(Pt.ty (nx s) f (p+2)).1 with
    |false=>
     simp only[hT,Bool.false_eq_true,if_false]at hch ⊢;exact UF b p s w _ h hlt hs hc hd hch
    |true=>
     simp only[hT,if_true]at hch ⊢;exact UH b p f s w _ h hlt hs hc hd hch
   ·refine(UG b p s w h hlt hs hc hd).mono ?_;rintro e w' ⟨rfl,hk⟩;have hdg:Pt.Ee (nx s) 1 (p+1)=(false,p+1):=by unfold Pt.Ee;rw[if_neg hd]
    have e1:Pt.ty (nx s) (f+1) p=(false,p+1):=by simp[Pt.ty,hc,hlf,hdg]
    unfold Co;rw[e1,if_neg (by simp)];exact⟨rfl,hk⟩
  by_cases hq':c=113
  ·subst hq';have hlt:=Ev hc (by omega);by_cases hd:48+0<=nx s (p+1)/\nx s (p+1)<=57
   ·have hlt2:=Ev (s:=s) (p:=p+1) rfl (by omega);have hdg:Pt.Ee (nx s) 0 (p+1)=(true,p+2):=by unfold Pt.Ee;rw[if_pos hd]
    have e1:Pt.ty (nx s) (f+1) p=Pt.ty (nx s) f (p+2):=by simp[Pt.ty,hc,hlf,hdg]
    have hch:=fun w' (ha:At w' b s (p+2))=>ih (p+2) w' ha (by omega) (by omega)
    unfold Co at hch ⊢;rw[e1];cases hT:(Pt.ty (nx s) f (p+2)).1 with
    |false=>
     simp only[hT,Bool.false_eq_true,if_false]at hch ⊢;exact UL b p s w _ h hlt hs hc hd hch
    |true=>
     simp only[hT,if_true]at hch ⊢;exact UN b p f s w _ h hlt hs hc hd hch
   ·refine(UM b p s w h hlt hs hc hd).mono ?_;rintro e w' ⟨rfl,hk⟩;have hdg:Pt.Ee (nx s) 0 (p+1)=(false,p+1):=by unfold Pt.Ee;rw[if_neg hd]
    have e1:Pt.ty (nx s) (f+1) p=(false,p+1):=by simp[Pt.ty,hc,hlf,hdg]
    unfold Co;rw[e1,if_neg (by simp)];exact⟨rfl,hk⟩
  by_cases hr:c=114\/c=117
  ·have hlt:=Ev hc (by omega);have e1:Pt.ty (nx s) (f+1) p=(if nx s (p+1)=40 then (if (Pt.ty (nx s) f (p+2)).1 then Pt.DC (Pt.ty (nx s) f) (nx s) 5 (Pt.ty (nx s) f (p+2)).2 else (false,(Pt.ty (nx s) f (p+2)).2)) else (false,p+1)):=by
    simp[Pt.ty,hc,hlf,he,ha',hq',hr]
   have ek:Pt.kids (nx s) f p=(p+2) :: Pt.Cc (Pt.ty (nx s) f) (nx s) 5 (Pt.ty (nx s) f (p+2)).2:=by simp[Pt.kids,hc,ha',hq',hr]
   have hch:=fun w' (ha:At w' b s (p+1))=>Ro b f (p+1) s w' ha (by omega) hs (fun _=>by omega) ih (hA f)
   by_cases h40:nx s (p+1)=40
   ·cases hT:(Pt.ty (nx s) f (p+2)).1 with
    |false=>
     simp only[h40,if_true,show p+1+1=p+2 from rfl,hT,Bool.false_eq_true,if_false]at hch;unfold Co;rw[e1];simp only[h40,if_true,hT,Bool.false_eq_true,if_false];rcases hr with rfl|rfl
     ·exact Jj b p s w _ h hlt hs hc hch
     ·exact Jk b p s w _ h hlt hs hc hch
    |true=>
     unfold CR at hch;simp only[h40,if_true,show p+1+1=p+2 from rfl,hT]at hch;unfold Co;rw[e1];simp only[h40,if_true,hT];cases hL:(Pt.DC (Pt.ty (nx s) f) (nx s) 5 (Pt.ty (nx s) f (p+2)).2).1 with
     |false=>
      simp only[hL,Bool.false_eq_true,if_false]at hch ⊢;rcases hr with rfl|rfl
      ·exact Jj b p s w _ h hlt hs hc hch
      ·exact Jk b p s w _ h hlt hs hc hch
     |true=>
      simp only[hL,if_true,<-ek]at hch ⊢;rcases hr with rfl|rfl
      ·exact UO b p f s w _ h hlt hs hc hch
      ·exact UR b p f s w _ h hlt hs hc hch
   ·simp only[h40,if_false]at hch;unfold Co;rw[e1];simp only[h40,if_false,Bool.false_eq_true];rcases hr with rfl|rfl
    ·exact Jj b p s w _ h hlt hs hc hch
    ·exact Jk b p s w _ h hlt hs hc hch
  ·refine(W7 b p s w c h hp hs hc (by omega)).mono ?_;rintro e w' ⟨rfl,hk⟩;have e1:Pt.ty (nx s) (f+1) p=(false,p):=by simp[Pt.ty,hc,hlf,he,ha',hq',hr]
   unfold Co;rw[e1,if_neg (by simp)];exact⟨rfl,hk⟩
theorem Vs{l:List Nat}{m:Nat}(h:∀x∈l,x<=m):Pt.top l<=m:=by
 induction l with
 |nil=>simp[Pt.top]
 |cons x l ih=>
  have h1:=h x (by simp);have h2:=ih (fun y hy=>h y (by simp[hy]));simp only[Pt.top];omega
theorem NN(g:Nat->Nat):∀f p,Pt.DK g f p<=f:=by
 intro f;induction f with
 |zero=>intro p;simp[Pt.DK]
 |succ f ih=>
  intro p;simp only[Pt.DK];have:=Vs (l:=(Pt.kids g f p).map (Pt.DK g f)) (m:=f) (by intro x hx;simp at hx;obtain⟨a,_,rfl⟩:=hx;exact ih a);omega
theorem Vt(l:List Nat)(x:Nat):Pt.top (l++[x])=max (Pt.top l) x:=by
 induction l with
 |nil=>simp[Pt.top]
 |cons y l ih=>simp only[List.cons_append,Pt.top,ih];omega
theorem Vu{ks:List Nat}{d:Nat->Nat}{k q:Nat}(h:ks[k]?=some q):Pt.top ((ks.take (k+1)).map d)=max (Pt.top ((ks.take k).map d)) (d q):=by
 rw[List.take_add_one,h];simp only[Option.toList_some,List.map_append,List.map_cons,List.map_nil];exact Vt _ _
theorem Rf(T:Nat->Bool×Nat)(g:Nat->Nat):∀j p,(Pt.Cc T g j p).length<=j:=by
 intro j;induction j with
 |zero=>intro p;simp[Pt.Cc]
 |succ j ih=>
  intro p;unfold Pt.Cc;split
  ·simp
  ·have:=ih (T p).2;simp;omega
theorem CK(g:Nat->Nat)(f p:Nat):(Pt.kids g f p).length<=6:=by
 unfold Pt.kids;split
 ·simp
 ·split
  ·have:=Rf (Pt.ty g f) g 5 (Pt.ty g f (p+2)).2;simp;omega
  ·simp
def GZ(g:Nat->Nat)(f:Nat):Prop:=∀(p:Nat) (S:Nat->Prop) (c0 c1 c2:Value) (w:World),EU w S g f p c0 c1 c2->Calls Tryz.prog 130 #[.agg #[c0,c1,c2]] w fun e w'=>e=.returned (.int .i64 (Pt.DK g f p))/\Below w.heap.size w w'
theorem NP(g:Nat->Nat)(f:Nat)(hf:f<=41)(ih:GZ g f):GZ g (f+1):=by
 intro p S c0 c1 c2 w h;obtain⟨rfl,rfl,xs,ho,hi⟩:=h;obtain⟨va,vn,vc,rfl,hvn⟩:∃a n c,c2=.slice a n c/\n=(Pt.kids g f p).length:=by
  rcases ho.1.2 with ⟨rfl,h0⟩|⟨gb,cap,cur,rfl,_⟩
  ·exact⟨_,_,_,rfl,h0.symm⟩
  ·exact⟨_,_,_,rfl,rfl⟩
 have HO:=(show Hid (JN w S (.slice va vn vc) (Pt.kids g f p).length xs) from ho);have HI:=Ab hi;have HIH:=Ab ih;have HN:=Ab hvn;have hvl:vn<=6:=by rw[hvn];exact CK g f p
 clear ho hi ih hvn;go_enter Tryz.func130,Tryz.ntmps130;go_wp2;go_loopw [3,9] (fun gr i wr=>∃k:Nat,k<=vn/\i=.int .i64 k/\gr=.int .i64 (Pt.top (((Pt.kids g f p).take k).map (Pt.DK g f)))/\Below w.heap.size w wr) (fun _ i _=>vn-(intOf i).toNat)
 case atStart=>exact⟨0,Nat.zero_le _,rfl,rfl,(Below.refl _ _).alloc (Nat.le_refl _) _⟩
 case round=>
  obtain⟨k,hk,rfl,rfl,hb⟩:=hrel;obtain⟨tk,htk⟩:∃tk,tk=Pt.top (((Pt.kids g f p).take k).map (Pt.DK g f)):=⟨_,rfl⟩;have htl:tk<=f:=by
   rw[htk];exact Vs (fun x hx=>by
    obtain⟨a,_,rfl⟩:=List.mem_map.1 hx;exact NN g f a)
  rw[<-htk];have HTK:=Ab htk;clear htk;by_cases hlt:k<vn
  ·obtain⟨q,hq⟩:∃q,(Pt.kids g f p)[k]?=some q:=⟨_,List.getElem?_eq_getElem (by have:=Aa HN;omega)⟩;obtain⟨d0,d1,d2,a0,a1,a2,hr⟩:=(Aa HI) k q hq;obtain⟨gb,rfl,hgb⟩:∃gb,va=some ⟨gb,0,none⟩/\gb<w.heap.size:=by
    rcases(Aa HO).1.2 with ⟨hv,h0⟩|⟨gb,cap,cur,hv,_,hh,_⟩
    ·have:=Aa HN;omega
    ·cases hv;exact⟨gb,rfl,lt_of_block hh⟩
   have hcl:=(Aa HO).1.cells (g:=gb) rfl;have ad:∀o,(⟨gb,0,none⟩:Addr).add o=⟨gb,o,none⟩:=fun o=>by simp[Addr.add];omega
   have f0:wr.cell? ⟨gb,k*3,none⟩=some d0:=by
    rw[hb.cell (p:=⟨gb,k*3,none⟩) hgb,<-ad,Nat.mul_comm];exact hcl _ _ a0
   have f1:wr.cell? ⟨gb,k*3+1,none⟩=some d1:=by
    rw[hb.cell (p:=⟨gb,k*3+1,none⟩) hgb,<-ad,Nat.mul_comm];exact hcl _ _ a1
   have f2:wr.cell? ⟨gb,k*3+2,none⟩=some d2:=by
    rw[hb.cell (p:=⟨gb,k*3+2,none⟩) hgb,<-ad,Nat.mul_comm];exact hcl _ _ a2
   obtain⟨⟨x0,rfl⟩,⟨x1,rfl⟩,⟨ea,en,ec,rfl⟩⟩:=Cg hr;have hr':∀o,EU (wr.alloc o) S g f q (.int .u8 x0) (.int .i64 x1) (.slice ea en ec):=fun o=>Bj ((show BQ S w wr from ⟨hb.size,fun k' _ hl=>hb.block k' hl⟩).alloc o) hr
   have HR:=Ab hr';have HQ:=Ab hq;clear hq hr hr' a0 a1 a2 hcl ad;go_wp2_with fail
   refine((Aa HIH) q S _ _ _ _ (Aa HR _)).mono ?_;rintro e w2 ⟨rfl,hb2⟩;obtain⟨dq,hdq⟩:∃dq,dq=Pt.DK g f q:=⟨_,rfl⟩;have hdl:dq<=f:=by rw[hdq];exact NN g f q
   rw[<-hdq];have HDQ:=Ab hdq;have hb':Below w.heap.size w w2:=(hb.alloc hb.size _).trans (hb2.mono (by have:=hb.size;simp;omega));clear hdq hb2 hb f0 f1 f2;go_wp2;go_roundw
   case rel=>
    refine⟨k+1,by omega,by go_num,?_,hb'⟩;rw[Vu (Aa HQ),<-Aa HTK,<-Aa HDQ];by_cases hx:tk<dq
    ·rw[if_pos hx,show max tk dq=dq by omega]
    ·rw[if_neg hx,show max tk dq=tk by omega]
   case measure=>simp[intOf];omega
  ·go_wp2
   go_ret
   refine⟨?_,hb⟩;have e1:Pt.DK g (f+1) p=tk+1:=by
    rw[Aa HTK,List.take_of_length_le (by have:=Aa HN;omega)];rfl
   rw[e1];rfl
theorem QU(g:Nat->Nat):∀f,f<=42->GZ g f:=by
 intro f;induction f with
 |zero=>intro _ p S c0 c1 c2 w h;exact h.elim
 |succ f ih=>intro hf;exact NP g f (by omega) (ih (by omega))
end Go.Proofs.YtblomippkddgiaaGreatDoor.V
