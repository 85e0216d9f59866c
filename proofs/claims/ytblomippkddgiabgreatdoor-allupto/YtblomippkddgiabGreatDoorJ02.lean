import Derived.Test.YtblomippkddgiabGreatDoorJ01
set_option maxRecDepth 100000
set_option maxHeartbeats 2000000
namespace Go.Proofs.YtblomippkddgiabGreatDoor
namespace V
open Go.Proofs.Tryz RowKit
variable {s:ByteArray}{ks l:List Nat}{xs:List Value}{B D L M b c f j k m n p q q0:Nat}{c0 c1 c2 d0 d1 d2 v v':Value}{w w' w1 w2 w3 wr:World}
def okW(M:Nat)(x:Want):Prop:=1<=x.1/\x.1<=5/\x.2.1<=6/\x.2.2<=M
theorem WL(a:L<=M):∀l,Pt.EX c L=some l->l.length<=2/\∀x∈l,okW (M+1) x:=by
 intro l hl;unfold Pt.EX at hl
 grind [okW]
theorem T7{S S':List Want}(h:∀x∈S,okW M x)(b:Pt.FW S c=S'):S'<=S.length+2/\∀x∈S',okW (M+1) x:=by
 match S,h,b with
 |(a,k,L) :: R,h,b=>
  have d:=h (a,k,L) Ev;have f:∀x∈R,okW (M+1) x:=λx g=>by
   all_goals grind [okW]
  unfold okW at d;simp only at d;have e:some R=some S'->S'.length<=((a,k,L) :: R).length+2/\∀x∈S',okW (M+1) x:=by all_goals grind
  simp only[Pt.FW]at b;split at b;all_goals grind [Option.map_eq_some_iff,WL,okW]
theorem aeW{S:List Want}(h:∀x∈S,okW M x)(b:D<=M):Pt.nd S c D<=M:=by
 match S,h with
 |[],_=>simpa [Pt.nd] using b
 |(a,k,L) :: R,h=>
  have d:=h (a,k,L) Ev;unfold okW at d
  grind [Pt.nd]
structure yg(s:Ab)(w:Aa)(res:Nat×Nat)(p D:Nat)(S:List Want)(v:Ad)(wr:Aa):Prop where
 le:p<=s.size
 Gs:SG wr w.heap.size v S
 len:S.length<=2*p+1
 all:∀x∈S,okW (p+1) x
 deep:D<=p+1
 h:Below w.heap.size w wr
 run:Pt.run (nx s) s.size (s.size-p) S D p=res
theorem lZ(s:Ab)(w:Aa):yg s w (Pt.run (nx s) s s [(1,0,1)] 0 0) 0 0 [(1,0,1)] (EJ w 1 1) (w.alloc (.cells #[Z 1,Z 0,Z 1] 265)):=by
 refine⟨AV _,XV w _ I (Ar _) I (by simp[GV,wc]) U,Ev,?_,U,F9,I⟩;intro x a
 grind [okW]
theorem Oj{f:Nat×Nat}{S S':List Want}(a:yg s w f p D S v wr)(h:p<s)(g:Pt.FW S (nx s p)=S')(b:DY wr w2)(k:SG w2 wr v' S')(d:DY w2 w3):
  yg s w f (p+1) (Pt.nd S (nx s p) D) S' v' w3:=by
 have⟨l,j⟩:=T7 a.all g;have e:=a.h.size;have i:=b.size;have hl:=a.len;refine⟨h,own_below (NA k e) d,U,j,?_,(a.h.trans (b.mono e)).trans (d.mono U),?_⟩
 .have:=aeW (c:=nx s p) a.all a.deep;omega
 .rw[<-Pt.Kf h g];exact a.run
theorem uU(s:Ab)(w:Aa)(a:¬s.size<=40):
  D7 109 #[.string s] w (.tuple #[Z 1,Z 0]) (DY w):=by
 have h:(40:Int)<(s.size:Int):=U;clear a
 delta D7
 go_in
 go_wp2
 go_ret2
 exact⟨I,AA _ _⟩
theorem nM(s:Ab)(w:Aa)(hs:s.size<=40):
  D7 109 #[.string s] w (.tuple #[Z (Pt.run (nx s) s s [(1,0,1)] 0 0).1,Z (Pt.run (nx s) s s [(1,0,1)] 0 0).2]) (DY w):=by
 have M:=Dx (lZ s w);generalize Pt.run (nx s) s.size s.size [(1,0,1)] 0 0=res at *;have Q:¬(40:Int)<(s.size:Int):=U
 delta D7
 go_in
 go_wp2;go_loopw [4,5,6] (λv P i wr=>∃(p D:Nat) (S:List Want),i=Z p/\P=Z D/\yg s w res p D S v wr) (λ_ _ i _=>s.size-(intOf i).toNat)
 case atStart=>exact⟨0,0,_,I,I,Dw M⟩
 case round=>
  obtain⟨p,D,S,rfl,rfl,d⟩:=hrel;clear M;have X:=d.le;have hD:=d.deep;have W:=d.len;have o:∀x∈S,1<=x.1/\x.1<=5/\x.2.1<=6/\x.2.2<=1000:=λx t=>by
   have:=d.all x t;unfold okW at this;omega
  by_cases hlt:p<s.size
  .have hc:=Gd hlt;have u:=Dx hc;clear hc;have F:=d.h.size;have HI:=Dx d;have y:=Dx (YZ S u4 (s[p]).toNat wr (NA d.Gs (AV _)) U o);clear o;cases hg:Pt.FW S (s[p]).toNat with
   |none=>
    have c:res=(2,p):=by
     rw[<-d.run];exact Pt.Lh hlt (by rw[Dw u];exact hg)
    subst c;clear d;have HGG:Hid (ET 174 #[u4,.int .u8 (s[p]).toNat] wr λe n=>∃v,e=.returned (.tuple #[v,DI])/\DY wr n):=by
     refine(Dw y).mono ?_;rintro e n ⟨K,rfl,A,_⟩;rw[hg];exact⟨K,I,A⟩
    clear y hg;go_wp2_with fail
    refine(Dw HGG).mono ?_;rintro e w2 ⟨v2,rfl,hb2⟩;go_wp2
    go_ret2
    exact⟨I,(Dw HI).h.trans (hb2.mono F)⟩
   |some S'=>
    have HGG:Hid (ET 174 #[u4,.int .u8 (s[p]).toNat] wr λe n=>∃v,e=.returned (.tuple #[v,DC])/\DY wr n/\SG n wr.heap.size v S'):=by
     refine(Dw y).mono ?_;rintro e n ⟨K,rfl,A,hst⟩;rw[hg];exact⟨K,I,A,hst S' hg⟩
    have HS:Hid (Pt.FW S (nx s p)=some S'):=by rw[Dw u];exact hg
    clear y;match S,hg,d,HI,HS with
    |[],hg,_,_,_=>simp[Pt.FW]at hg
    |(h,k,L) :: R,hg,d,HI,HS=>
     have t:=d.all (h,k,L) Ev;unfold okW at t;simp only at t;have⟨G,H,aa,ab⟩:=t;obtain⟨gb,cap,rfl,q,hgl,_,f0,f1,f2⟩:=Qx d.Gs;simp only at f0 f1 f2;have T:R.length<=100:=by have:=d.len;simp at this;omega
     generalize hrr:R.length=r at *;have O:=Dx hrr;clear hrr hg d;have B:h=1\/h=2\/h=3\/h=4\/h=5:=U;clear G H;rcases B with rfl|rfl|rfl|rfl|rfl
     .by_cases g:D<L
      .have b:Pt.nd ((1,k,L) :: R) (nx s p) D=L:=by
        simp[Pt.nd,g]
       have HND:=Dx b;clear b;have m:(D:Int)<L:=U;exact afm
      .have b:Pt.nd ((1,k,L) :: R) (nx s p) D=D:=by
        simp[Pt.nd,g]
       have HND:=Dx b;clear b;have m:¬(D:Int)<L:=U;exact afm
     .have b:Pt.nd ((2,k,L) :: R) (nx s p) D=D:=by
       simp[Pt.nd]
      have HND:=Dx b;clear b;go_wp2_with fail
      refine(Dw HGG).mono ?_;rintro e w2 ⟨v2,rfl,hb2,hst⟩;have g0:=(hb2.cell (p:=(Y gb (r*3))) hgl).trans f0;have g1:=(hb2.cell (p:=(Y gb (r*3+1))) hgl).trans f1;have g2:=(hb2.cell (p:=(Y gb (r*3+2))) hgl).trans f2;have⟨HST,HB2⟩:=FU hst hb2;clear f0 f1 f2 hst hb2;go_wp2;go_roundw
      case rel=>
       have J:=Oj (Dw HI) hlt (Dw HS) (Dw HB2) (Dw HST) ((AA _ _).alloc (Ar _) (.cells #[Z 2,Z k,Z L] 265));exact adO
      case measure=>exact Kt
     .have b:Pt.nd ((3,k,L) :: R) (nx s p) D=D:=by
       simp[Pt.nd]
      have HND:=Dx b;clear b;go_wp2_with fail
      refine(Dw HGG).mono ?_;rintro e w2 ⟨v2,rfl,hb2,hst⟩;have g0:=(hb2.cell (p:=(Y gb (r*3))) hgl).trans f0;have g1:=(hb2.cell (p:=(Y gb (r*3+1))) hgl).trans f1;have g2:=(hb2.cell (p:=(Y gb (r*3+2))) hgl).trans f2;have⟨HST,HB2⟩:=FU hst hb2;clear f0 f1 f2 hst hb2;go_wp2;go_roundw
      case rel=>
       have J:=Oj (Dw HI) hlt (Dw HS) (Dw HB2) (Dw HST) ((AA _ _).alloc (Ar _) (.cells #[Z 3,Z k,Z L] 265));exact adO
      case measure=>exact Kt
     .have b:Pt.nd ((4,k,L) :: R) (nx s p) D=D:=by
       simp[Pt.nd]
      have HND:=Dx b;clear b;go_wp2_with fail
      refine(Dw HGG).mono ?_;rintro e w2 ⟨v2,rfl,hb2,hst⟩;have g0:=(hb2.cell (p:=(Y gb (r*3))) hgl).trans f0;have g1:=(hb2.cell (p:=(Y gb (r*3+1))) hgl).trans f1;have g2:=(hb2.cell (p:=(Y gb (r*3+2))) hgl).trans f2;have⟨HST,HB2⟩:=FU hst hb2;clear f0 f1 f2 hst hb2;go_wp2;go_roundw
      case rel=>
       have J:=Oj (Dw HI) hlt (Dw HS) (Dw HB2) (Dw HST) ((AA _ _).alloc (Ar _) (.cells #[Z 4,Z k,Z L] 265));exact adO
      case measure=>exact Kt
     .by_cases f:nx s p=41
      .have j:=Dx f;have C:((((s[p]).toNat:Nat):Int) != 41)=false:=by rw[<-Dw u,f];rfl
       clear f;have b:Pt.nd ((5,k,L) :: R) (nx s p) D=D:=by
        simp[Pt.nd,Dw j]
       have HND:=Dx b;clear b;exact adK
      .have j:=Dx f;have C:((((s[p]).toNat:Nat):Int) != 41)=true:=by rw[<-Dw u];simp;omega
       clear f;by_cases g:D<L
       .have b:Pt.nd ((5,k,L) :: R) (nx s p) D=L:=by
         simp[Pt.nd,Dw j,g]
        have HND:=Dx b;clear b;have m:(D:Int)<L:=U;exact adK
       .have b:Pt.nd ((5,k,L) :: R) (nx s p) D=D:=by
         simp[Pt.nd,Dw j,g]
        have HND:=Dx b;clear b;have m:¬(D:Int)<L:=U;exact adK
  .have E:p=s.size:=U;have c:res=Pt.fin s.size S D:=by
    rw[<-d.run,E,CZ];rfl
   have l:=d.h;have hst:=d.Gs;clear d;match S,hst,c with
   |[],hst,c=>
    obtain⟨a,cap,rfl⟩:∃a cap,u4=.slice a 0 cap:=by
     have⟨_,h⟩:=hst;exact wD
    clear hst;by_cases N:4<D
    .have c:res=(3,0):=by rw[c];simp[Pt.fin,N]
     subst c;have z:(4:Int)<D:=U;go_wp2
     go_ret2
     exact⟨I,l⟩
    .have c:res=(0,0):=by rw[c];simp[Pt.fin,N]
     subst c;have z:¬(4:Int)<D:=U;go_wp2
     go_ret2
     exact⟨I,l⟩
   |x :: R,hst,c=>
    obtain⟨gb,cap,rfl,q,hgl,_,f0,f1,f2⟩:=Qx hst;clear hst f0 f1 f2;have c:res=(2,s.size):=by rw[c];simp[Pt.fin]
    subst c;go_wp2
    go_ret2
    exact⟨I,l⟩
theorem ac1:(prog.info? 262).map (λi=>(i.zero,i.size,i.bytes))=some (some (.agg #[.int .u8 0,Z 0,Dz]),3,40):=EL
def Sz(b:Nat)(s:Ab)(f:Nat):Prop:=∀(p:Nat) (w:Aa),At w b s p->p<=s->s-p<f->Calls prog 221 #[.pointer (Y b 0)] w (Ja b s f p w)
def acJ(w:Aa)(B:Nat)(s:Ab)(f:Nat)(ks:List Nat)(v:Ad)(xs:Ae):Prop:=
 ∀i q,ks[i]?=some q->∃d0 d1 d2,xs[3*i]?=some d0/\xs[3*i+1]?=some d1/\xs[3*i+2]?=some d2/\NP w (λk=>B<=k/\v.ownBlock≠k) (nx s) f q d0 d1 d2
structure WI(b f p:Nat)(s:Ab)(w:Aa)(j k q:Nat)(ks:List Nat)(v:Ad)(xs:Ae)(wr:Aa):Prop where
 sum:k+j=6
 some:1<=k
 len:ks.length=k
 le:q<=s.size
 fuel:s.size-q<f
 c:At wr b s q
 H:DF b w wr
 owns:wr.ownsRow w.heap.size 262 3 v k xs
 inside:acJ wr w.heap.size s f ks v xs
 rest:Pt.LV (Pt.ty (nx s) f) (nx s) 5 (Pt.ty (nx s) f (p+1)).2=Pt.LV (Pt.ty (nx s) f) (nx s) j q
 a:(p+1) :: Pt.I7 (Pt.ty (nx s) f) (nx s) 5 (Pt.ty (nx s) f (p+1)).2=ks++Pt.I7 (Pt.ty (nx s) f) (nx s) j q
def lenOf:Value->Nat|.slice _ n _=>n|_=>0
theorem GN{S:Nat->Prop}{g:Nat->Nat}(h:NP w S g f p c0 c1 c2):(∃x,c0=.int .u8 x)/\(∃x,c1=Z x)/\(∃a n c,c2=.slice a n c):=by
 cases f with
 |zero=>exact h.elim
 |succ f=>
  have⟨b,d,i,⟨⟨_,e⟩,_⟩,_⟩:=h
  grind
theorem OO(h:w.ownsRow B 262 3 v n xs)(hn:1<=n):∃g cap,v=EJ g n cap/\B<=g/\g<w:=by
 have⟨_,h⟩:=h
 grind
theorem Uu(h:w.ownsRow B 262 3 v n xs)(hk:DF b w w')(f:b<B):w'.ownsRow B 262 3 v n xs:=by
 have⟨hl,h⟩:=h;refine⟨hl,?_⟩;rcases h with h|⟨g,cap,a,e,d,c,r⟩
 .exact Aj h
 .refine Am ⟨g,cap,a,e,d,?_,r⟩;rw[hk.block g (Dv c) U];exact c
theorem mf(c:DF b w w1)(d:DF b w1 w2)(m:At w2 b s q0)(j:(Pt.ty (nx s) f (p+1)).2=q0)(h:q0<=s)(n:s-q0<f)
  (u:NP w2 (λk=>w1<=k) (nx s) f (p+1) d0 d1 d2):
  WI b f p s w 5 1 q0 [p+1] (EJ w2 1 1) [d0,d1,d2] (w2.alloc (.cells #[d0,d1,d2] 262)):=by
 have v:=c.size;have x:=d.size;refine⟨I,Ar _,I,h,n,m.alloc _,(c.trans d).alloc _,?_,?_,by rw[j],by rw[j];rfl⟩
 .have⟨⟨hl,t⟩,z⟩:=Zz (d0:=d0) (d1:=d1) (d2:=d2) w2 I;refine⟨hl,?_⟩;rcases t with ⟨l,_⟩|⟨g,cap,e,y,A,r⟩
  .cases l
  .cases y;exact Am ⟨_,_,e,I,U,r⟩
 .intro i q a;match i,a with
  |0,a=>
   simp at a;subst a;refine⟨d0,d1,d2,I,I,I,GM ((Hq.refl _ _).alloc _) (Ke (λk hk o=>⟨U,?_⟩) u)⟩
   grind [Value.ownBlock]
theorem sC(T:b<w)(K:WI b f p s w (j+1) k q ks v xs wr)(hk:DF b wr w2)
  (ha:At w2 b s (Pt.ty (nx s) f q).2) (O:(Pt.ty (nx s) f q).1=true) (Q:Pt.Agree (nx s) s f) (hc:¬nx s q=41) (hr:NP w2 (λk=>wr<=k) (nx s) f q d0 d1 d2)
  (x:w3.ownsRow w 262 3 v' (k+1) (xs++[d0,d1,d2])) (t:(w2.alloc (.cells #[d0,d1,d2] 262)).grownBy w3 v.ownBlock) (P:v'.ownBlock=v.ownBlock\/v'.ownBlock=(w2.alloc (.cells #[d0,d1,d2] 262)).heap.size):
  WI b f p s w j (k+1) (Pt.ty (nx s) f q).2 (ks++[q]) v' (xs++[d0,d1,d2]) w3:=by
 have⟨H,o,u,D,n,aa,d,how,B,F,C⟩:=K;have⟨g,cap,hv,M,W⟩:=OO how o;have r:v.ownBlock=some g:=by rw[hv];rfl
 have⟨_,y,_⟩:=Q q 0 1 0 [] D n;have⟨q1,q2⟩:=y O;have ac:=d.size;have ad:=hk.size;have ah:xs.length=3*k:=by have:=how.1;omega
 have X:(w2.alloc (.cells #[d0,d1,d2] 262)).heap.size=w2.heap.size+1:=Ev;have J:w2.heap.size+1<=w3.heap.size:=by have:=t.size;omega
 have m:∀c,c<w2.heap.size->¬c=g->w3.heap[c]?=w2.heap[c]?:=by
  intro c hl hn;rw[t.block c U (by rw[r];intro e;cases e;exact hn I)];exact AL _ _ _ hl
 refine⟨U,U,by simp[u],q2,U,?_,?_,x,?_,?_,?_⟩
 .all_goals grind [At]
 .refine⟨?_,?_,?_,U,?_⟩
  .exact t.os.trans (hk.os.trans d.os)
  .exact t.tape.trans (hk.tape.trans d.tape)
  .exact t.output.trans (hk.output.trans d.output)
  .intro c hl hn;rw[m c U U,hk.block c U hn,d.block c hl hn]
 .have G:∀(S:Nat->Prop),¬S g->Hq S w2 w3:=λS N=>⟨U,λc a hl=>m c hl (λe=>N (e ▸ a))⟩
  have fresh:∀c,c<w2.heap.size->¬c=g->v'.ownBlock≠some c:=by all_goals grind
  intro i q' l;by_cases hi:i<ks.length
  .rw[A6 hi]at l;have⟨e0,e1,e2,a0,a1,a2,E⟩:=B i q' l;refine⟨e0,e1,e2,?_,?_,?_,?_⟩
   .all_goals grind
   .all_goals grind
   .all_goals grind
   .have L:=GM (hk.above (S:=λk=>w.heap.size<=k/\v.ownBlock≠some k) U) E;have z:=Ke (S':=λk=>w.heap.size<=k/\v.ownBlock≠some k/\v'.ownBlock≠some k) (λc a hl=>⟨a.1,a.2,fresh c hl (λe=>a.2 (by rw[e];exact r))⟩) L;exact Ke (λc a _=>⟨a.1,a.2.2⟩) (GM (G _ (λh=>h.2.1 r)) z)
  .have A:i=ks.length:=by all_goals grind
   subst A;rw[Bq (Ar _)]at l;simp at l;subst l;refine⟨d0,d1,d2,?_,?_,?_,?_⟩
   .all_goals grind
   .all_goals grind
   .all_goals grind
   .have z:=Ke (S':=λk=>w.heap.size<=k/\¬k=g/\v'.ownBlock≠some k) (λc a hl=>⟨U,U,fresh c hl U⟩) hr;exact Ke (λc a _=>⟨a.1,a.2.2⟩) (GM (G _ (λh=>h.2.1 I)) z)
 all_goals grind [Pt.LV,Pt.I7]
def JW(b:Nat)(s:Ab)(f p:Nat)(w:Aa)(e:Ending)(w':Aa):Prop:=
 if (Pt.LV (Pt.ty (nx s) f) (nx s) 5 (Pt.ty (nx s) f (p+1)).2).1 then ∃v,e=.returned v/\DF b w w'/\At w' b s (Pt.LV (Pt.ty (nx s) f) (nx s) 5 (Pt.ty (nx s) f (p+1)).2).2/\Kids w' (λk=>w<=k) (nx s) f ((p+1) :: Pt.I7 (Pt.ty (nx s) f) (nx s) 5 (Pt.ty (nx s) f (p+1)).2) v
 else e=Ji (Pt.LV (Pt.ty (nx s) f) (nx s) 5 (Pt.ty (nx s) f (p+1)).2).2/\DF b w w'
theorem T9(e:b<w)(c:WI b f p s w j k q ks v xs wr)(m:nx s q=41)(hk:DF b wr w')(n:At w' b s (q+1)):
  JW b s f p w (.returned v) w':=by
 have e1:Pt.LV (Pt.ty (nx s) f) (nx s) j q=(true,q+1):=by cases j<;>simp[Pt.LV,m]
 have e2:Pt.I7 (Pt.ty (nx s) f) (nx s) j q=[]:=by cases j<;>simp[Pt.I7,m]
 unfold JW;rw[c.rest,e1,c.a,e2,Cb,Ay rfl];refine⟨v,I,c.H.trans hk,n,xs,⟨?_,?_⟩,?_⟩
 .have⟨hl,h⟩:=Uu c.owns hk e;rw[c.len];refine⟨hl,?_⟩
  grind
 .intro u a;have⟨g,cap,t,d,o⟩:=OO c.owns c.some;rw[t]at a;cases a;exact d
 .intro i x l;have⟨d0,d1,d2,a0,a1,a2,r⟩:=c.inside i x l;refine⟨d0,d1,d2,a0,a1,a2,Ke (λu a _=>a.1) (GM (hk.above ?_) r)⟩;intro h;have:=h.1;omega
theorem ei(a:WI b f p s w 0 k q ks v xs wr)(c:¬nx s q=41)(hk:DF b wr w'):
  JW b s f p w (Ji q) w':=by grind [WI,DF,JW,Pt.LV]
theorem zq(a:WI b f p s w (j+1) k q ks v xs wr)(d:¬nx s q=41)(c:(Pt.ty (nx s) f q).1=false)(hk:DF b wr w'):
  JW b s f p w (Ji (Pt.ty (nx s) f q).2) w':=by grind [WI,DF,JW,Pt.LV]
theorem fu(b p:Nat)(s:Ab)(w:Aa)(h:At w b s p)(c:p<=s)(d:s.size<=40)(hc:¬nx s p=40):
  ET 255 #[.pointer (Y b 0)] w λe f=>e=Ji p/\DF b w f:=by
 have a:=TA h c d I hc;clear hc h
 delta ET
 go_in
 go_wp2_with fail
 refine cm a λg hk=>?_
 go_wp2;exact⟨I,I,hk⟩
theorem ZB(h:At w b s p)(o:p<s)(n:s.size<=40)(m:s-(p+1)<f)(hc:nx s p=40)(H:Sz b s f)(k:(Pt.ty (nx s) f (p+1)).1=false):
  ET 255 #[.pointer (Y b 0)] w λe c=>e=Ji (Pt.ty (nx s) f (p+1)).2/\DF b w c:=by
 have j:=Np h U n hc;have d:∀w,At w b s (p+1)->ET 221 #[.pointer (some (Y b 0))] w λe c=>e=Ji (Pt.ty (nx s) f (p+1)).2/\DF b w c:=by
  intro l g;refine(H (p+1) l g U m).mono ?_;intro e c a;unfold Ja at a;rw[k,Ao Ev]at a;exact a
 have d:=Dx d;clear hc h H k
 delta ET
 go_in
 go_wp2_with fail
 refine cm j ?_;rintro l ⟨hk,g⟩;clear j;go_wp2_with fail
 refine cm (d _ g) λq i=>?_
 go_wp2;exact⟨I,I,hk.trans i⟩
theorem fw(h:At w b s p)(hp:p<s)(M:s.size<=40)(hf:s-(p+1)<f)(hc:nx s p=40)(H:Sz b s f)(hA:Pt.Agree (nx s) s f)(hT:(Pt.ty (nx s) f (p+1)).1=true):
  ET 255 #[.pointer (Y b 0)] w (JW b s f p w):=by
 have C:=h.lt;have HB:=Np h U M hc;have⟨HA,HT,HO⟩:=Ll hA hT H;clear hc h H hT hA;have⟨i0,hi,ac,ad,ae⟩:=A1 ac1
 delta ET
 go_in
 go_wp2_with fail
 refine cm HB ?_;rintro w1 ⟨hk,ha⟩;clear HB;go_wp2_with fail
 refine(HO (p+1) _ ha U hf).mono ?_;intro e w2 m;unfold Ja at m;rw[Dw HT,Ay rfl]at m;obtain⟨d0,d1,d2,rfl,S,O,T⟩:=m;have⟨_,D,_⟩:=HA (p+1) 0 1 0 [] U hf;have⟨q1,q2⟩:=D (Dw HT);have y:=mf hk S O I q2 U T;have I0:=Dx y;clear y D hk S ha O T;go_wp2;go_loopw [3] (λv wr=>∃(j k q:Nat) (ks:List Nat) (xs:Ae),WI b f p s w j k q ks v xs wr) (λv _=>6-lenOf v)
 case atStart=>exact⟨_,_,_,_,_,I0⟩
 case round=>
  have⟨j,k,q,ks,xs,y⟩:=hrel;clear I0;have⟨g,cap,hv,aN,aV⟩:=OO y.owns y.some;subst hv;have E:=Dx y;have av:=y.sum;have aa:=y.some;have z:=y.c;have x:=y.le;have J:=y.fuel;clear y;by_cases h6:k=6
  .subst h6;obtain rfl:j=0:=U;by_cases d:nx s q=41
   .have a:=Dx d;clear d;go_wp2_with fail
    refine cm (Np z x M a) ?_;rintro w3 ⟨l,r⟩;go_wp2
    go_ret
    exact T9 C E a l r
   .have a:=Dx d;clear d;go_wp2_with fail
    refine cm (TA z x M I a) λw3 l=>?_
    go_wp2;exact⟨I,ei E a l⟩
  .obtain⟨j',rfl⟩:∃j',j=j'+1:=⟨j-1,U⟩;have b2:(k:Int)<6:=U;by_cases d:nx s q=41
   .have a:=Dx d;have F:=Ld b q s wr z x M;rw[d]at F;clear d;go_wp2_with fail
    refine cm F ?_;rintro w3 ⟨l,r⟩;clear F;go_wp2_with fail
    refine cm (Np r x M a) ?_;rintro w4 ⟨t,B⟩;go_wp2
    go_ret
    exact T9 C E a (l.trans t) B
   .have a:=Dx d;have F:=Ld b q s wr z x M;obtain⟨c,Q⟩:∃c,c=nx s q:=DR;rw[<-Q]at F;have X:((c:Int) != 41)=true:=Fy;clear d Q;go_wp2_with fail
    refine cm F ?_;rintro w3 ⟨l,r⟩;clear F;go_wp2_with fail
    refine(HO q _ r x J).mono ?_;intro e w4 m;unfold Ja at m;cases hTq:(Pt.ty (nx s) f q).1 with
    |false=>
     rw[hTq,Ao Ev]at m;obtain⟨rfl,t⟩:=m;have G:=Dx hTq;clear hTq;go_wp2;exact⟨I,zq E a G (l.trans t)⟩
    |true=>
     rw[hTq,Ay rfl]at m;obtain⟨e0,e1,e2,rfl,t,B,L⟩:=m;have G:=Dx hTq;clear hTq;obtain⟨⟨x0,rfl⟩,⟨x1,rfl⟩,⟨ea,en,ec,rfl⟩⟩:=GN L;have o:=l.trans t;have how:=Uu E.owns o C;have b3:=E.H.size;have aw:=o.size;have⟨HR,W,N⟩:=Ll L B o;have aS:=l.size;clear L B o l t r z;go_wp2_with (at_builtin;refine AQ _ I _ _ 260 I w.heap.size 262 i0 (.agg #[.int .u8 0,Z 0,Dz]) 3 40 underlying260 hi ac ad ae I Em _ k xs I (how.alloc _) (EN w4 0) 1 1 [.int .u8 x0,Z x1,.slice ea en ec] I I ?c1 ?c2 ?c3 ?c4 ?c5 ?_)
     case c1=>
      intro i u hu;have⟨t0,t1,t2,_⟩:=(NZ.new w4 (.int .u8 x0) (Z x1) (.slice ea en ec)).facts;match i,hu with
      |0,hu=>simp at hu;subst hu;exact t0
      |1,hu=>simp at hu;subst hu;exact t1
      |2,hu=>simp at hu;subst hu;exact t2
     case c2=>
      intro u hu;simp at hu;rcases hu with rfl|rfl|rfl<;>rfl
     case c3=>unfold maxLen;omega
     case c4=>omega
     case c5=>simp;omega
     intro v' w5 n A _ P;have R:=sC C E N W G HA a (Ke (λk' b1 _=>by omega) HR) n A (by simpa using P);have K:lenOf v'=k+1:=by
      have⟨g',an,ab,_⟩:=OO n U;rw[ab];rfl
     have⟨R,K⟩:=FU R K;clear n A P how;go_wp2;go_roundw
     case rel=>exact⟨_,_,_,_,_,R⟩
     case measure=>rw[Dw K];simp only[lenOf];omega
theorem mQ(h:At w b s p)(j:p<=s)(g:s.size<=40)(d:p<s->s-(p+1)<f)(H:Sz b s f)(i:Pt.Agree (nx s) s f):
  ET 255 #[.pointer (Y b 0)] w λe c=>
   if nx s p=40 then (if (Pt.ty (nx s) f (p+1)).1 then JW b s f p w e c else e=Ji (Pt.ty (nx s) f (p+1)).2/\DF b w c) else e=Ji p/\DF b w c:=by
 by_cases hc:nx s p=40
 .have a:p<s.size:=by grind [Ot]
  simp only[hc,CQ];cases hT:(Pt.ty (nx s) f (p+1)).1 with
  |false=>simpa using ZB h a g (d a) hc H hT
  |true=>simpa using fw h a g (d a) hc H i hT
 grind [fu]
theorem QW(h:nx s p=c)(hc:c≠0):p<s:=by grind [Ot]
theorem jX(b:Nat)(s:Ab)(d:s.size<=40):∀f,Sz b s f:=by
 have z:=λf=>Pt.agree (g:=nx s) (n:=s.size) (λp l=>Ot l) f
 intro f;induction f with
 |zero=>intro p w _ _ B;omega
 |succ f ih=>
  intro p w h l B;obtain⟨c,hc⟩:∃c,nx s p=c:=DK;by_cases hl:c=98\/c=99\/c=105\/c=115
  .have i:Pt.FI c=true:=by simp[Pt.FI];omega
   refine cm (uq h l d hc hl) ?_;rintro j ⟨hk,m⟩
   grind [Pt.ty,Ja,ZQ,Pt.EW,Gl]
  have i:Pt.FI c=false:=by simp[Pt.FI];omega
  by_cases x:c=101
  .subst x;have a:=QW hc U;by_cases hd:48+1<=nx s (p+1)/\nx s (p+1)<=57
   .refine cm (aeZ h a d hc hd) ?_;rintro j ⟨hk,m⟩
    grind [Pt.ty,Pt.Pe,Ja,ZQ,Pt.EW,Gl]
   .refine cm (uv (.inl ⟨I,I⟩) h a d hc hd) λj hk=>?_
    grind [Pt.ty,Pt.Pe,Ja]
  by_cases r:c=97\/c=113
  .obtain⟨k,hk⟩:∃k,c=97/\k=1\/c=113/\k=0:=by rcases r with h|h<;>simp[h]
   have a:=QW hc U;by_cases hd:48+k<=nx s (p+1)/\nx s (p+1)<=57
   .have y:=QW (s:=s) (p:=p+1) I U;have u:Pt.Pe (nx s) k (p+1)=(true,p+2):=by unfold Pt.Pe;rw[Ay hd]
    exact adt hk h a d hc hd (by rcases hk with ⟨rfl,rfl⟩|⟨rfl,rfl⟩<;>simp[Pt.ty,hc,i,u]) λj m=>ih (p+2) j m U U
   .refine cm (uv (.inr hk) h a d hc hd) λj C=>?_
    grind [Pt.Pe,Pt.ty,Ja]
  by_cases v:c=114\/c=117
  .have a:=QW hc U;have o:¬c=97/\¬c=113:=U;have e1:Pt.ty (nx s) (f+1) p=(if nx s (p+1)=40 then (if (Pt.ty (nx s) f (p+2)).1 then Pt.LV (Pt.ty (nx s) f) (nx s) 5 (Pt.ty (nx s) f (p+2)).2 else (false,(Pt.ty (nx s) f (p+2)).2)) else (false,p+1)):=by
    simp[Pt.ty,hc,i,x,o,v]
   have E:Pt.EW (nx s) f p=(p+2) :: Pt.I7 (Pt.ty (nx s) f) (nx s) 5 (Pt.ty (nx s) f (p+2)).2:=by simp[Pt.EW,hc,o,v]
   obtain⟨⟨t,q⟩,A⟩:∃X,X=(if nx s (p+1)=40 then (if (Pt.ty (nx s) f (p+2)).1 then Pt.LV (Pt.ty (nx s) f) (nx s) 5 (Pt.ty (nx s) f (p+2)).2 else (false,(Pt.ty (nx s) f (p+2)).2)) else (false,p+1)):=DR;rw[<-A]at e1;refine ads v h a d hc e1 λj m=>(mQ m U d (λ_=>by omega) ih (z f)).mono λe D l=>?_
   unfold JW at l
   grind
  .refine cm (zJ h l d hc U) λj hk=>?_
   grind [Pt.ty,Ja]
theorem xx(h:∀x∈l,x<=m):Pt.top l<=m:=by
 induction l with
 |nil=>simp[Pt.top]
 |cons x l ih=>
  have a:=h x Ev
  grind [Pt.top]
theorem dA(g:Nat->Nat):∀f p,Pt.Lj g f p<=f:=by
 intro f;induction f with
 |zero=>intro p;simp[Pt.Lj]
 |succ f ih=>
  intro p;simp only[Pt.Lj];have:=xx (l:=(Pt.EW g f p).map (Pt.Lj g f)) (m:=f) (by intro x b;simp at b;obtain⟨a,_,rfl⟩:=b;exact ih a);omega
theorem xA(l:List Nat)(x:Nat):Pt.top (l++[x])=max (Pt.top l) x:=by
 induction l with
 |nil=>simp[Pt.top]
 |cons y l ih=>simp only[BB,Pt.top,ih];omega
theorem xB{d:Nat->Nat}(h:ks[k]?=q):Pt.top ((ks.take (k+1)).map d)=max (Pt.top ((ks.take k).map d)) (d q):=by grind [List.take_add_one,xA]
theorem mC(T:Nat->Bool×Nat)(g:Nat->Nat):∀j p,(Pt.I7 T g j p)<=j:=by
 intro j;induction j with
 |zero=>intro p;simp[Pt.I7]
 |succ j ih=>grind [Pt.I7]
theorem Jj(g:Nat->Nat)(f p:Nat):(Pt.EW g f p).length<=6:=by grind [Pt.EW,mC]
def QG(g:Nat->Nat)(f:Nat):Prop:=∀(p:Nat) (S:Nat->Prop) (c0 c1 c2:Ad) (w:Aa),NP w S g f p c0 c1 c2->Calls prog 223 #[.agg #[c0,c1,c2]] w λe w'=>e=.returned (Z (Pt.Lj g f p))/\Below w w w'
theorem dB(g:Nat->Nat)(hf:f<=41)(O:QG g f):QG g (f+1):=by
 intro p S c0 c1 c2 w h;obtain⟨rfl,rfl,xs,H,hi⟩:=h;obtain⟨P,z,vc,rfl,t⟩:∃a n c,c2=.slice a n c/\n=(Pt.EW g f p).length:=by
  rcases H.1.2 with ⟨rfl,M⟩|⟨b,cap,F,rfl,_⟩
  .exact⟨_,_,_,I,M.symm⟩
  .exact⟨_,_,_,I,I⟩
 have L:=(show Hid (Ve w S (.slice P z vc) (Pt.EW g f p).length xs) from H);have⟨Q,D,E⟩:=Ll hi O t;have ah:z<=6:=by rw[t];exact Jj g f p
 clear H hi O t
 go_in
 go_wp2;go_loopw [3,9] (λgr i wr=>∃k:Nat,k<=z/\i=Z k/\gr=Z (Pt.top (((Pt.EW g f p).take k).map (Pt.Lj g f)))/\DY w wr) (λ_ i _=>z-(intOf i).toNat)
 case atStart=>exact⟨0,AV _,I,I,F9⟩
 case round=>
  obtain⟨k,hk,rfl,rfl,d⟩:=hrel;obtain⟨m,l⟩:∃m,m=Pt.top (((Pt.EW g f p).take k).map (Pt.Lj g f)):=DR;have ae:m<=f:=by
   rw[l];exact xx (λx B=>by
    obtain⟨a,_,rfl⟩:=Cy.1 B;exact dA g f a)
  rw[<-l];have u:=Dx l;clear l;by_cases ac:k<z
  .obtain⟨q,J⟩:∃q,(Pt.EW g f p)[k]?=some q:=⟨_,Ah (by have:=Dw E;omega)⟩;have⟨d0,d1,d2,a0,a1,a2,K⟩:=Q k q J;obtain⟨b,rfl,s⟩:∃b,P=some (Y b 0)/\b<w.heap.size:=by
    rcases L.1.2 with ⟨N,M⟩|⟨b,cap,F,N,_,hh,_⟩
    .have:=Dw E;omega
    .cases N;exact⟨b,I,Dv hh⟩
   have e:=L.1.cells (g:=b) I;have A:∀o,((Y b 0):Addr).add o=(Y b o):=λo=>by simp[Addr.add];omega
   have f0:wr.cell? (Y b (k*3))=some d0:=by
    rw[d.cell (p:=(Y b (k*3))) s,<-A,BZ];exact e _ _ a0
   have f1:wr.cell? (Y b (k*3+1))=some d1:=by
    rw[d.cell (p:=(Y b (k*3+1))) s,<-A,BZ];exact e _ _ a1
   have f2:wr.cell? (Y b (k*3+2))=some d2:=by
    rw[d.cell (p:=(Y b (k*3+2))) s,<-A,BZ];exact e _ _ a2
   obtain⟨⟨x0,rfl⟩,⟨x1,rfl⟩,⟨X,en,ec,rfl⟩⟩:=GN K;have y:∀o,NP (wr.alloc o) S g f q (.int .u8 x0) (Z x1) (.slice X en ec):=λo=>GM ((show Hq S w wr from ⟨d.size,λk' _ hl=>d.block k' hl⟩).alloc o) K
   have⟨W,T⟩:=FU y J;clear J K y a0 a1 a2 e A;go_wp2_with fail
   refine cm (D q S _ _ _ _ (Dw W _)) λw2 v=>?_
   obtain⟨r,j⟩:∃r,r=Pt.Lj g f q:=DR;have aa:r<=f:=by rw[j];exact dA g f q
   rw[<-j];have C:=Dx j;have G:=(d.alloc d.size _).trans (v.mono (by have:=d.size;simp;omega));clear j v d f0 f1 f2;go_wp2;go_roundw
   case rel=>
    refine⟨k+1,U,Kc,?_,G⟩;rw[xB (Dw T),<-Dw u,<-Dw C];by_cases B:m<r
    .rw[Ay B,show max m r=r by omega]
    .rw[Ao B,show max m r=m by omega]
   case measure=>exact Kt
  .go_wp2
   go_ret
   refine⟨?_,d⟩;have e1:Pt.Lj g (f+1) p=m+1:=by
    rw[Dw u,A7 (by have:=Dw E;omega)];rfl
   rw[e1];rfl
theorem lJ(g:Nat->Nat):∀f,f<=42->QG g f:=by
 intro f;induction f with
 |zero=>intro _ p S c0 c1 c2 w h;exact h.elim
 |succ f ih=>intro a;exact dB g U (ih U)
end V
namespace V.Pt
open Go.Proofs.Tryz
variable {S S':List (Nat×Nat×Nat)}{L f k least n p:Nat}{g:Nat→Nat}
def bh(g:Nat->Nat):Nat->List (Nat×Nat×Nat)->Nat->Nat
 |0,_,p=>p
 |m+1,S,p=>match FW S (g p) with
  |none=>p
  |some S'=>bh g m S' (p+1)
def Lb(g:Nat->Nat)(n:Nat)(S:List (Nat×Nat×Nat))(r:Bool×Nat):Nat:=if r.1 then bh g (n-r.2) S r.2 else r.2
theorem KD(b:p<n)(h:FW S (g p)=S'):bh g (n-p) S p=bh g (n-(p+1)) S' (p+1):=by
 obtain⟨m,a⟩:∃m,n-p=m+1:=⟨n-p-1,U⟩
 grind [bh]
theorem Ls(b:p<n)(h:FW S (g p)=none):bh g (n-p) S p=p:=by
 obtain⟨m,a⟩:∃m,n-p=m+1:=⟨n-p-1,U⟩;rw[a,bh,h]
theorem N6:bh g (n-n) S n=n:=by
 rw[CZ,bh]
theorem qN:bh g (n-p) [] p=p:=by
 cases h:n-p with
 |zero=>rfl
 |succ m=>rfl
theorem WN{h:Nat}(a:∀p,n<=p->g p=0)(c:p<=n)(b:(h=2/\least=1)\/(h=3/\least=0)):
  bh g (n-p) ((h,0,0) :: S) p=Lb g n S (Pe g least p):=by
 by_cases hn:p=n
 .subst hn
  grind [Pe,N6,Lb]
 grind [Pe,FW,KD,Lb,Ls]
theorem SK(c:p<=n)(h:k=0\/(g p≠41/\k≠6)):
  bh g (n-p) ((5,k,L) :: S) p=bh g (n-p) ((1,0,L) :: (5,k+1,L) :: S) p:=by
 by_cases hn:p=n
 .subst hn;rw[N6,N6]
 .have a:p<n:=U;have b:=VS (S:=S) (L:=L) h;cases hx:FW ((5,k,L) :: S) (g p) with
  |none=>rw[Ls a hx,Ls a (b ▸ hx)]
  |some S'=>rw[KD a hx,KD a (b ▸ hx)]
def bF(g:Nat->Nat)(n f:Nat):Prop:=∀(p k L:Nat) (S:List (Nat×Nat×Nat)),p<=n->n-p<f->bh g (n-p) ((1,k,L) :: S) p=Lb g n S (ty g f p)
theorem QV(i:∀p,n<=p->g p=0)(c:Agree g n f)(d:bF g n f):∀(j p k L:Nat) (S:List (Nat×Nat×Nat)),k+j=6->1<=k->p<=n->n-p<f ->
  bh g (n-p) ((5,k,L) :: S) p=Lb g n S (LV (ty g f) g j p):=by
 have close:∀(p k L:Nat) (S:List (Nat×Nat×Nat)),1<=k->p<=n->g p=41->bh g (n-p) ((5,k,L) :: S) p=Lb g n S (true,p+1):=by grind [FW,KD,Lb]
 intro j;induction j with
 |zero=>grind [LV,N6,Lb,Ls,FW]
 |succ j ih=>
  intro p k L S hk e a b;by_cases hc:g p=41
  .grind [LV]
  .rw[SK a (Am ⟨hc,U⟩),d p 0 L ((5,k+1,L) :: S) a b];have⟨_,h,_⟩:=c p 0 L 0 [] a b
   grind [LV,Lb]
theorem acN(i:∀p,n<=p->g p=0):∀f,bF g n f:=by
 intro f;induction f with
 |zero=>intro p k L S t s;omega
 |succ f ih=>
  intro p k L S t s;by_cases hn:p=n
  .subst hn;have r:=i p (Ar _);have e:ty g (f+1) p=(false,p):=by simp[ty,r,FI]
   rw[e,N6];simp[Lb]
  have c:p<n:=U;cases hl:FI (g p) with
  |true=>grind [ty,Lb,IU,EX,KD,Pe,WN,Qt,LV,Nat.lt_or_ge,SK,agree,QV,Ls]
  |false=>
  by_cases m:g p=101
  .have e:ty g (f+1) p=Pe g 1 (p+1):=by simp[ty,m,FI]
   have b:FW ((1,k,L) :: S) (g p)=some ((2,0,0) :: S):=by rw[IU];simp[EX,m,FI]
   rw[e,KD c b,WN i (show p+1<=n by omega) (Aj ⟨I,I⟩)]
  by_cases ha:g p=97\/g p=113
  .obtain⟨h,a,q,b,d⟩:∃h a,((h=2/\a=1)\/(h=3/\a=0))/\FW ((1,k,L) :: S) (g p)=some ((h,0,0) :: (1,0,L+1) :: S)/\ty g (f+1) p=(if (Pe g a (p+1)).1 then ty g f (p+2) else (false,p+1)):=by
    exact afJ
   have⟨_,d2,d3⟩:=Qt (S:=S) (D:=0) i (show p+1<=n by omega) q;rw[KD c b,WN i (show p+1<=n by omega) q,d]
   grind [bF,ty,FI,N6,Lb,FW,IU,EX,KD,Pe,WN,Qt,LV,Nat.lt_or_ge,SK,agree,QV,Ls]
  by_cases u:g p=114\/g p=117
  .have n1:¬g p=97:=U;have n2:¬g p=113:=U;have b:FW ((1,k,L) :: S) (g p)=some ((4,0,0) :: (5,0,L+1) :: S):=by grind [IU,EX]
   have d:ty g (f+1) p=(if g (p+1)=40 then (if (ty g f (p+2)).1 then LV (ty g f) g 5 (ty g f (p+2)).2 else (false,(ty g f (p+2)).2)) else (false,p+1)):=by
    simp[ty,hl,m,n1,n2,u]
   rw[KD c b,d];by_cases l:g (p+1)=40
   .have j:p+1<n:=by grind
    rw[Ay l,KD j (show FW ((4,0,0) :: (5,0,L+1) :: S) (g (p+1))=some ((5,0,L+1) :: S) by simp[FW,l]),show p+1+1=p+2 from rfl,SK U (Aj I),ih (p+2) 0 (L+1) _ U U];have⟨_,v,_⟩:=agree i f (p+2) 0 1 0 [] U U
    grind [ty,Lb,QV,agree]
   .rw[Ao l];by_cases o:p+1=n
    .rw[o,N6];simp[Lb]
    grind [Ls,FW,Lb]
  grind [ty,FW,IU,EX,Ls,Lb]
theorem kU(b:∀p,n<=p->g p=0)(c:p<=n)(a:n-p<f):bh g (n-p) [(1,0,1)] p=(ty g f p).2:=by
 rw[acN b f p 0 1 [] c a];unfold Lb;split
 .exact qN
 .rfl
def chain(T:Nat->Bool×Nat)(g:Nat->Nat):Nat->List Nat->Nat->Prop
 |start,[],c=>start=c/\g c=41
 |start,k :: r,c=>start=k/\g k≠41/\(T k).1=true/\chain T g (T k).2 r c
theorem Yv{T:Nat->Bool×Nat}:∀j p,(LV T g j p).1=true->chain T g p (I7 T g j p) ((LV T g j p).2-1)/\1<=(LV T g j p).2:=by
 intro j;induction j with
 |zero=>grind [LV,I7,chain]
 |succ j ih=>grind [LV,I7,chain]
end V.Pt
namespace V
open Go.Proofs.Tryz RowKit
variable {S s:ByteArray}{k0 k1 ks outs:List Bool}{qs:List Nat}{b c f i k p q res:Nat}{g:Nat→Nat}{O v':Value}{w w' w0 w2 wr:World}
theorem TQ(s:Ab)(p:Nat)(w:Aa)(a:p<s)(hd:48<=nx s p):
  D7 258 #[.string s,Z p] w (Z ((nx s p:Int)-48)) λb=>b=w:=by
 have c:=jU s p;rw[Gd a]at *
 delta D7
 go_in
 go_wp2
 go_ret
 exact DN
structure BInv(s:Ab)(w:Aa)(res p:Nat)(S:List Want)(v:Ad)(wr:Aa):Prop where
 le:p<=s.size
 Gs:SG wr w.heap.size v S
 len:S.length<=2*p+1
 all:∀x∈S,okW (p+1) x
 h:Below w.heap.size w wr
 run:Pt.bh (nx s) (s.size-p) S p=res
theorem cH(s:Ab)(w:Aa)(p:Nat)(a:p<=s):BInv s w (Pt.bh (nx s) (s-p) [(1,0,1)] p) p [(1,0,1)] (EJ w 1 1) (w.alloc (.cells #[Z 1,Z 0,Z 1] 265)):=by
 refine⟨a,XV w _ I (Ar _) I (by simp[GV,wc]) U,Ev,?_,F9,I⟩;intro x b
 grind [okW]
theorem kW{S S':List Want}{v:Ad}(a:BInv s w res p S v wr)(e:p<s)(d:Pt.FW S (nx s p)=S')(c:DY wr w2)(g:SG w2 wr v' S'):
  BInv s w res (p+1) S' v' w2:=by
 have⟨h,f⟩:=T7 a.all d;have b:=a.h.size;have hl:=a.len;refine⟨e,NA g b,U,f,a.h.trans (c.mono b),?_⟩;rw[<-Pt.KD e d];exact a.run
theorem kT(s:Ab)(p:Nat)(w:Aa)(C:p<=s)(O:s.size<=40):
  D7 259 #[.string s,Z p] w (Z (Pt.bh (nx s) (s-p) [(1,0,1)] p)) (DY w):=by
 have A:=Dx (cH s w p C);generalize Pt.bh (nx s) (s.size-p) [(1,0,1)] p=res at *
 delta D7
 go_in
 go_wp2;go_loopw [1,5] (λi v wr=>∃(p:Nat) (S:List Want),i=Z p/\BInv s w res p S v wr) (λi _ _=>s.size-(intOf i).toNat)
 case atStart=>exact⟨p,_,I,A⟩
 case round=>
  obtain⟨p,S,rfl,l⟩:=hrel;clear A C;have K:=l.le;have g:=l.len;have k:=l.h;have d:∀x∈S,1<=x.1/\x.1<=5/\x.2.1<=6/\x.2.2<=1000:=λx L=>by
   have:=l.all x L;unfold okW at this;omega
  have t:=Dx l;have c:=l.Gs;have b:=l.run;clear l;match S,t,c,g,d,b with
  |[],t,c,g,d,b=>
   obtain⟨a,cap,rfl⟩:∃a cap,u5=.slice a 0 cap:=by
    have⟨_,h⟩:=c;exact wD
   obtain rfl:p=res:=by rw[<-b,Pt.qN]
   clear c b g d;go_wp2
   go_ret
   exact⟨I,k⟩
  |x :: R,t,c,g,d,b=>
   obtain⟨gb,cap,rfl,B,H,_,E,F,G⟩:=Qx c;clear E F G;simp only[A4]at g;by_cases o:p<s.size
   .have z:=Dx (Gd o);have r:=Dx (YZ (x :: R) _ (s[p]).toNat wr (NA c (AV _)) Fy d);have f:=Dx b;clear c d b;cases hg:Pt.FW (x :: R) (s[p]).toNat with
    |none=>
     obtain rfl:p=res:=by rw[<-Dw f,Pt.Ls o (by rw[Dw z];exact hg)]
     have n:Hid (ET 174 #[EJ gb (R.length+1) cap,.int .u8 (s[p]).toNat] wr λe q=>∃v,e=.returned (.tuple #[v,DI])/\DY wr q):=by
      refine r.mono ?_;rintro e q ⟨y,rfl,u,_⟩;rw[hg];exact⟨y,I,u⟩
     clear r hg f;go_wp2_with fail
     refine n.mono ?_;rintro e N ⟨M,rfl,j⟩;go_wp2
     go_ret
     exact⟨I,k.trans (j.mono k.size)⟩
    |some S'=>
     have n:Hid (ET 174 #[EJ gb (R.length+1) cap,.int .u8 (s[p]).toNat] wr λe q=>∃v,e=.returned (.tuple #[v,DC])/\DY wr q/\SG q wr.heap.size v S'):=by
      refine r.mono ?_;rintro e q ⟨y,rfl,u,c⟩;rw[hg];exact⟨y,I,u,c S' hg⟩
     have D:Hid (Pt.FW (x :: R) (nx s p)=some S'):=by rw[Dw z];exact hg
     clear r hg f;go_wp2_with fail
     refine n.mono ?_;rintro e N ⟨M,rfl,j,m⟩;have J:=Dx (kW t o D j m);clear j m;go_wp2;go_roundw
     case rel=>exact⟨p+1,_,Kc,J⟩
     case measure=>exact Kt
   .obtain rfl:p=s.size:=U;obtain rfl:s.size=res:=by rw[<-b,Pt.N6]
    clear c b d;go_wp2
    go_ret
    exact⟨I,k⟩
theorem cF(s:Ab)(f p:Nat)(w:Aa)(a:p<=s)(b:s.size<=40)(c:s-p<f):
  D7 259 #[.string s,Z p] w (Z (Pt.ty (nx s) f p).2) (DY w):=by
 have h:=kT s p w a b
 grind [Pt.kU,Ot]
def Gj(ks:List Nat)(k:Int):Nat:=if 0<=k then (ks[k.toNat]?).getD ks else ks
structure N4(s:Ab)(f p:Nat):Prop where
 le:p<=s.size
 fuel:s.size-p<f
 ok:(Pt.ty (nx s) f p).1=true
theorem N4.ends(h:N4 s f p):p<(Pt.ty (nx s) f p).2/\(Pt.ty (nx s) f p).2<=s:=by
 have⟨_,a,_⟩:=Pt.agree (g:=nx s) (n:=s.size) (λp b=>Ot b) f p 0 1 0 [] h.le h.fuel;exact a h.ok
theorem N4.lt(h:N4 s f p):p<s:=by
 have:=h.ends;omega
theorem qW:∀(d:List Nat) (b c:Nat),Pt.chain (Pt.ty (nx s) f) (nx s) b d c->b<=s->s-b<f->∀k∈d,b<=k/\N4 s f k:=by
 intro d;induction d with
 |nil=>intro b c _ _ _ k hk;cases hk
 |cons a d ih=>grind [Pt.chain,N4,V.N4.ends]
structure WH(s:Ab)(f p:Nat):Prop where
 here:nx s p=114\/nx s p=117
 ok:N4 s (f+1) p
theorem WH.chain(h:WH s f p):p+2<=s/\s-(p+2)<f/\∃c,Pt.chain (Pt.ty (nx s) f) (nx s) (p+2) (Pt.EW (nx s) f p) c:=by
 have m:=h.ok.lt;have k:=h.ok.fuel;have n1:¬nx s p=97:=by have:=h.here;omega
 have n2:¬nx s p=113:=by have:=h.here;omega
 have n3:¬nx s p=101:=by have:=h.here;omega
 have n4:Pt.FI (nx s p)=false:=Pt.mj (by have:=h.here;omega);have a:=h.ok.ok;have g:Pt.ty (nx s) (f+1) p=(if nx s (p+1)=40 then (if (Pt.ty (nx s) f (p+2)).1 then Pt.LV (Pt.ty (nx s) f) (nx s) 5 (Pt.ty (nx s) f (p+2)).2 else (false,(Pt.ty (nx s) f (p+2)).2)) else (false,p+1)):=by grind [Pt.ty]
 rw[g]at a;have d:Pt.EW (nx s) f p=(p+2) :: Pt.I7 (Pt.ty (nx s) f) (nx s) 5 (Pt.ty (nx s) f (p+2)).2:=by simp[Pt.EW,n1,n2,h.here]
 by_cases b:nx s (p+1)=40
 .have i:=QW b U;rw[Ay b]at a;cases hx:(Pt.ty (nx s) f (p+2)).1 with
  |false=>rw[hx]at a;simp at a
  |true=>
   rw[hx,Ay rfl]at a;have e:N4 s f (p+2):=⟨U,U,hx⟩;have l:=e.lt;refine⟨U,U,(Pt.LV (Pt.ty (nx s) f) (nx s) 5 (Pt.ty (nx s) f (p+2)).2).2-1,?_⟩;rw[d];refine⟨I,?_,hx,(Pt.Yv 5 _ a).1⟩;intro j;cases f with
   |zero=>omega
   |succ f=>grind [Pt.ty,Pt.FI]
 grind
theorem M7(s:Ab)(f p:Nat)k(w:Aa)(h:WH s f p)(hs:s.size<=40)(T:-1<=k)(W:k<=1000):
  D7 233 #[.string s,Z p,Z k] w (Z (Gj (Pt.EW (nx s) f p) k)) (DY w):=by
 have⟨C,z,c,v⟩:=h.chain;have X:=Jj (nx s) f p;generalize Pt.EW (nx s) f p=ks at *;have⟨l,m⟩:=FU v z;clear v h z
 delta D7
 go_in
 go_wp2;go_loopw [1,7] (λa n wr=>∃(j b:Nat) (rest:List Nat),a=Z b/\n=Z j/\b<=s.size/\s.size-b<f/\j+rest.length=ks.length/\Hid (ks.drop j=rest/\Pt.chain (Pt.ty (nx s) f) (nx s) b rest c)/\¬(0<=k/\k<j)/\DY w wr) (λ_ n _=>7-(intOf n).toNat)
 case atStart=>exact⟨0,p+2,ks,Kc,I,C,m,U,⟨I,l⟩,U,AA _ _⟩
 case round=>
  obtain⟨j,b,rest,rfl,rfl,B,A,d,i,aa,t⟩:=hrel;clear l m C;match rest,d,i with
  |[],d,i=>
   obtain⟨rfl,hc⟩:=i.2;have J:=QW hc U;have K:((((s[b]).toNat:Nat):Int) != 41)=false:=by rw[<-Gd J,hc];rfl
   simp only[List.length_nil,Cz]at d;go_wp2
   go_ret
   have e:Gj ks k=j:=by
    unfold Gj;split
    .rw[BM U];simpa using d.symm
    .exact d.symm
   exact⟨by rw[e];rfl,t⟩
  |q :: r,d,i=>
   obtain⟨hd,rfl,E,O,S⟩:=Dw i;have P:N4 s f b:=⟨B,A,O⟩;have G:=P.ends;have K:((((s[b]).toNat:Nat):Int) != 41)=true:=by rw[<-Gd P.lt];simp;omega
   simp only[A4]at d;have hj:j<ks.length:=U;have x:ks[j]?=some b:=by
    have N:(ks.drop j)[0]?=some b:=by rw[hd];rfl
    rw[Cn]at N;simpa using N
   have y:ks.drop (j+1)=r:=by
    rw[<-CF,hd];rfl
   have⟨M,D⟩:=FU (And.intro y S) x;clear i hd S O E y x;by_cases g:(j:Int)=k
   .have H:((j:Int)==k)=true:=by simpa using g
    have o:=Dx g;clear g;go_wp2
    go_ret
    have e:Gj ks k=b:=by
     unfold Gj;rw[Ay (by have:=Dw o;omega),show k.toNat=j by have:=Dw o;omega,Dw D];rfl
    exact⟨by rw[e];rfl,t⟩
   .have H:((j:Int)==k)=false:=by simpa using g
    have L:=Dx (λw=>cF s f b w B hs A);obtain⟨q,Q⟩:∃q,q=(Pt.ty (nx s) f b).2:=DR;rw[<-Q]at L G M;clear Q;go_wp2_with fail
    refine cm (L _) λw2 u=>?_
    have F:=t.trans (u.mono t.size);clear u t;go_wp2;go_roundw
    case rel=>exact⟨j+1,q,r,I,Kc,U,U,U,M,U,F⟩
    case measure=>exact Kt
theorem J2(h:N4 s (f+1) p):
  (nx s p=98\/nx s p=99\/nx s p=105\/nx s p=115)\/(nx s p=101/\p+1<s/\49<=nx s (p+1)/\nx s (p+1)<=57) \/
  (nx s p=97/\p+1<s/\49<=nx s (p+1)/\nx s (p+1)<=57/\N4 s f (p+2))\/(nx s p=113/\p+1<s/\48<=nx s (p+1)/\nx s (p+1)<=57/\N4 s f (p+2))\/WH s f p:=by
 have c:=h.lt;have a:=h.fuel;have d:=h.ok;by_cases hl:nx s p=98\/nx s p=99\/nx s p=105\/nx s p=115
 .exact Aj hl
 have b:Pt.FI (nx s p)=false:=by simp[Pt.FI];omega
 by_cases g:nx s p=101
 .all_goals grind [Pt.ty,nx,Pt.Pe]
 by_cases e:nx s p=97;all_goals grind [N4,nx,WH,Pt.ty,Pt.Pe]
theorem JQ(h:WH s f p):∀q∈Pt.EW (nx s) f p,p<q/\N4 s f q:=by
 have⟨a,b,c,hc⟩:=h.chain;intro q d;have:=qW _ _ _ hc a b q d;exact⟨U,this.2⟩
theorem G0(a:p<s)(h:nx s p=c):((s[p]).toNat:Int)=c:=by rw[<-Gd a,h]
def FZ(c:Nat):Int:=if c=105 then -32768 else 0
def FD(g:Nat->Nat)(f p:Nat):Int:=
 if g p=98 then 1 else if g p=99 then 65535 else if g p=105 then 32767 else if g p=101 then (g (p+1):Int)-48-1 else if g p=113 then (g (p+1):Int)-48 else ((Pt.EW g f p):Int)-1
theorem Xl(s:Ab)(p:Nat)(w:Aa)(c:p+1<s)(a:nx s p=97)(hd:48<=nx s (p+1))(e:s.size<=40):
  D7 230 #[.string s,Z p] w (Z ((nx s (p+1):Int)-48)) (DY w):=by
 have b:=Dx (λw=>TQ s (p+1) w c hd);have d:((((s[p]).toNat:Nat):Int)==97)=true:=by rw[G0 U a];rfl
 clear hd a
 delta D7
 go_in
 go_wp2_with fail
 refine cs (b _) ?_;go_wp2
 go_ret
 exact⟨I,AA _ _⟩
theorem Xm(s:Ab)(f p:Nat)(w:Aa)(h:WH s f p)(b:s.size<=40):
  D7 230 #[.string s,Z p] w (Z ((Pt.EW (nx s) f p):Int)) (DY w):=by
 have a:=h.ok.lt;have HD:=Dx (λw=>M7 s f p (-1) w h b U U);have c:((((s[p]).toNat:Nat):Int)==97)=false:=by rw[<-Gd a];have:=h.here;simp;omega
 rw[show Gj (Pt.EW (nx s) f p) (-1)=(Pt.EW (nx s) f p).length from rfl]at HD;clear h
 delta D7
 go_in
 exact acA
theorem U5(s:Ab)(p k:Nat)(w:Aa)(c:p<s)(a:nx s p=97)(d:s.size<=40):
  D7 231 #[.string s,Z p,Z k] w (Z (p+2)) (DY w):=by
 have b:((((s[p]).toNat:Nat):Int)==97)=true:=by rw[G0 U a];rfl
 clear a
 delta D7
 go_in
 go_wp2
 go_ret
 exact⟨I,AA _ _⟩
theorem aX(s:Ab)(f p k:Nat)(w:Aa)(h:WH s f p)(b:s.size<=40)(hk:k<=100):
  D7 231 #[.string s,Z p,Z k] w (Z (Gj (Pt.EW (nx s) f p) k)) (DY w):=by
 have a:=h.ok.lt;have HD:=Dx (λw=>M7 s f p k w h b U U);have c:((((s[p]).toNat:Nat):Int)==97)=false:=by rw[<-Gd a];have:=h.here;simp;omega
 clear h
 delta D7
 go_in
 exact acA
theorem zB(s:Ab)(f p:Nat)(w:Aa)(hp:p<s)(hc:nx s p=98):
  D7 232 #[.string s,Z p] w (.tuple #[Z (FZ (nx s p)),Z (FD (nx s) f p)]) (DY w):=by
 have e1:FZ (nx s p)=0:=by rw[hc];rfl
 have e2:FD (nx s) f p=1:=by simp[FD,hc]
 exact adW
theorem zC(s:Ab)(f p:Nat)(w:Aa)(hp:p<s)(hc:nx s p=99):
  D7 232 #[.string s,Z p] w (.tuple #[Z (FZ (nx s p)),Z (FD (nx s) f p)]) (DY w):=by
 have e1:FZ (nx s p)=0:=by rw[hc];rfl
 have e2:FD (nx s) f p=65535:=by simp[FD,hc]
 exact adW
theorem tK(s:Ab)(f p:Nat)(w:Aa)(hp:p<s)(hc:nx s p=105):
  D7 232 #[.string s,Z p] w (.tuple #[Z (FZ (nx s p)),Z (FD (nx s) f p)]) (DY w):=by
 have e1:FZ (nx s p)=-32768:=by rw[hc];rfl
 have e2:FD (nx s) f p=32767:=by simp[FD,hc]
 exact adW
theorem tJ(s:Ab)(f p:Nat)(w:Aa)(a:p+1<s)(b:s.size<=40)(hc:nx s p=101)(hd:48<=nx s (p+1)):
  D7 232 #[.string s,Z p] w (.tuple #[Z (FZ (nx s p)),Z (FD (nx s) f p)]) (DY w):=by
 have HD:=Dx (λw=>TQ s (p+1) w a hd);have c:=jU s (p+1);have e1:FZ (nx s p)=0:=by rw[hc];rfl
 have e2:FD (nx s) f p=(nx s (p+1):Int)-48-1:=by simp[FD,hc]
 exact abt
theorem tL(s:Ab)(f p:Nat)(w:Aa)(a:p+1<s)(b:s.size<=40)(hc:nx s p=113)(hd:48<=nx s (p+1)):
  D7 232 #[.string s,Z p] w (.tuple #[Z (FZ (nx s p)),Z (FD (nx s) f p)]) (DY w):=by
 have HD:=Dx (λw=>TQ s (p+1) w a hd);have c:=jU s (p+1);have e1:FZ (nx s p)=0:=by rw[hc];rfl
 have e2:FD (nx s) f p=(nx s (p+1):Int)-48:=by simp[FD,hc]
 exact abt
theorem adi(s:Ab)(f p:Nat)(w:Aa)(h:WH s f p)(c:s.size<=40)(hc:nx s p=117):
  D7 232 #[.string s,Z p] w (.tuple #[Z (FZ (nx s p)),Z (FD (nx s) f p)]) (DY w):=by
 have g:=h.ok.lt;have b:=Dx (λw=>M7 s f p (-1) w h c U U);rw[show Gj (Pt.EW (nx s) f p) (-1)=(Pt.EW (nx s) f p).length from rfl]at b;have e1:FZ (nx s p)=0:=by rw[hc];rfl
 have e2:FD (nx s) f p=((Pt.EW (nx s) f p).length:Int)-1:=by simp[FD,hc]
 have i:=Jj (nx s) f p;rw[e1,e2];have e:=G0 U hc;generalize (Pt.EW (nx s) f p).length=d at *;clear h
 delta D7
 go_in
 go_wp2_with fail
 refine cm (b _) λj a=>?_
 go_wp2
 go_ret2
 exact⟨I,a⟩
abbrev It:=Int×ByteArray
abbrev GB:=Option (List Bool×List It)
def EO(g:Nat->Nat)(f p:Nat)(v:List It):Option (List Bool×List Nat×List It):=
 if g p=97 then some ([],List.replicate (g (p+1)-48) (p+2),v)
 else if g p=114 then some ([],Pt.EW g f p,v)
 else match v with
  |[]=>none
  |x :: r=>
   if g p=115 then (if x.1=0/\x.2.size<=14 then some ([true],[],r) else none)
   else if x.2.size=0/\FZ (g p)<=x.1/\x.1<=FD g f p then
    some ([false],(if g p=117 then [Gj (Pt.EW g f p) x.1] else if g p=113 then List.replicate x.1.toNat (p+2) else []),r)
   else none
def Gu(k0:List Bool):GB->GB
 |none=>none
 |some (k,r)=>some (k0++k,r)
def E6(E:Nat->List It->GB):List Nat->List It->GB
 |[],v=>some ([],v)
 |q :: qs,v=>match E q v with
  |none=>none
  |some (k,r)=>Gu k (E6 E qs r)
def Hg(g:Nat->Nat):Nat->Nat->List It->GB
 |0,_,_=>none
 |f+1,p,v=>match EO g f p v with
  |none=>none
  |some (k0,qs,r)=>Gu k0 (E6 (Hg g f) qs r)
theorem KU(e:GB):Gu [] e=e:=by
 cases e with
 |none=>rfl
 |some e=>rfl
theorem OU(E:Nat->List It->GB):∀(qs:List Nat) (q:Nat) (v:List It),E6 E (qs++[q]) v=match E6 E qs v with
  |none=>none
  |some (k,r)=>Gu k (E q r):=by
 intro qs;induction qs with
 |nil=>grind [E6,Gu]
 |cons a qs ih=>
  intro q v;simp only[BB,E6];cases E a v with
  |none=>rfl
  |some e=>
   have⟨k,r⟩:=e;simp only[ih];cases E6 E qs r with
   |none=>rfl
   |some e'=>
    have⟨c,b⟩:=e';simp only[Gu];cases E q b with
    |none=>rfl
    |some e''=>simp
theorem Re(E:Nat->List It->GB){v:List It}{k:Nat}(h:E6 E (qs.take k) v=none):E6 E qs v=none:=by
 revert v k
 induction qs with
 |nil=>intro v k h;simp[E6]at h
 |cons a qs ih=>
  intro v k h;cases k with
  |zero=>simp[E6]at h
  |succ k=>
   simp only[List.take_succ_cons,E6]at h ⊢;cases hE:E a v with
   |none=>rfl
   |some e=>
    have⟨b,r⟩:=e;rw[hE]at h;simp only at h ⊢;cases hs:E6 E (qs.take k) r with
    |none=>rw[ih hs];rfl
    |some e'=>rw[hs]at h;simp[Gu]at h
def Mk(E:List It->GB):Prop:=∀v ks r,E v=some (ks,r)->r=v.drop ks/\ks<=v.length
theorem Mc{E:Nat->List It->GB}:∀b,(∀q∈b,Mk (E q))->Mk (E6 E b):=by
 intro b;induction b with
 |nil=>intro _ v f r h;simp[E6]at h;obtain⟨rfl,rfl⟩:=h;simp
 |cons a b ih=>
  intro d v f r h;simp only[E6]at h;cases ha:E a v with
  |none=>rw[ha]at h;cases h
  |some e=>
   have⟨k,c⟩:=e;rw[ha]at h;simp only at h;have⟨g,i⟩:=d a Ev v k c ha;cases hs:E6 E b c with
   |none=>rw[hs]at h;cases h
   |some e'=>grind [Mk,Gu,List.drop_drop]
theorem Qe{v:List It}{r:List It}(h:EO g f p v=(k0,qs,r)):r=v.drop k0/\k0<=v.length:=by
 unfold EO at h
 grind
theorem Hs(g:Nat->Nat):∀f p,Mk (Hg g f p):=by
 intro f;induction f with
 |zero=>intro p v k r h;cases h
 |succ f ih=>
  intro p v k r h;simp only[Hg]at h;cases hh:EO g f p v with
  |none=>rw[hh]at h;cases h
  |some e=>
   have⟨k0,a,b⟩:=e;rw[hh]at h;simp only at h;have⟨c,m⟩:=Qe hh;cases hs:E6 (Hg g f) a b with
   |none=>rw[hs]at h;cases h
   |some e'=>
    have⟨j,l⟩:=e';rw[hs]at h;simp only[Gu,Option.some.injEq,Prod.mk.injEq]at h;obtain⟨rfl,rfl⟩:=h;have⟨d,i⟩:=Mc a (λq _=>ih q) b j l hs;subst c;rw[A9]at i;refine⟨?_,Fy⟩;rw[d,CF,AJ]
def Ff(w:Aa)(V:Ad)(v:List It):Prop:=∃a cap,V=.slice a v cap/\v<=cap/\(v=[]\/∃b off,a=Y b off/\b<w/\∀j x,v[j]?=some x->w.cell? (Y b (off+j*2))=Z x.1/\w.cell? (Y b (off+j*2+1))=some (.string x.2))
theorem Ff.h{V:Ad}{v:List It}(h:Ff w V v)(c:DY w w'):Ff w' V v:=by
 have⟨a,cap,f,hc,h⟩:=h;refine⟨a,cap,f,hc,?_⟩;rcases h with h|⟨b,off,g,hl,k⟩
 .exact Aj h
 .refine Am ⟨b,off,g,Ai hl c.size,λj x i=>?_⟩;have⟨d,e⟩:=k j x i;exact⟨(c.cell (p:=Y b _) hl).trans d,(c.cell (p:=Y b _) hl).trans e⟩
theorem Ff.at{V:Ad}{v:List It}(h:Ff w V v){x:It}(hi:v[i]?=x):∃b off cap,V=.slice (Y b off) v cap/\b<w/\EB w b (off+i*2) (Z x.1)/\EB w b (off+i*2+1) (.string x.2):=by grind [Ff]
def vI(i:Nat):GB->Int
 |none=>-1
 |some (ks,_)=>(i:Int)+(ks.length:Int)
def VC(s:Ab)(V:Ad)(v:List It)(f:Nat):Prop:=∀(p i:Nat) (w:Aa),N4 s f p->i<=v->Ff w V v ->
 Calls prog 228 #[.string s,Z p,V,Z i] w λe w'=>e=.returned (Z (vI i (Hg (nx s) f p (v.drop i))))/\Below w w w'
abbrev Gk(n q:Nat):Value:=.agg #[Z n,Z q]
abbrev EQ(n q:Nat):Ending:=.panicked [{v:=.iface 161 (Gk n q),recovered:=false}]
theorem qK{v:Aa}(hk:DF b (w.alloc IZ) v)(a:w<=b):DY w v:=
 ((AA _ _).alloc (Ar _) IZ).trans ⟨hk.os,hk.tape,hk.output,hk.size,λk h=>hk.block k Fy U⟩
theorem adp(s:Ab)(a:s.size<=40)(w:Aa):ET 221 #[.pointer (DG w 0)] ((w.alloc IZ).alloc (.cells #[.string s,Z 0] 294)) (Ja (w+1) s (s+1) 0 ((w.alloc IZ).alloc (.cells #[.string s,Z 0] 294))):=by
 have h:At ((w.alloc IZ).alloc (.cells #[.string s,Z 0] 294)) (w.alloc IZ).heap.size s 0:=by
  show ((w.alloc IZ).heap.push _)[(zz (w.alloc IZ))]?=_;rw[Bz];rfl
 have e:(w.alloc IZ).heap.size=zz w+1:=Ev;rw[e]at h;exact jX (w.heap.size+1) s a (s.size+1) 0 _ h U U
theorem uO(s:Ab)(w:Aa)(P:s.size<=40)(F:(Pt.ty (nx s) (s+1) 0).1=true)(K:(Pt.ty (nx s) (s+1) 0).2=s)(h4:¬4<Pt.Lj (nx s) (s+1) 0):
  ET 173 #[.string s] w λe q=>(∃c0 c1 c2,e=.returned (.agg #[c0,c1,c2])/\NP q (λk=>w<=k) (nx s) (s+1) 0 c0 c1 c2)/\DY w q:=by
 have H:=adp s P w;unfold Ja at H;simp only[F,CQ,K]at H;clear F K;have E:=λS c0 c1 c2 q h=>lJ (nx s) (s.size+1) U 0 S c0 c1 c2 q h
 generalize hd:Pt.Lj (nx s) (s.size+1) 0=d at *;have J:d<=41:=by have:=dA (nx s) (s.size+1) 0;omega
 have L:=Dx E;clear E hd;have N:¬(4:Int)<d:=U
 delta ET
 go_in
 go_wp2_with fail
 refine H.mono ?_;rintro e i ⟨c0,c1,c2,rfl,hk,G,u⟩;clear H;obtain⟨⟨g,rfl⟩,⟨x1,rfl⟩,⟨b,f,c,rfl⟩⟩:=GN u;have hp:=λo=>(G.alloc o).place
 have m:=((DF.refl (w.heap.size+1) (w.alloc IZ)).alloc _).trans hk;have r:=((NZ.new w (.int .u8 0) (Z 0) (.slice none 0 0)).H m U).alloc (.cells #[.int .u8 g,Z x1,.slice b f c] 262);have D:=NZ.new i (.int .u8 g) (Z x1) (.slice b f c);have O:=r.lt;have Q:=G.lt;have C:=Dx u;clear u;go_wp2_with fail
 refine cm (L _ _ _ _ _ (GM ((Hq.refl _ _).alloc _) C)) λy a=>?_
 have j:∀k o,k<i.heap.size+1->y.cell? (Y k o)=(i.alloc (.cells #[.int .u8 g,Z x1,.slice b f c] 262)).cell? (Y k o):=λk o hk=>a.cell (p:=Y k o) (by simpa using hk)
 have l:∀k o,k<i.heap.size+1->y.frozen? (Y k o)=(i.alloc (.cells #[.int .u8 g,Z x1,.slice b f c] 262)).frozen? (Y k o):=λk o hk=>a.frozen (p:=Y k o) (by simpa using hk)
 obtain⟨u0,u1,u2,T,W,X⟩:=r.facts;obtain⟨z,A,B,y0,y1,y2⟩:=D.facts;rw[<-j _ _ U]at u0 u1 u2 z A B;rw[<-l _ _ U]at T W X y0 y1 y2;clear j l r D;go_wp2;have x:=a.size;have n:=hk.size;simp at x n;refine Bm (v:=.agg #[.int .u8 g,Z x1,.slice b f c]) (by simp[results,results173,go_sem,u0,u1,u2]) I ⟨⟨_,_,_,I,?_⟩,?_⟩
 .have t:NP i (λk=>w.heap.size+2<=k) (nx s) (s.size+1) 0 (.int .u8 g) (Z x1) (.slice b f c):=by simpa using Dw C
  have M:=GM (((Hq.refl _ _).alloc (.cells #[.int .u8 g,Z x1,.slice b f c] 262)).trans (⟨a.size,λk _ hl=>a.block k hl⟩:Hq (λk=>w.heap.size+2<=k) _ y)) t;refine Ke (λk hk _=>by omega) (GM ?_ M);exact(((Hq.refl _ _).setCell Ev _).setCell Ev _).setCell Ev _
 .have t:=(qK (m.alloc (.cells #[.int .u8 g,Z x1,.slice b f c] 262)) U).trans (a.mono Fy);exact((t.setCell Ev _).setCell Ev _).setCell Ev _
theorem PU(n q:Nat)(w:Aa):(Instr.typeAssert (.iface 161 (Gk n q)) 20 161 true).run prog w=.ok (.tuple #[Gk n q,DC]) w:=EL
theorem Px(n q:Nat)(w:Aa):
  D7 87 #[.iface 161 (Gk n q)] w (Gk n q) (DY w):=by
 exact abA
theorem Pw(a b:Addr)(w:Aa):
  CallsD prog 172 #[.pointer (a),.pointer (b)] .returning w λe c d=>e=.returned Ep/\c=.returning/\d=w:=by
 refine callsD_of_wpS func172 I λc₀ cs hu=>?_
 apply wpS_seq;apply wpS_region;simp[wpOpsS,go_sem,recoverD,hu,ntmps172,Exit.thenS];rw[show (#[Value.pointer (some a),Value.pointer (some b)]++((Array.replicate 11 undef).setIfInBounds 2 (Value.nilIface)).setIfInBounds 0 (Value.nilIface))=#[.pointer (some a),.pointer (some b),.nilIface,undef,.nilIface,undef,undef,undef,undef,undef,undef,undef,undef] from rfl];exact adV
theorem X4(i:Nat)(c:List Bool)(e:GB):vI i (Gu c e)=vI (i+c) e:=by
 cases e with
 |none=>rfl
 |some e=>obtain⟨a,b⟩:=e;simp only[Gu,vI,AJ];omega
theorem yj(s:Ab)(p n i b off cap:Nat)N(S:Ab)(w:Aa)(hp:p<s)(hi:i<n)(hn:n<=9000000000000)(a:EB w b (off+i*2) (Z N))(c:EB w b (off+i*2+1) (.string S))(hc:nx s p=115)(d:(N != 0)=false)(e:¬14<(S:Int)):
  D7 257 #[.string s,Z p,.slice (Y b off) n cap,Z i] w (Z (i+1)) (DY w):=by
 exact adT
theorem qB(s:Ab)(p n i b off cap:Nat)N(S:Ab)(w:Aa)(hp:p<s)(hi:i<n)(hn:n<=9000000000000)(a:EB w b (off+i*2) (Z N))(c:EB w b (off+i*2+1) (.string S))(hc:nx s p=115)(d:(N != 0)=true):
  D7 257 #[.string s,Z p,.slice (Y b off) n cap,Z i] w (Z (-1)) (DY w):=by
 exact adT
theorem qC(s:Ab)(p n i b off cap:Nat)N(S:Ab)(w:Aa)(hp:p<s)(hi:i<n)(hn:n<=9000000000000)(a:EB w b (off+i*2) (Z N))(c:EB w b (off+i*2+1) (.string S))(hc:nx s p=115)(d:(N != 0)=false)(e:14<(S:Int)):
  D7 257 #[.string s,Z p,.slice (Y b off) n cap,Z i] w (Z (-1)) (DY w):=by
 exact adT
theorem qx(s:Ab)(p n i b off cap:Nat)N(S:Ab)(w:Aa)(e:p<s)(hi:i<n)(hn:n<=9000000000000)(f0:EB w b (off+i*2) (Z N))(f1:EB w b (off+i*2+1) (.string S))(lo a:Int)(HM:∀w,D7 232 #[.string s,Z p] w (.tuple #[Z lo,Z a]) (DY w))(c:((((s[p]).toNat:Nat):Int)==115)=false)(d:¬S.toList=[]):
  D7 257 #[.string s,Z p,.slice (Y b off) n cap,Z i] w (Z (-1)) (DY w):=by
 exact adM
theorem qz(s:Ab)(p n i b off cap:Nat)N(S:Ab)(w:Aa)(e:p<s)(hi:i<n)(hn:n<=9000000000000)(f0:EB w b (off+i*2) (Z N))(f1:EB w b (off+i*2+1) (.string S))(lo a:Int)(HM:∀w,D7 232 #[.string s,Z p] w (.tuple #[Z lo,Z a]) (DY w))(c:((((s[p]).toNat:Nat):Int)==115)=false)(d:S.toList=[])(hl:N<lo):
  D7 257 #[.string s,Z p,.slice (Y b off) n cap,Z i] w (Z (-1)) (DY w):=by
 exact adM
theorem qA(s:Ab)(p n i b off cap:Nat)N(S:Ab)(w:Aa)(f:p<s)(hi:i<n)(hn:n<=9000000000000)(f0:EB w b (off+i*2) (Z N))(f1:EB w b (off+i*2+1) (.string S))(lo a:Int)(HM:∀w,D7 232 #[.string s,Z p] w (.tuple #[Z lo,Z a]) (DY w))(c:((((s[p]).toNat:Nat):Int)==115)=false)(d:S.toList=[])(hl:¬N<lo)(e:a<N):
  D7 257 #[.string s,Z p,.slice (Y b off) n cap,Z i] w (Z (-1)) (DY w):=by
 exact adM
theorem ym(s:Ab)(p n i b off cap:Nat)N(S:Ab)(w:Aa)(D:p<s)(hi:i<n)(hn:n<=9000000000000)(u:EB w b (off+i*2) (Z N))(v:EB w b (off+i*2+1) (.string S))(lo d:Int)(o:∀w,D7 232 #[.string s,Z p] w (.tuple #[Z lo,Z d]) (DY w))(z:((((s[p]).toNat:Nat):Int)==115)=false)(B:S.toList=[])(hl:¬N<lo)(C:¬d<N)(hu:((((s[p]).toNat:Nat):Int)==117)=true)(q:Nat)e(r:∀w,D7 233 #[.string s,Z p,Z N] w (Z q) (DY w))
  (t:∀l,DY w l->D7 228 #[.string s,Z q,.slice (Y b off) n cap,Z (i+1)] l (Z e) (DY l)):
  D7 257 #[.string s,Z p,.slice (Y b off) n cap,Z i] w (Z e) (DY w):=by
 have⟨g,h⟩:=FU r t;clear r t;have y:¬((n:Int)<=i):=U;have f:=Dx o;clear o
 delta D7
 go_in
 go_wp2_with fail
 refine cm (f _) λm a=>?_
 have g0:Kk m w 0 (Z N):=(a.cell (p:=EN w 0) Ev).trans Vb;have g1:Kk m w 1 (.string S):=(a.cell (p:=EN w 1) Ev).trans Vb;have x:=F9.trans (a.mono Ev);have A:w.heap.size<m.heap.size:=by have:=a.size;simp at this;omega
 clear u v a;go_wp2_with fail
 refine cm (g _) λE j=>?_
 have c:=x.trans (j.mono U);go_wp2_with fail
 refine cm (h _ c) λF k=>?_
 go_wp2
 go_ret
 exact⟨I,c.trans (k.mono c.size)⟩
theorem yh(s:Ab)(p n i b off cap:Nat)N(S:Ab)(w:Aa)(hp:p<s)(hi:i<n)(hn:n<=9000000000000)(f0:EB w b (off+i*2) (Z N))(f1:EB w b (off+i*2+1) (.string S))(lo u:Int)(P:∀w,D7 232 #[.string s,Z p] w (.tuple #[Z lo,Z u]) (DY w))(ae:((((s[p]).toNat:Nat):Int)==115)=false)(v:List It)(E:Nat->List It->GB)(hv:v=n)(t:Mk (E (p+2)))(hS:S.toList=[])(hl:¬N<lo)(hh:¬u<N)(hu:((((s[p]).toNat:Nat):Int)==117)=false)(hq:((((s[p]).toNat:Nat):Int)==113)=true)(aa:0<=N)(ab:N<=9)
  (Q:∀(j:Nat) w',j<=n->DY w w'->D7 228 #[.string s,Z (p+2),.slice (Y b off) n cap,Z j] w' (Z (vI j (E (p+2) (v.drop j)))) (DY w')) (ah:p<=40):
  D7 257 #[.string s,Z p,.slice (Y b off) n cap,Z i] w (Z (vI (i+1) (E6 E (List.replicate N.toNat (p+2)) (v.drop (i+1))))) (DY w):=by
 have⟨B,y,A⟩:=Ll Q t hv;clear Q t hv;have ad:¬((n:Int)<=i):=U;have z:=Dx P;clear P
 delta D7
 go_in
 go_wp2_with fail
 refine cm (z _) λO c=>?_
 have g0:Kk O w 0 (Z N):=(c.cell (p:=EN w 0) Ev).trans Vb;have g1:Kk O w 1 (.string S):=(c.cell (p:=EN w 1) Ev).trans Vb;have W:=F9.trans (c.mono Ev);have J:w.heap.size<O.heap.size:=by have:=c.size;simp at this;omega
 clear f0 f1 c;go_wp2;go_loopw [3,12] (λiv M wr=>∃k:Nat,k<=N.toNat/\M=Z k/\iv=Z (vI (i+1) (E6 E (List.replicate k (p+2)) (v.drop (i+1))))/\DY w wr/\Kk wr w 0 (Z N)) (λ_ M _=>N.toNat-(intOf M).toNat)
 case atStart=>exact⟨0,AV _,I,by simp[E6,vI],W,g0⟩
 case round=>
  obtain⟨k,hk,rfl,rfl,a,h⟩:=hrel;clear W g0 g1 J;by_cases ac:k<N.toNat
  .have H:(k:Int)<N:=U;cases hst:E6 E (List.replicate k (p+2)) (v.drop (i+1)) with
   |none=>
    have f:E6 E (List.replicate N.toNat (p+2)) (v.drop (i+1))=none:=by
     refine Re E (k:=k) ?_;rw[List.take_replicate,Ct hk];exact hst
    have m:=Dx f;rw[show vI (i+1) none=-1 from rfl];clear hst f;go_wp2
    go_ret
    exact⟨by rw[Dw m];rfl,a⟩
   |some e=>
    have⟨L,r⟩:=e;have⟨D,T⟩:=Mc (E:=E) (List.replicate k (p+2)) (λq hq=>by rw[(C3.1 hq).2];exact Dw y) _ _ _ hst;have d:E6 E (List.replicate (k+1) (p+2)) (v.drop (i+1))=Gu L (E (p+2) r):=by
     rw[List.replicate_succ',OU,hst]
    rw[CF]at D;rw[A9]at T;have K:=Dw A;obtain⟨j,X⟩:∃j,j=i+1+L.length:=DR;have G:j<=n:=U;have x:vI (i+1) (some (L,r))=(j:Int):=by simp only[vI];omega
    have g:vI (i+1) (E6 E (List.replicate (k+1) (p+2)) (v.drop (i+1)))=vI j (E (p+2) (v.drop j)):=by rw[d,X4,D,<-X]
    rw[x];have o:=Dx g;clear hst D T d X x g K;go_wp2_with fail
    refine cm (B j _ G a) λw2 l=>?_
    have F:=a.trans (l.mono a.size);have C:=(l.cell (p:=EN w 0) (lt_of_cell h)).trans h;rw[<-Dw o];clear l h a;go_wp2;go_roundw
    case rel=>exact⟨k+1,U,Kc,I,F,C⟩
    case measure=>exact Kt
  .obtain rfl:k=N.toNat:=U;have H:¬((N.toNat:Nat):Int)<N:=U;go_wp2
   go_ret
   exact⟨I,a⟩
theorem toList_nil:S.toList=[]↔S.size=0:=by
 rw[CH];constructor
 .intro h;have a:=CG List.length h;rw[BO]at a;exact a
 .intro h;exact BA (by rw[BO];exact h)
theorem U3{V:Ad}{v:List It}(E:Nat->List It->GB)(hp:p<s)(hg:nx s p=97\/nx s p=114)(hi:i<=v)(_hn:v.length<=9000000000000)(f:qs.length<=9)(a:∀q∈qs,Mk (E q))
  (b:∀w,D7 230 #[.string s,Z p] w (Z qs) (DY w))
  (d:∀(k q:Nat) w,qs[k]?=q->D7 231 #[.string s,Z p,Z k] w (Z q) (DY w))
  (c:∀(q j:Nat) w',q∈qs->j<=v->DY w w'->D7 228 #[.string s,Z q,V,Z j] w' (Z (vI j (E q (v.drop j)))) (DY w')):
  D7 228 #[.string s,Z p,V,Z i] w (Z (vI i (E6 E qs (v.drop i)))) (DY w):=by
 have⟨H1,H2,H3,HEH⟩:=bE b d c a;clear b d c a;have key:∀(t:Bool),t=(nx s p==97)->(t=true->((((s[p]).toNat:Nat):Int) != 97)=false)/\(t=false->((((s[p]).toNat:Nat):Int) != 97)=true/\((((s[p]).toNat:Nat):Int) != 114)=false):=by
  exact acu
 have fin:∀(K:Prop),K->K:=λ_ h=>h
 clear fin;cases ht:(nx s p==97) with
 |true=>
  have g:=(key true ht.symm).1 I;exact MP
 |false=>
  have⟨g,l⟩:=(key false ht.symm).2 I;exact MP
theorem aU{V:Ad}{b:Int}(g:p<s)(d:¬nx s p=97)(a:¬nx s p=114)(f:D7 257 #[.string s,Z p,V,Z i] w (Z b) (DY w)):
  D7 228 #[.string s,Z p,V,Z i] w (Z b) (DY w):=by
 have h:((((s[p]).toNat:Nat):Int) != 97)=true:=by rw[<-Gd g];simp;omega
 have j:((((s[p]).toNat:Nat):Int) != 114)=true:=by rw[<-Gd g];simp;omega
 have c:=Dx f;clear f d a
 delta D7
 go_in
 go_wp2_with fail
 refine cm c λk e=>?_
 go_wp2
 go_ret
 exact⟨I,e⟩
theorem H9{v:List It}{r:List It}(h:EO g f p v=(k0,qs,r)):Hg g (f+1) p v=Gu k0 (E6 (Hg g f) qs r):=by
 simp only[Hg,h]
theorem La{v:List It}(h:EO g f p v=none):Hg g (f+1) p v=none:=by
 simp only[Hg,h]
theorem kJ{V:Ad}{v:List It}(hs:s.size<=40)(hn:v.length<=9000000000000)(N:VC s V v f)(ho:N4 s (f+1) p)(hi:i<=v)(B:Ff w V v)(O:¬nx s p=97)(L:¬nx s p=114):
  D7 257 #[.string s,Z p,V,Z i] w (Z (vI i (Hg (nx s) (f+1) p (v.drop i)))) (DY w):=by
 have hp:=ho.lt;by_cases c:i<v.length
 .obtain⟨x,hx⟩:∃x,v[i]?=some x:=⟨_,Ah c⟩;have S:v.drop i=x :: v.drop (i+1):=by grind [List.drop_eq_getElem_cons]
  have⟨b,off,cap,E,Q,k,l⟩:=B.at hx;subst E;by_cases m:nx s p=115
  .by_cases y:x.1=0/\x.2.size<=14
   .have g:EO (nx s) f p (v.drop i)=some ([true],[],v.drop (i+1)):=by grind [EO]
    rw[H9 g];have e1:vI i (Gu [true] (E6 (Hg (nx s) f) [] (v.drop (i+1))))=(i:Int)+1:=by simp[E6,Gu,vI]
    grind [yj]
   .have g:EO (nx s) f p (v.drop i)=none:=by grind [EO]
    rw[La g];by_cases M:x.1=0
    .exact qC s p v.length i b off cap x.1 x.2 w hp c hn k l m (by simp[M]) U
    .exact qB s p v.length i b off cap x.1 x.2 w hp c hn k l m (by simpa using M)
  .have e:((((s[p]).toNat:Nat):Int)==115)=false:=by rw[<-Gd hp];simp;omega
   have n:∀w,D7 232 #[.string s,Z p] w (.tuple #[Z (FZ (nx s p)),Z (FD (nx s) f p)]) (DY w):=by
    intro w;exact afz
   by_cases y:x.2.size=0/\FZ (nx s p)<=x.1/\x.1<=FD (nx s) f p
   .have o:=toList_nil.2 y.1;have g:EO (nx s) f p (v.drop i)=some ([false],(if nx s p=117 then [Gj (Pt.EW (nx s) f p) x.1] else if nx s p=113 then List.replicate x.1.toNat (p+2) else []),v.drop (i+1)):=by grind [EO]
    rw[H9 g,X4];by_cases hu:nx s p=117
    .have u:((((s[p]).toNat:Nat):Int)==117)=true:=by rw[G0 hp hu];rfl
     rw[Ay hu];have hl:WH s f p:=⟨Am hu,ho⟩;have G:FZ (nx s p)=0:=by rw[hu];rfl
     have F:FD (nx s) f p=((Pt.EW (nx s) f p).length:Int)-1:=by simp[FD,hu]
     have W:=Jj (nx s) f p;obtain⟨q,t⟩:∃q,(Pt.EW (nx s) f p)[x.1.toNat]?=some q:=⟨_,Ah U⟩;have H:Gj (Pt.EW (nx s) f p) x.1=q:=by grind [Gj]
     have J:=JQ hl q (Ap t);rw[H];refine ym s p v.length i b off cap x.1 x.2 w hp c hn k l _ _ n e o U U u q _ (λC=>?_) (λC r=>?_)
     .grind [M7]
     .have h:=N q (i+1) C J.2 c (B.h r);have e2:vI (i+1) (E6 (Hg (nx s) f) [q] (v.drop (i+1)))=vI (i+1) (Hg (nx s) f q (v.drop (i+1))):=by grind [E6,Gu]
      grind
    .have u:((((s[p]).toNat:Nat):Int)==117)=false:=by rw[<-Gd hp];simp;omega
     rw[Ao hu];by_cases t:nx s p=113
     .have z:((((s[p]).toNat:Nat):Int)==113)=true:=by rw[G0 hp t];rfl
      rw[Ay t];have G:FZ (nx s p)=0:=by rw[t];rfl
      have F:FD (nx s) f p=(nx s (p+1):Int)-48:=by simp[FD,t]
      have A:48<=nx s (p+1)/\nx s (p+1)<=57/\N4 s f (p+2):=by
       exact abj
      refine yh s p v.length i b off cap x.1 x.2 w hp c hn k l _ _ n e v (Hg (nx s) f) I (Hs _ _ _) o U U u z U U (λj C T r=>?_) U;exact N (p+2) j C A.2.2 T (B.h r)
     .have z:((((s[p]).toNat:Nat):Int)==113)=false:=by rw[<-Gd hp];simp;omega
      rw[Ao t];have X:¬((v.length:Int)<=(i:Int)):=U;have D:=Dx n;clear n
      delta D7
      go_in
      go_wp2_with fail
      refine cm (D _) λK d=>?_
      have g0:Kk K w 0 (Z x.1):=(d.cell (p:=EN w 0) Ev).trans Vb;have g1:Kk K w 1 (.string x.2):=(d.cell (p:=EN w 1) Ev).trans Vb;have P:=F9.trans (d.mono Ev);have aa:w.heap.size<K.heap.size:=by have:=d.size;simp at this;omega
      clear k l d;go_wp2;refine wp_loop_rounds 1 ?_;rw[rounds_succ];go_wp2
      go_ret
      exact⟨I,P⟩
   .have g:EO (nx s) f p (v.drop i)=none:=by grind [EO]
    rw[La g];by_cases o:x.2.toList=[]
    .have hz:=toList_nil.1 o;by_cases hl:x.1<FZ (nx s p)
     .exact qz s p v.length i b off cap x.1 x.2 w hp c hn k l _ _ n e o hl
     .exact qA s p v.length i b off cap x.1 x.2 w hp c hn k l _ _ n e o hl U
    .exact qx s p v.length i b off cap x.1 x.2 w hp c hn k l _ _ n e o
 .obtain rfl:i=v.length:=U;have⟨a,cap,E,_,_⟩:=B;subst E;have g:EO (nx s) f p (v.drop v.length)=none:=by grind [EO]
  rw[La g]
  delta D7
  go_in
  go_wp2
  go_ret
  exact⟨I,AA _ _⟩
theorem Wx(s:Ab)(V:Ad)(v:List It)(hs:s.size<=40)(hn:v.length<=9000000000000):∀f,VC s V v f:=by
 intro f;induction f with
 |zero=>intro p i w ho;have:=ho.fuel;omega
 |succ f ih=>
  intro p i w ho hi e;have n:=ho.lt;by_cases b:nx s p=97
  .have d:p+1<s.size/\49<=nx s (p+1)/\nx s (p+1)<=57/\N4 s f (p+2):=by
    exact adN
   have l:EO (nx s) f p (v.drop i)=some ([],List.replicate (nx s (p+1)-48) (p+2),v.drop i):=by simp[EO,b]
   rw[H9 l,KU];refine U3 (Hg (nx s) f) n (Aj b) hi hn Fy (λq _=>Hs _ _ _) (λw'=>?_) (λk q w' c=>?_) (λq j w' c m g=>?_)
   .grind [Xl]
   .grind [U5]
   .obtain rfl:q=p+2:=(C3.1 c).2;exact ih (p+2) j w' d.2.2.2 m (e.h g)
  .by_cases a:nx s p=114
   .have hl:WH s f p:=⟨Aj a,ho⟩;have o:=Jj (nx s) f p;have l:EO (nx s) f p (v.drop i)=some ([],Pt.EW (nx s) f p,v.drop i):=by simp[EO,a]
    rw[H9 l,KU];refine U3 (Hg (nx s) f) n (Am a) hi hn U (λq _=>Hs _ _ _) (λw'=>Xm s f p w' hl hs) (λk q w' c=>?_) (λq j w' c m g=>?_)
    .exact afT
    .exact ih q j w' (JQ hl q c).2 m (e.h g)
   .exact aU n b a (kJ hs hn ih ho hi e b a)
theorem sr:(prog.info? 4).map (λi=>(i.zero,i.size,i.bytes))=(some DI,1,1):=EL
structure JV(w0 w:Aa)(O:Ad)(outs:List Bool):Prop where
 own:w.ownsRow w0.heap.size 4 1 O outs.length (outs.map Value.bool)
 h:Below w0.heap.size w0 w
theorem JV.go(h:JV w0 w O outs)(a:DY w w'):JV w0 w' O outs:=⟨ER h.own a,h.h.trans (a.mono h.h.size)⟩
theorem JV.nil(w0:Aa):JV w0 w0 Dz []:=by grind [JV,World.ownsRow_nil,Below.refl]
theorem JV.shape(h:JV w0 w O outs):∃a cap,O=.slice a outs cap:=by
 rcases h.own.2 with ⟨c,d⟩|⟨g,cap,b,c,_⟩;all_goals grind
def kG(s:Ab)(V:Ad)(v:List It)(w0:Aa)(f:Nat):Prop:=∀(p:Nat) (O:Ad) (outs ks:List Bool) (r:List It) (w:Aa),N4 s f p->JV w0 w O outs->Hg (nx s) f p (v.drop outs)=(ks,r) ->
 Calls prog 229 #[.string s,Z p,V,O] w λe w'=>∃O',e=.returned O'/\JV w0 w' O' (outs++ks)
theorem oF{E:Nat->List It->GB}{v:List It}{r:List It}(h:E6 E qs v=(ks,r)):∃a b,E6 E (qs.take k) v=some (a,b):=by
 cases hs:E6 E (qs.take k) v with
 |none=>rw[Re E hs]at h;cases h
 |some e=>exact⟨e.1,e.2,rfl⟩
theorem aj{E:Nat->List It->GB}{v:List It}{r:List It}(h:E6 E qs v=(ks,r))(c:qs[k]?=q){r1:List It}(b:E6 E (qs.take k) v=(k1,r1)):
  ∃k2 d,E q r1=(k2,d)/\E6 E (qs.take (k+1)) v=some (k1++k2,d):=by
 obtain⟨f,g,a⟩:=oF h;rw[Bh,c,Cm,OU,b]at a;simp only at a;cases hE:E q r1 with
 |none=>rw[hE]at a;cases a
 |some e=>
  refine⟨e.1,e.2,I,?_⟩;rw[Bh,c,Cm,OU,b];simp only[hE];rfl
theorem aaw(s:Ab)(p:Nat)(V O:Ad)(v:List It)(E:Nat->List It->GB)(qs:List Nat)(outs ks:List Bool)(r:List It)(w0 w:Aa)(i:p<s)(g:qs.length<=9)(hO:JV w0 w O outs)(hEh:∀q∈qs,Mk (E q))(hE:E6 E qs (v.drop outs)=(ks,r))
  (HI:∀w,D7 230 #[.string s,Z p] w (Z qs) (DY w))
  (HW:∀(k q:Nat) w,qs[k]?=q->D7 231 #[.string s,Z p,Z k] w (Z q) (DY w))
  (HV:∀(q:Nat) (b:Ad) (a k2:List Bool) (r2:List It) d,q∈qs->JV w0 d b a->E q (v.drop a)=(k2,r2)->ET 229 #[.string s,Z q,V,b] d λe f=>∃c,e=.returned c/\JV w0 f c (a++k2))
  (j:((((s[p]).toNat:Nat):Int)==97)=true):
  ET 229 #[.string s,Z p,V,O] w λe d=>∃b,e=.returned b/\JV w0 d b (outs++ks):=by
 exact MU
theorem aay(s:Ab)(p:Nat)(V O:Ad)(v:List It)(E:Nat->List It->GB)(qs:List Nat)(outs ks:List Bool)(r:List It)(w0 w:Aa)(i:p<s)(g:qs.length<=9)(hO:JV w0 w O outs)(hEh:∀q∈qs,Mk (E q))(hE:E6 E qs (v.drop outs)=(ks,r))
  (HI:∀w,D7 230 #[.string s,Z p] w (Z qs) (DY w))
  (HW:∀(k q:Nat) w,qs[k]?=q->D7 231 #[.string s,Z p,Z k] w (Z q) (DY w))
  (HV:∀(q:Nat) (b:Ad) (a k2:List Bool) (r2:List It) d,q∈qs->JV w0 d b a->E q (v.drop a)=(k2,r2)->ET 229 #[.string s,Z q,V,b] d λe f=>∃c,e=.returned c/\JV w0 f c (a++k2))
  (j:((((s[p]).toNat:Nat):Int)==97)=false) (l:((((s[p]).toNat:Nat):Int)==114)=true):
  ET 229 #[.string s,Z p,V,O] w λe d=>∃b,e=.returned b/\JV w0 d b (outs++ks):=by
 exact MU
theorem U0(s:Ab)(p b off cap:Nat)(O:Ad)(v:List It)(a:List Bool)N(t:Bool)(w0 w:Aa)(y:p<s)(c:JV w0 w O a)(q:a<v.length)(hn:v.length<=9000000000000)(n:EB w b (off+a*2) (Z N))(A:((((s[p]).toNat:Nat):Int)==97)=false)(B:((((s[p]).toNat:Nat):Int)==114)=false)(C:((((s[p]).toNat:Nat):Int)==115)=t)(D:((((s[p]).toNat:Nat):Int)==117)=false)(E:((((s[p]).toNat:Nat):Int)==113)=false):
  ET 229 #[.string s,Z p,.slice (Y b off) v cap,O] w λe r=>∃i,e=.returned i/\JV w0 r i (a++[t]):=by
 obtain⟨z,j,rfl⟩:=c.shape;have HOO:=Dx c;have how:=c.own;have o:=c.h.size;clear c;generalize hol':a.length=m at *;have HM:=Dx hol';clear hol';have⟨i0,hi,f,g,h⟩:=A1 sr
 delta ET
 go_in
 go_wp2_with (at_builtin;refine AQ _ I (.tmp 46) (.tmp 51) 60 I w0.heap.size 4 i0 DI 1 1 underlying60 hi f g h I Em _ m (a.map Value.bool) I (by exact how.alloc _) (EN w 0) 1 1 [.bool t] I I (by exact cell_one_new _ _ _) (by intro u hu;simp at hu;subst hu;rfl) JG U Fy ?_)
 intro l x hown hgrow _ _;have d:Hid (JV w0 x l (a++[t])):=by
  exact adS
 clear hown hgrow how n;go_wp2;refine wp_loop_rounds 1 ?_;rw[rounds_succ];go_wp2
 go_ret
 exact⟨_,I,d⟩
theorem aaz(s:Ab)(p b off cap:Nat)(O:Ad)(v:List It)(a:List Bool)N(t:Bool)(w0 w:Aa)(L:p<s)(f:JV w0 w O a)(H:a<v.length)(hn:v.length<=9000000000000)(F:EB w b (off+a*2) (Z N))(P:((((s[p]).toNat:Nat):Int)==97)=false)(Q:((((s[p]).toNat:Nat):Int)==114)=false)(S:((((s[p]).toNat:Nat):Int)==115)=t)(T:((((s[p]).toNat:Nat):Int)==117)=true)(q:Nat)(k2:List Bool)(B:∀w,D7 233 #[.string s,Z p,Z N] w (Z q) (DY w))
  (C:∀(c:Ad) i,JV w0 i c (a++[t])->ET 229 #[.string s,Z q,.slice (Y b off) v cap,c] i λe A=>∃d,e=.returned d/\JV w0 A d (a++[t]++k2)):
  ET 229 #[.string s,Z p,.slice (Y b off) v cap,O] w λe i=>∃c,e=.returned c/\JV w0 i c (a++[t]++k2):=by
 have⟨o,r⟩:=FU B C;clear B C;obtain⟨M,D,rfl⟩:=f.shape;have HOO:=Dx f;have how:=f.own;have G:=f.h.size;clear f;generalize hol':a.length=m at *;have HM:=Dx hol';clear hol';have⟨i0,hi,x,y,z⟩:=A1 sr
 delta ET
 go_in
 go_wp2_with (at_builtin;refine AQ _ I (.tmp 46) (.tmp 51) 60 I w0.heap.size 4 i0 DI 1 1 underlying60 hi x y z I Em _ m (a.map Value.bool) I (by exact how.alloc _) (EN w 0) 1 1 [.bool t] I I (by exact cell_one_new _ _ _) (by intro u hu;simp at hu;subst hu;rfl) JG U Fy ?_)
 intro E J hown hgrow _ _;have j:Hid (JV w0 J E (a++[t])):=by
  exact adS
 clear hown hgrow how F;go_wp2_with fail
 refine cm (o _) λW g=>?_
 have l:=Dx (j.go g);clear g;go_wp2_with fail
 refine(r _ _ l).mono ?_;rintro e X ⟨K,rfl,h⟩;have n:=Dx h;clear h;go_wp2
 go_ret
 exact⟨_,I,n⟩
theorem aax(s:Ab)(p b off cap:Nat)(O:Ad)(v:List It)(a:List Bool)N(t:Bool)(w0 w:Aa)(hp:p<s)(z:JV w0 w O a)(ao:a<v.length)(hn:v.length<=9000000000000)(f0:EB w b (off+a*2) (Z N))(t1:((((s[p]).toNat:Nat):Int)==97)=false)(t2:((((s[p]).toNat:Nat):Int)==114)=false)(t3:((((s[p]).toNat:Nat):Int)==115)=t)(E:Nat->List It->GB)(W:List Bool)(r:List It)(y:Mk (E (p+2)))(hE:E6 E (List.replicate N.toNat (p+2)) (v.drop (a++[t]))=(W,r))(al:0<=N)(am:N<=9)(aq:p<=40)(t4:((((s[p]).toNat:Nat):Int)==117)=false)(t5:((((s[p]).toNat:Nat):Int)==113)=true)
  (HV:∀(o:Ad) (c k2:List Bool) (C:List It) D,JV w0 D o c->E (p+2) (v.drop c.length)=some (k2,C)->ET 229 #[.string s,Z ((p:Int)+2),.slice (some (Y b off)) v.length cap,o] D λe aa=>∃q,e=.returned q/\JV w0 aa q (c++k2)):
  ET 229 #[.string s,Z p,.slice (some (Y b off)) v.length cap,O] w λe D=>∃o,e=.returned o/\JV w0 D o (a++[t]++W):=by
 have⟨J,G,HE⟩:=Ll HV y hE;clear HV y hE;obtain⟨oa,ah,rfl⟩:=z.shape;have HOO:=Dx z;have how:=z.own;have an:=z.h.size;clear z;generalize hol':a.length=m at *;have HM:=Dx hol';clear hol';have⟨i0,hi,Q,S,T⟩:=A1 sr
 delta ET
 go_in
 go_wp2_with (at_builtin;refine AQ _ I (.tmp 46) (.tmp 51) 60 I w0.heap.size 4 i0 DI 1 1 underlying60 hi Q S T I Em _ m (a.map Value.bool) I (by exact how.alloc _) (EN w 0) 1 1 [.bool t] I I (by exact cell_one_new _ _ _) (by intro u hu;simp at hu;subst hu;rfl) JG U Fy ?_)
 intro O1 w1 hown hgrow _ _;have j:Hid (JV w0 w1 O1 (a++[t])):=by
  exact adS
 clear hown hgrow how f0;go_wp2;go_loopw [3,12] (λov X wr=>∃(k:Nat) (i:List Bool) (r1:List It),k<=N.toNat/\X=Z k/\JV w0 wr ov (a++[t]++i)/\Hid (E6 E (List.replicate k (p+2)) (v.drop (a++[t]).length)=some (i,r1))) (λ_ X _=>N.toNat-(intOf X).toNat)
 case atStart=>exact⟨0,[],_,AV _,I,by rw[Cb];exact Dw j,I⟩
 case round=>
  obtain⟨k,i,r1,hk,rfl,B,f⟩:=hrel;have l:=Dx B;clear j B;by_cases M:k<N.toNat
  .have L:(k:Int)<N:=U;have hq:(List.replicate N.toNat (p+2))[k]?=some (p+2):=by rw[Be,Ay M]
   have g:E6 E ((List.replicate N.toNat (p+2)).take k) (v.drop (a++[t]).length)=some (i,r1):=by
    rw[List.take_replicate,Ct hk];exact Dw f
   have⟨k2,C,x,d⟩:=aj HE hq g;rw[List.take_replicate,Ct U]at d;have⟨K,h2⟩:=Mc (E:=E) (List.replicate k (p+2)) (λq' P=>by rw[(C3.1 P).2];exact Dw G) _ _ _ (Dw f);rw[CF]at K;have F:Hid (E (p+2) (v.drop (a++[t]++i).length)=some (k2,C)):=by rw[AJ,<-K];exact x
   have n:=Dx d;clear K h2 x d hq f g;go_wp2_with fail
   refine(J _ _ _ _ _ l F).mono ?_;rintro e w3 ⟨O3,rfl,A⟩;have H:=Dx A;clear A;go_wp2;go_roundw
   case rel=>exact⟨k+1,i++k2,C,U,Kc,by rw[<-Bs];exact Dw H,n⟩
   case measure=>exact Kt
  .obtain rfl:k=N.toNat:=U;have L:¬((N.toNat:Nat):Int)<N:=U;have e1:i=W:=by
    have h:=Dw f;rw[Dw HE]at h;cases h;rfl
   subst e1;go_wp2
   go_ret
   exact⟨_,I,by simpa using Dw l⟩
theorem rF{v:List It}{r:List It}(h:Hg g (f+1) p v=(ks,r)):∃k0 a b k,EO g f p v=(k0,a,b)/\E6 (Hg g f) a b=(k,r)/\ks=k0++k:=by
 simp only[Hg]at h;cases hh:EO g f p v with
 |none=>rw[hh]at h;cases h
 |some e=>
  have⟨k0,a,b⟩:=e;rw[hh]at h;simp only at h;cases hs:E6 (Hg g f) a b with
  |none=>rw[hs]at h;cases h
  |some e'=>grind [Gu]
theorem Ws(s:Ab)(V:Ad)(v:List It)(w0:Aa)(hs:s.size<=40)(hn:v.length<=9000000000000)(Q:Ff w0 V v):∀f,kG s V v w0 f:=by
 intro f;induction f with
 |zero=>intro p O a X r w ho;have:=ho.fuel;omega
 |succ f ih=>
  intro p O a X r w ho A P;have e:=ho.lt;obtain⟨k0,qs,r0,k,l,c,rfl⟩:=rF P;by_cases z:nx s p=97
  .have u:p+1<s.size/\49<=nx s (p+1)/\nx s (p+1)<=57/\N4 s f (p+2):=by
    exact adN
   have B:EO (nx s) f p (v.drop a.length)=some ([],List.replicate (nx s (p+1)-48) (p+2),v.drop a.length):=by simp[EO,z]
   rw[B]at l;cases l;rw[Cc];refine aaw s p V O v (Hg (nx s) f) _ a k r w0 w e Fy A (λq _=>Hs _ _ _) c (λw'=>?_) (λk q w' m=>?_) (λq y d k2 C w' m i n=>?_) (by rw[G0 e z];rfl)
   .grind [Xl]
   .grind [U5]
   .obtain rfl:q=p+2:=(C3.1 m).2;exact ih (p+2) y d k2 C w' u.2.2.2 i n
  by_cases j:nx s p=114
  .have hl:WH s f p:=⟨Aj j,ho⟩;have J:=Jj (nx s) f p;have B:EO (nx s) f p (v.drop a.length)=some ([],Pt.EW (nx s) f p,v.drop a.length):=by simp[EO,j]
   rw[B]at l;cases l;rw[Cc];refine aay s p V O v (Hg (nx s) f) _ a k r w0 w e U A (λq _=>Hs _ _ _) c (λw'=>Xm s f p w' hl hs) (λk q w' m=>?_) (λq y d k2 C w' m i n=>ih q y d k2 C w' (JQ hl q m).2 i n) (by rw[<-Gd e];simp;omega) (by rw[G0 e j];rfl);exact afT
  have E:((((s[p]).toNat:Nat):Int)==97)=false:=by rw[<-Gd e];simp;omega
  have F:((((s[p]).toNat:Nat):Int)==114)=false:=by rw[<-Gd e];simp;omega
  have t:a.length<v.length:=by grind [List.drop_eq_nil_of_le,EO]
  obtain⟨x,B⟩:∃x,v[a.length]?=some x:=⟨_,Ah t⟩;have G:v.drop a.length=x :: v.drop (a.length+1):=by grind [List.drop_eq_getElem_cons]
  have⟨b,off,cap,S,T,D,_⟩:=(Q.h A.h).at B;subst S;rw[G]at l;by_cases g:nx s p=115
  .simp only[EO,g]at l;simp at l;obtain⟨_,rfl,rfl,rfl⟩:=l;simp[E6]at c;obtain⟨rfl,rfl⟩:=c;exact U0 s p b off cap O v a x.1 true w0 w e A t hn D E F (by rw[G0 e g];rfl) (by rw[G0 e g];rfl) (by rw[G0 e g];rfl)
  have M:((((s[p]).toNat:Nat):Int)==115)=false:=by rw[<-Gd e];simp;omega
  simp only[EO,z,j,g,agv]at l;split at l
  .rename_i W;simp only[Option.some.injEq,Prod.mk.injEq]at l;obtain⟨rfl,rfl,rfl⟩:=l;have o:(a++[false]).length=a.length+1:=Ev;by_cases hu:nx s p=117
   .rw[Ay hu]at c;have hl:WH s f p:=⟨Am hu,ho⟩;have K:FZ (nx s p)=0:=by rw[hu];rfl
    have H:FD (nx s) f p=((Pt.EW (nx s) f p).length:Int)-1:=by simp[FD,hu]
    have J:=Jj (nx s) f p;obtain⟨q,m⟩:∃q,(Pt.EW (nx s) f p)[x.1.toNat]?=some q:=⟨_,Ah U⟩;have hpo:Gj (Pt.EW (nx s) f p) x.1=q:=by grind [Gj]
    rw[hpo]at c;have L:Hg (nx s) f q (v.drop (a.length+1))=some (k,r):=by grind [E6,Gu]
    rw[<-Bs];refine aaz s p b off cap O v a x.1 false w0 w e A t hn D E F M (by rw[G0 e hu];rfl) q k (λw'=>?_) (λy w' i=>?_)
    .grind [M7]
    .exact ih q y (a++[false]) k r w' (JQ hl q (Ap m)).2 i (by rw[o];exact L)
   .rw[Ao hu]at c;have N:((((s[p]).toNat:Nat):Int)==117)=false:=by rw[<-Gd e];simp;omega
    by_cases m:nx s p=113
    .rw[Ay m]at c;have K:FZ (nx s p)=0:=by rw[m];rfl
     have H:FD (nx s) f p=(nx s (p+1):Int)-48:=by simp[FD,m]
     have u:48<=nx s (p+1)/\nx s (p+1)<=57/\N4 s f (p+2):=by
      exact abj
     rw[<-Bs];exact aax s p b off cap O v a x.1 false w0 w e A t hn D E F M (Hg (nx s) f) k r (Hs _ _ _) (by rw[o];exact c) U U U N (by rw[G0 e m];rfl) (λy d k2 C w' i n=>ih (p+2) y d k2 C w' u.2.2 i n)
    .rw[Ao m]at c;simp[E6]at c;obtain⟨rfl,rfl⟩:=c;exact U0 s p b off cap O v a x.1 false w0 w e A t hn D E F M N (by rw[<-Gd e];simp;omega)
  .cases l
def b8(n:Int):UInt8:=UInt8.ofNat n.toNat
theorem FP{n:Int}(a:0<=n)(b:n<=255):((b8 n).toNat:Int)=n:=by grind [b8,UInt8.toNat_ofNat_of_lt']
def EU(n:Int):List UInt8:=[b8 (n % 65536 / 256),b8 (n % 256)]
theorem P7(w:Aa)(a b:Int):(convert 281 9 (EJ w 2 2)).run prog (w.alloc (.cells #[.int .u8 a,.int .u8 b] 5))=.ok (.string ⟨[b8 a,b8 b].toArray⟩) (w.alloc (.cells #[.int .u8 a,.int .u8 b] 5)):=by
 exact abF
theorem two_pos(n:Int)(w:Aa)(a:0<=n)(b:n<=65535):
  D7 192 #[Z n] w (.string ⟨(EU n).toArray⟩) (DY w):=by
 have hc:=P7 w (n / 256) (n % 256);have e:EU n=[b8 (n / 256),b8 (n % 256)]:=by unfold EU;rw[show n % 65536=n by omega]
 exact abu
theorem aaS(n:Int)(w:Aa)(a:n<0)(b:-32768<=n):
  D7 192 #[Z n] w (.string ⟨(EU n).toArray⟩) (DY w):=by
 have hc:=P7 w ((n+65536) / 256) ((n+65536) % 256);have e:EU n=[b8 ((n+65536) / 256),b8 ((n+65536) % 256)]:=by unfold EU;rw[show n % 65536=n+65536 by omega,show n % 256=(n+65536) % 256 by omega]
 rw[e];clear e;have hd:0<=(n+65536) / 256/\(n+65536) / 256<=255:=U;have c:0<=(n+65536) % 256/\(n+65536) % 256<=255:=U
 delta D7
 go_in
 go_wp2
 go_ret
 exact⟨I,F9⟩
theorem QA(n:Int)(w:Aa)(a:-32768<=n)(b:n<=65535):
  D7 192 #[Z n] w (.string ⟨(EU n).toArray⟩) (DY w):=by grind [aaS,two_pos]
theorem YT(s:Ab)(V:Ad)(a:Af)(cap:Nat)(v:List It)(w:Aa)(e:V=.slice a v cap)b(H:D7 228 #[.string s,Z 0,V,Z 0] w (Z b) (DY w)):
  D7 178 #[.string s,V] w (.bool (b==v)) (DY w):=by
 subst e;have d:=Dx H;clear H
 delta D7
 go_in
 go_wp2_with fail
 refine cm d λf c=>?_
 go_wp2
 go_ret
 exact⟨I,c⟩
def KL(k:Bool)(x:It):List UInt8:=if k then EU x.2++(x.2.data.toList++(if x.2.size % 2=1 then [0] else [])) else EU x.1
def Et:List Bool->List It->List UInt8
 |k :: ks,x :: v=>KL k x++Et ks v
 |_,_=>[]
theorem PX:∀(b:List Bool) (v:List It) (k:Bool) (x:It),b=v.length->Et (b++[k]) (v++[x])=Et b v++KL k x:=by
 intro b;induction b with
 |nil=>intro v k x h;cases v with
  |nil=>simp[Et]
  |cons y v=>simp at h
 |cons a b ih=>intro v k x h;cases v with
  |nil=>simp at h
  |cons y v=>grind [Et]
theorem jA(k:Bool)(x:It)(h:k=true->x.2.size<=14):(KL k x).length<=17:=by
 unfold KL;cases k with
 |false=>simp[EU]
 |true=>
  have a:=h I;have e:x.2.data.toList.length=x.2.size:=Ev
  grind [EU]
theorem aer(a t:Ac)(S:Ab):({data:=a.toArray}++{data:=t.toArray}++S:Ab)={data:=(a++(t++(S.data.toList++[]))).toArray}:=by
 have h:S={data:=S.data.toList.toArray}:=Ev;rw[Cb];conv=>lhs;rw[h]
 grind [ByteArray.mk_append_mk]
def Vz(ks:List Bool)(v:List It):Prop:=ks=v.length/\∀(i:Nat) (k:Bool) (x:It),ks[i]?=k->v[i]?=x->(k=true->x.2.size<=14)/\(k=false->-32768<=x.1/\x.1<=65535)
theorem df{v:List It}(h:Vz ks v):∀i,i<=v.length->(Et (ks.take i) (v.take i))<=17*i:=by
 intro i;induction i with
 |zero=>intro _;simp[Et]
 |succ i ih=>grind [Vz,List.take_add_one,PX,jA]
theorem VH(s:Ab)(V:Ad)(v:List It)(f:List Bool)(w:Aa)(W:Ff w V v)(hn:v.length<=100000)(X:Vz f v)
  (P:ET 229 #[.string s,Z 0,V,Dz] w λe w'=>∃Q,e=.returned Q/\JV w w' Q f):
  D7 179 #[.string s,V] w (.string ⟨(Et f v).toArray⟩) (DY w):=by
 have⟨y,C,d⟩:=Ll P W X;have⟨a,cap,F,_,_⟩:=W;subst F;clear P X
 delta D7
 go_in
 go_wp2_with fail
 refine y.mono ?_;rintro e w1 ⟨O,rfl,hO⟩;have t:=Dx hO;clear hO y;go_wp2;go_loopw [6,7] (λsv iv wr=>∃i:Nat,i<=v.length/\iv=Z i/\sv=.string ⟨(Et (f.take i) (v.take i)).toArray⟩/\DY w1 wr) (λ_ iv _=>v.length-(intOf iv).toNat)
 case atStart=>exact⟨0,AV _,I,I,AA _ _⟩
 case round=>
  obtain⟨i,hi,rfl,rfl,o⟩:=hrel;have aa:=df d i hi;by_cases H:i<v.length
  .obtain⟨x,L⟩:∃x,v[i]?=some x:=⟨_,Ah H⟩;obtain⟨k,hk⟩:∃k,f[i]?=some k:=⟨_,Ah (by have:=d.1;omega)⟩;have n:=t.go o;have⟨b,off,T,F,z,f0,B⟩:=(C.h n.h).at L;cases F;have j:Et (f.take (i+1)) (v.take (i+1))=Et (f.take i) (v.take i)++KL k x:=by grind [List.take_add_one,PX]
   have m:=d.2 i k x hk L;obtain⟨M,r,rfl,fo⟩:∃M r,O=EJ M f.length r/\EB wr M i (.bool k):=by
    have G:=λg=>n.own.cells (g:=g)
    rcases n.own.2 with ⟨_,h0⟩|⟨g,c2,ad,hv,_⟩
    .have:=d.1;omega
    .refine⟨g,c2,hv,?_⟩;have:=G g (by rw[hv];rfl) i (.bool k) (by rw[BP,hk];rfl);rw[show ((Y g 0):Addr).add i=(Y g i) by simp[Addr.add];omega]at this;exact this
   have ak:(i:Int)<(f.length:Int):=by have:=d.1;omega
   generalize Et (f.take i) (v.take i)=acc at *;have l:=Dx j;clear j hk L n;cases k with
   |false=>
    have⟨n1,n2⟩:=m.2 I;have A:=Dx (λw=>QA x.1 w n1 n2);have u:Hid (Et (f.take (i+1)) (v.take (i+1))=acc++EU x.1):=by rw[Dw l];rfl
    clear l m B;go_wp2_with fail
    refine cm (A _) λw2 c=>?_
    have h:=o.trans (c.mono o.size);have K:(EU x.1).length=2:=rfl;generalize EU x.1=tw at *;go_wp2;go_roundw
    case rel=>exact⟨i+1,U,Kc,by rw[Dw u,ByteArray.mk_append_mk],h⟩
    case measure=>exact Kt
   |true=>
    have E:=m.1 I;have⟨N,S⟩:=x;simp only at E f0 B;have A:=Dx (λw=>QA (S.size:Int) w U U);have K:(EU (S.size:Int)).length=2:=rfl;have ah:S.toList.length=S.size:=by rw[CH];simp
    have u:Hid (Et (f.take (i+1)) (v.take (i+1))=acc++(EU (S.size:Int)++(S.data.toList++(if S.size % 2=1 then [0] else [])))):=by rw[Dw l];rfl
    generalize EU (S.size:Int)=tw at *;clear l m;by_cases q:S.size % 2=1
    .have J:((S.size:Int) % 2==1)=true:=Fy;rw[Ay q]at u;go_wp2_with fail
     go_region_with (go_at_call 192;refine cm (A _) λw2 c=>?_;have D:=(c.cell (p:=(Y b (off+i*2+1))) (by exact z)).trans B)
     all_goals
      have h:=o.trans (Below.mono ⟨c.os,c.tape,c.output,c.size,c.block⟩ o.size);go_wp2;go_roundw
      case rel=>exact⟨i+1,U,Kc,by rw[Dw u];exact CG Value.string ((by grind [aer,ByteArray.mk_append_mk])),h⟩
      case measure=>exact Kt
    .have J:((S.size:Int) % 2==1)=false:=Fy;rw[Ao q]at u;go_wp2_with fail
     go_region_with (go_at_call 192;refine cm (A _) λw2 c=>?_;have D:=(c.cell (p:=(Y b (off+i*2+1))) (by exact z)).trans B)
     all_goals
      have h:=o.trans (Below.mono ⟨c.os,c.tape,c.output,c.size,c.block⟩ o.size);go_wp2;go_roundw
      case rel=>exact⟨i+1,U,Kc,by rw[Dw u];exact CG Value.string (aer acc tw S),h⟩
      case measure=>exact Kt
  .obtain rfl:i=v.length:=U;rw[Cw,A7 (by have:=d.1;omega)];go_wp2
   go_ret
   exact⟨I,t.h.trans (o.mono t.h.size)⟩
end V
end Go.Proofs.YtblomippkddgiabGreatDoor
