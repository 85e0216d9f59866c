import Derived.Test.YtblomippkddgiabGreatDoorJ05
set_option maxRecDepth 100000
set_option maxHeartbeats 4000000
namespace Go.Proofs.YtblomippkddgiabGreatDoor
open Go.Proofs.Tryz RowKit
variable {a:Act}{E E' F F':D9}{rt tr v0 wt:Int}{x x':J7}{lives:List Int}{jobs:List R.Jb}{seen:List R.Sn}{L L':List V.Kp}{xs:List Value}{B N N' b cap cb cl cn g i j k m n nl nm o s size:Nat}{z z':Nat→Option Obj}{p p':Pl}{c:R.Cl}{l:R.Ln}{r r':R.Sn}{G G':R.Wd}{y':PR}{e:TypeId}{K K' O O' lv lv' v:Value}{w w' w0 w1 w2 wr wz:World}
namespace R
variable {M:Bk}{d:Cd}{rb:List UInt8}{r r':Sn}{s:Sv}{G G':Wd}
theorem Rj{kind a:Int}{x:ByteArray×ByteArray}(h:IY kind a=x):a=0\/a=1:=by grind [IY]
theorem Zk(h:d.g=0\/d.g=1):256*((d.h.getD 0 0).toNat:Int)+((d.h.getD 1 0).toNat:Int)=d.g/\d.h.drop 2=d.bs:=by
 refine⟨?_,by simp[Cd.h,EU]⟩;have a:d.h.getD 0 0=b8 (d.g / 256):=by simp[Cd.h,EU]
 have b:d.h.getD 1 0=b8 (d.g % 256):=by simp[Cd.h,EU]
 grind [FP]
structure WG(M:Bk)(G:Wd)(i:Nat)(r:Sn)(d:Cd)(n:Nat)(s:Sv)(rb:Ac):Prop where
 J:G.J[i]?=some r
 ne:r.a≠0
 ok:LK M G.a ⟨((i / 3:Nat):Int),G.C.getD (i / 3) 0,((i % 3:Nat):Int),r.a⟩ r d
 cd:R9 G.a d
 c:d.c=(n:Int)+1
 sv:G.a[n]?=some s
 T:s.T=true
 sig:IY s.J d.g=some (d.a,d.to)
 El:Fi d.to (Hw s.J s.log d.g d.arg)=some rb
 pos:1<=rb.length
theorem Inv.W9(h:Inv M G)(hi:i<9)(j:(EZ G i).d=2):∃d n s m,WG M G i (EZ G i) d n s m:=by
 have k:=h.A hi;generalize EZ G i=r at k j ⊢;have g:r.a≠0:=λe=>by
  rw[(h.ws.sn i r k).zero e]at j;cases j
 have⟨d,q⟩:=h.sn i r k g;have⟨u,w⟩:=q.open' (Am j);have c:=(h.bk _ d q.Q).1;have⟨n,s,a1,a2,a3⟩:=Yi u;have hk:NQ G.a d.c=s.J:=by
  unfold NQ;rw[show (d.c-1).toNat=n by omega,a2];rfl
 have a:=c.sig;rw[hk]at a;have⟨m,o,p⟩:=yP a c.bs (log:=s.log) (λe t=>by
  have⟨f,v,g1,g2,g3,g4,g5,g6⟩:=((h.lg n s a2).each e t).some;have b:=(h.bk _ f g1).1;have l:NQ G.a f.c=s.J:=by grind
  have:=b.sig;rw[l]at this;exact⟨f.a,f.to,f.bs,by rw[g3];exact this,by rw[g4];exact b.bs⟩)
 exact⟨d,n,s,m,k,g,q,c,a1,a2,a3,a,o,p⟩
def Gx(G:Wd)(i:Nat)(r:Sn)(d:Cd)(s:Sv):En:=⟨((i / 3:Nat):Int),G.C.getD (i / 3) 0,((i % 3:Nat):Int),r.a,d.g,d.arg,Hw s.J s.log d.g d.arg⟩
def Lr(G:Wd)(i:Nat)(r:Sn)(d:Cd)(n:Nat)(s:Sv)(rb:Ac):Wd:={G with a:=G.a.set n {s with log:=s.log++[Gx G i r d s]},J:=G.J.set i {r with d:=3,D:=rb,at':=0}}
theorem WG.eq(h:WG M G i r d n s rb)(b:r.d=2):Oa G i=JF (Lr G i r d n s rb) i:=by
 have a:=h.ok.C b;have hu:(r.c-1).toNat=n:=by rw[h.ok.c,h.c];omega
 have⟨c,e⟩:=Zk (Rj h.sig);unfold Oa;simp only;rw[F7 h.J,hu,h.sv,a];simp only[Bw];rw[c,h.sig,e];simp only[Bw];rw[Kq h.cd.bs,h.El,<-a];rfl
theorem Inv.Lr(h:Inv M G)(hi:i<9){s:Sv}(hd:WG M G i r d n s rb)(h2:r.d=2):Inv M (Lr G i r d n s rb):=by
 have hn:=GG hd.sv;have O:=GG hd.J;have F:=h.ws.sn i r hd.J;have H:∀(u:Nat) (C:Sv),(G.a.set n {s with log:=s.log++[Gx G i r d s]})[u]?=some C->(u=n/\C={s with log:=s.log++[Gx G i r d s]})\/(u≠n/\G.a[u]?=some C):=λu C hu=>by
  rw[Bf]at hu;by_cases e:n=u
  .rw[Ay e]at hu;simp only[hn,CQ]at hu;exact Aj ⟨e.symm,(Option.some.inj hu).symm⟩
  .rw[Ao e]at hu;exact Am ⟨λq=>e q.symm,hu⟩
 have v:∀(j:Nat) (B:Sn),(G.J.set i {r with d:=3,D:=rb,at':=0})[j]?=some B->(j=i/\B={r with d:=3,D:=rb,at':=0})\/(j≠i/\G.J[j]?=some B):=λj B o=>by
  rw[Bf]at o;by_cases e:i=j
  .rw[Ay e]at o;simp only[O,CQ]at o;exact Aj ⟨e.symm,(Option.some.inj o).symm⟩
  .rw[Ao e]at o;exact Am ⟨λq=>e q.symm,o⟩
 have S:Gr G.a (G.a.set n {s with log:=s.log++[Gx G i r d s]}):=by
  refine⟨Ev,λu x t=>?_⟩;by_cases e:n=u
  .subst e;rw[hd.sv]at t;cases t;exact⟨{s with log:=s.log++[Gx G i r d s]},by simp[hn],I,[Gx G i r d s],I⟩
  .exact⟨x,by rw[Bf,Ao e];exact t,I,[],Ev⟩
 have z:Mj G.a d.c=s.log:=by rw[hd.c];exact SV hd.sv
 have p:Mj (G.a.set n {s with log:=s.log++[Gx G i r d s]}) d.c=s.log++[Gx G i r d s]:=by
  rw[hd.c];exact SV (s:={s with log:=s.log++[Gx G i r d s]}) (by simp[hn])
 have w:Oc (Gx G i r d s)=⟨((i / 3:Nat):Int),G.C.getD (i / 3) 0,((i % 3:Nat):Int),r.a⟩:=rfl;have L:Kz (G.a.set n {s with log:=s.log++[Gx G i r d s]}) ⟨((i / 3:Nat):Int),G.C.getD (i / 3) 0,((i % 3:Nat):Int),r.a⟩ d (Gx G i r d s) rb:=⟨by rw[p];simp,w,hd.El,hd.pos⟩;have ab:=Nq hd.El;have y:(G.a.set n {s with log:=s.log++[Gx G i r d s]}).length=G.a.length:=Ev;have A:∀e:En,(Vu G.J e.f e.H).a<=(Vu (G.J.set i {r with d:=3,D:=rb,at':=0}) e.f e.H).a:=λe=>by
  unfold Vu;rw[Bf];by_cases e':i=3*e.f.toNat+e.H.toNat
  .rw[<-e',hd.J];simp[O]
  .simp[e']
 refine⟨⟨h.wf.cf,h.wf.a,λj c hc=>⟨(h.wf.cl j c hc).a,(h.wf.cl j c hc).b,λu hu=>by rw[show (R.Lr G i r d n s rb).a.length=G.a.length from y];exact(h.wf.cl j c hc).d u hu,(h.wf.cl j c hc).H⟩,h.wf.X,h.wf.b,by rw[show (R.Lr G i r d n s rb).a.length=G.a.length from y];exact h.wf.sv,λx t=>?_,h.wf.nm,h.wf.st,h.wf.nd,λu hu=>by rw[show (R.Lr G i r d n s rb).a.length=G.a.length from y];exact h.wf.d u hu⟩,⟨h.ws.ll,h.ws.lv,by simpa [R.Lr] using h.ws.sl,λj B o=>?_,h.ws.jl,h.ws.jb⟩,λk x t=>⟨(h.bk k x t).1.grow S,(h.bk k x t).2⟩,λj c k l hc hl=>(h.ln j c k l hc hl).grow (Le.refl M) S (λ_ q=>q),λf N=>(h.fl f N).grow (Le.refl M) S,λj B o T=>?_,λu C K=>?_,λu C e K Q g=>?_,h.jb,h.lv⟩
 .rcases BJ t with q|q
  .exact h.wf.e x q
  .rw[q];exact h.wf.e s (Ap hd.sv)
 .rcases v j B o with ⟨rfl,rfl⟩|⟨_,q⟩
  .refine⟨λe=>absurd e hd.ne,F.a,λe=>⟨(F.some e).1,(F.some e).2.1,Ev⟩,Ev,Ev,λ_=>⟨hd.pos,by simp only;omega,Ev,by have:=ID hd.pos;simp only;omega⟩,λht=>by have:=(F.g ht).1;omega⟩
  .exact h.ws.sn j B q
 .rcases v j B o with ⟨rfl,rfl⟩|⟨aa,q⟩
  .exact⟨d,hd.ok.Q,hd.ok.c,Ev,Ev,Ev,λ_=>⟨_,L⟩⟩
  .obtain⟨E,P⟩:=h.sn j B q T;refine⟨E,P.Q,P.c,P.b,P.C,λK=>?_,λK=>?_⟩
   .obtain⟨o1,o2⟩:=P.open' K;have ad:=(h.bk _ E P.Q).1.c;by_cases e:E.c=d.c
    .rw[e];refine⟨?_,?_⟩
     .unfold Jt;show (decide (1<=d.c)&&((((G.a.set n {s with log:=s.log++[Gx G i r d s]}))[(d.c-1).toNat]?).map (·.T)).getD false)=true;rw[show (d.c-1).toNat=n by have:=hd.c;omega];simp[hn,hd.T];have:=hd.c;omega
     .show ∀e∈Mj (G.a.set n {s with log:=s.log++[Gx G i r d s]}) d.c,_;rw[p];intro x t;rcases Bj.1 t with t|t
      .rw[e,z]at o2;exact o2 x t
      .rw[Bg.1 t,w];intro k;simp only[Key.mk.injEq]at k;omega
    .have J:¬n=(E.c-1).toNat:=by have:=hd.c;omega
     have a1:Jt (G.a.set n {s with log:=s.log++[Gx G i r d s]}) E.c=Jt G.a E.c:=by
      unfold Jt;rw[Bf,Ao J]
     have a2:Mj (G.a.set n {s with log:=s.log++[Gx G i r d s]}) E.c=Mj G.a E.c:=by
      unfold Mj;rw[Bf,Ao J]
     exact⟨a1.trans o1,by
      show ∀e∈Mj (G.a.set n {s with log:=s.log++[Gx G i r d s]}) E.c,_;rw[a2];exact o2⟩
   .obtain⟨e,g⟩:=P.h K;exact⟨e,g.grow S⟩
 .rcases H u C K with ⟨rfl,rfl⟩|⟨_,q⟩
  .have hl:=h.lg u s hd.sv;refine⟨λe g=>?_,?_,λj e g=>?_⟩
   .rcases Bj.1 g with g|g
    .exact hl.each e g
    .rw[Bg.1 g];exact⟨d,rb,by rw[w];exact hd.ok.Q,hd.c,I,I,hd.El,hd.pos⟩
   .rw[List.pairwise_append];refine⟨hl.ord,Ev,λa Q b hb=>?_⟩;rw[Bg.1 hb];intro W k2 X;have N:=h.a u s a hd.sv hd.T Q;simp only[Gx]at W k2 X ⊢;unfold Vy Vu at N;rw[W,k2,X]at N;simp only[AY]at N;rw[show 3*(i / 3)+i % 3=i by omega,hd.J]at N;simp only[Bw]at N;have K:a.a≠r.a:=λe=>((hd.ok.open' (Am h2)).2 a (by rw[z];exact Q)) (by simp[Oc,W,k2,X,e])
    omega
   .simp only at g ⊢;rcases CR j s.log.length with o|o
    .rw[A6 o]at g;rw[Ch U];exact hl.told j e g
    .rw[Bq o]at g;cases hjn:j-s.log.length with
     |zero=>
      rw[hjn]at g;simp at g;have:j=s.log.length:=U;subst this;rw[<-g];simp[Gx]
     |succ m=>rw[hjn]at g;simp at g
  .exact h.lg u C q
 .show Vy G.C (G.J.set i {r with d:=3,D:=rb,at':=0}) e;rcases H u C K with ⟨rfl,rfl⟩|⟨_,q⟩
  .rcases Bj.1 g with g|g
   .rcases h.a u s e hd.sv hd.T g with q|⟨q1,q2⟩
    .exact Aj q
    .exact Am ⟨q1,Dj q2 (A e)⟩
   .rw[Bg.1 g];refine Am ⟨?_,?_⟩
    .simp only[Gx,AY]
    .unfold Vu;simp only[Gx,AY];rw[show 3*(i / 3)+i % 3=i by omega];simp[O]
  .rcases h.a u C e q Q g with q|⟨q1,q2⟩
   .exact Aj q
   .exact Am ⟨q1,Dj q2 (A e)⟩
theorem Inv.done(h:Inv M G)(hi:i<9)(a:(EZ G i).d=2):Inv M (Oa G i):=by
 have⟨d,n,s,b,hd⟩:=h.W9 hi a;rw[hd.eq a];exact(h.Lr hi hd a).tell hi (r:={EZ G i with d:=3,D:=b,at':=0}) (by simp[R.Lr,(GG hd.J)]) I
theorem Inv.vy:∀(js:List Jb) {G:Wd} (_:Inv M G) (_:∃a,G.d=a++js),Inv M (Hy G js).2
 |[],G,h,_=>by
  simp only[Hy];have e:=h.wf.cf;unfold GA at e;exact h.QZ Fy Ev
 |j :: js,G,h,⟨a,ha⟩=>by
  simp only[Hy];have b:∀x∈j :: js,x∈G.d:=λx d=>by rw[ha];exact List.mem_append_right _ d
  have c:(js.length:Int)<=G.c.d:=by
   have:=h.ws.jl;rw[ha]at this;simp at this;omega
  split
  .rename_i f;have g:=h.ws.jb j (b j (Co));exact(h.QZ (js:=js) c (λx d=>⟨h.ws.jb x (b x (BQ _ d)),h.jb x (b x (BQ _ d))⟩)).done U f.1
  .exact Inv.vy js h ⟨a++[j],by rw[ha];simp⟩
theorem Inv.FQ(h:Inv M G):Inv M (FQ G).2:=Inv.vy G.d h ⟨[],rfl⟩
def cnt(l:List Sn):Nat:=(l.filter λr=>decide (0<r.a))
theorem Ka(r:Sn)(l:List Sn):cnt (r :: l)=(if 0<r.a then 1 else 0)+cnt l:=by grind [cnt]
theorem TM:∀(l:List Sn) (i:Nat) (r':Sn),cnt (l.set i r')<=cnt l+1
 |[],i,r'=>by simp[cnt]
 |r :: l,0,r'=>by
  rw[Av,Ka,Ka];split<;>split<;>omega
 |r :: l,i+1,r'=>by
  rw[Ax,Ka,Ka];have:=TM l i r';omega
theorem P6:∀(l:List Sn) (i:Nat) (r r':Sn),l[i]?=some r->(0<r'.a->0<r.a)->cnt (l.set i r')<=cnt l
 |[],i,r,r',h,_=>by simp at h
 |x :: l,0,r,r',h,hs=>by
  simp at h;subst h;rw[Av,Ka,Ka];split
  .rename_i q;rw[Ay (hs q)];omega
  .omega
 |x :: l,i+1,r,r',h,hs=>by
  rw[Ax,Ka,Ka];have:=P6 l i r r' (by simpa using h) hs;omega
theorem WY(a:0<r'.a->0<(EZ G i).a):cnt (G.J.set i r')<=cnt G.J:=by grind [EZ,List.set_eq_of_length_le,P6]
theorem yD(l:List Sn)(f:Sn->Sn)(a:∀r,(f r).a=r.a):cnt (l.map f)=cnt l:=by
 induction l with
 |nil=>rfl
 |cons r l ih=>rw[Cq,Ka,Ka,ih,a]
def EP(G:Wd):Prop:=(cnt G.J:Int)<=G.c.d
theorem EP.of(h:EP G)(hc:G'.c=G.c)(a:cnt G'.J<=cnt G.J):EP G':=by
 unfold EP at *;rw[hc];omega
theorem EP.same(h:EP G)(hc:G'.c=G.c)(a:G'.J=G.J):EP G':=by grind [R.EP.of]
theorem EP.send(h:EP G)to(p:Pk):EP (E9 G to p):=by grind [R.EP.same,Mb,KX]
theorem EP.H(h:EP G)(i k:Int)(l:Ln):EP (Eh G i k l):=h.same rfl rfl
theorem EP.J(h:EP G)(i:Nat)(r':Sn)(a:0<r'.a->0<(EZ G i).a):EP (EA G i r'):=h.of rfl (WY a)
theorem EP.Wc(h:EP G)(i:Nat)(a:r'.a=(EZ G i).a):EP (EA G i r'):=by grind [R.EP.J]
theorem EP.D(h:EP G)(i:Nat):EP (Ex G i):=h.send _ _
theorem EP.tell(h:EP G)(i:Nat):EP (JF G i):=by grind [JF,EP.Wc,R.EP.D]
theorem EP.KN(h:EP G)(p:Pk)(a b c:Int):EP (G8 G p a b c):=h.send _ _
theorem EP.D6(h:EP G)(p:Pk):EP (Mi G p):=by grind [Mi,R.EP.KN]
theorem EP.gather(h:EP G)(i:Nat)(p:Pk):EP (Gy G i p):=by grind [Gy,R.EP.same,R.JH.same,EP.Wc,R.Inv.D6,R.EP.D6]
theorem EP.known(h:EP G)(i:Nat)(p:Pk):EP (Hl G i p):=by
 unfold Hl;simp only;repeat' split
 .exact h.gather i p
 .exact h
 .exact h.KN p _ _ _
 .exact h
 .exact h.tell i
 all_goals grind [R.EP.KN]
theorem EP.C(h:EP G)(p:Pk):EP (Ib G p):=by
 unfold Ib;split
 .have z:∀K:Wd,EP K->∀i,EP (EA K i Ic):=λK a i=>a.J i Ic (λq=>by simp[Ic]at q)
  exact(z _ (z _ (z _ h (3*p.f.toNat)) (3*p.f.toNat+1)) (3*p.f.toNat+2)).same I I
 .exact h
theorem EP.ask(h:EP G)(i:Nat)(p:Pk)(c:0<=(EZ G i).a):EP (N0 G i p):=by
 unfold N0;simp only;repeat' split
 .grind [EP.tell,EP.Wc]
 .exact h
 .exact h.known i p
 .exact h
 .exact h.KN p _ _ _
 .exact h
 .exact h.KN p _ _ _
 .rename_i hn;refine EP.known ?_ i p;by_cases hz:(EZ G i).a=0
  .have a:¬G.c.d<=(FE G:Int):=λq=>hn ⟨hz,q⟩
   have b:FE G=cnt G.J:=rfl;rw[b]at a;refine Dj (Int.ofNat_le.2 (TM G.J i _)) ?_;show ((cnt G.J+1:Nat):Int)<=G.c.d;omega
  grind [R.EP.J]
theorem EP.heard(h:EP G)c(p:Pk):EP (Kl G c p):=by
 unfold Kl IL JS LP EG;simp only;repeat' split
 all_goals first
  |exact h
  |exact h.H _ _ _
  |exact h.send _ _
  |exact((h.H _ _ _).send _ _).H _ _ _
  |exact(h.H _ _ _).H _ _ _
theorem EP.Ki(h:EP G)(b:Inv M G)i:EP (Fv G i).2:=by
 unfold Fv;split
 .exact h
 .split
  .exact h
  .rename_i f e;have a:EP {G with D:=G.D.eraseIdx i.toNat}:=h.same I I;simp only;split
   .exact a
   .split
    .exact a
    .rename_i p _;split
     .unfold KB;split
      .exact a
      .refine EP.ask (a.C p) _ p ?_;have z:∀(K:Wd) (k:Nat),(∀r∈K.J,0<=r.a)->0<=(EZ K k).a:=λK k d=>by
        grind [EZ,Ic]
       have s0:∀r∈G.J,0<=r.a:=λr c=>by
        have⟨k,hk⟩:=Bp.1 c;exact(b.ws.sn k r hk).a.1
       grind [Ib,Ic]
     .exact a.heard _ p
theorem EP.EH(h:EP G)(i:Nat):EP (EH G i):=by
 unfold R.EH;simp only;repeat' split
 .exact h
 .exact EP.Wc h i I
 .exact EP.Wc h i I
 .refine EP.D ?_ i;exact EP.Wc h i I
theorem EP.EM(h:EP G)(i k:Int):EP (EM G i k):=by
 unfold R.EM EG Lq;simp only;repeat' split
 all_goals first
  |exact h
  |exact h.H _ _ _
  |exact(h.H _ _ _).send _ _
theorem EP.fold{α:Type}(f:Wd->α->Wd)(b:∀G a,EP G->EP (f G a)):∀(l:List α) (G:Wd),EP G->EP (l.foldl f G)
 |[],_,h=>h
 |a :: l,G,h=>EP.fold f b l (f G a) (b G a h)
theorem EP.tick(h:EP G):EP (Ni G):=by
 unfold Ni Nh;refine EP.fold _ (λK i a=>a.EH i) _ _ ?_;refine EP.fold _ (λK i a=>?_) _ _ h;exact EP.fold _ (λK k a=>a.EM _ _) _ _ a
theorem EP.done(h:EP G)(i:Nat):EP (Oa G i):=by
 unfold Oa;simp only;refine EP.tell ?_ i;exact(h.J i {EZ G i with d:=3,D:=(Fi ((IY ((G.a[((EZ G i).c-1).toNat]?).getD ⟨0,false,[]⟩).J (256*(((EZ G i).b.getD 0 0).toNat:Int)+(((EZ G i).b.getD 1 0).toNat:Int))).getD (⟨#[]⟩,⟨#[]⟩)).2 (Hw ((G.a[((EZ G i).c-1).toNat]?).getD ⟨0,false,[]⟩).J ((G.a[((EZ G i).c-1).toNat]?).getD ⟨0,false,[]⟩).log (256*(((EZ G i).b.getD 0 0).toNat:Int)+(((EZ G i).b.getD 1 0).toNat:Int)) (V.I8 ((IY ((G.a[((EZ G i).c-1).toNat]?).getD ⟨0,false,[]⟩).J (256*(((EZ G i).b.getD 0 0).toNat:Int)+(((EZ G i).b.getD 1 0).toNat:Int))).getD (⟨#[]⟩,⟨#[]⟩)).1 ((EZ G i).b.drop 2)).2)).getD [],at':=0} (λq=>q)).same I I
theorem EP.serve(h:EP G):EP (FQ G).2:=by
 unfold FQ;have:∀(l:List Jb),EP (Hy G l).2:=λl=>by
  induction l with
  |nil=>exact h.same rfl rfl
  |cons j l ih=>grind [Hy,EP.done,R.EP.same]
 exact this _
theorem EP.ends(h:EP G)uid:EP (GR G uid):=by grind [R.EP.of,GR,yD]
theorem EP.export(h:EP G)(name:Ac)kind:EP (E4 G name kind).2:=by
 unfold E4;repeat' split
 all_goals first
  |exact h
  |exact h.same rfl rfl
  |exact(h.ends _).same rfl rfl
theorem EP.Iy(h:EP G)(name:Ac):EP (Fb G name).2:=by
 unfold Fb;split
 .exact h
 .exact(h.ends _).same I I
theorem EP.imports(h:EP G)c(name:Ac):EP (FV G c name).2:=by grind [FV,R.EP.same]
theorem EP.call(h:EP G)(c l u p:Int)(arg:List It):EP (Gc G c l u p arg).2:=by
 unfold Gc EG;dsimp only;repeat' split
 all_goals first
  |exact h
  |exact(h.H _ _ _).send _ _
theorem EP.drop(h:EP G)i:EP (JM G i).2:=by grind [JM,R.EP.same]
theorem EP.copy(h:EP G)i:EP (JA G i).2:=by grind [JA,R.EP.same]
theorem EP.Sf(h:EP G)(i a b:Int):EP (Jz G i a b).2:=by grind [Jz,R.EP.same]
theorem EP.new{c:Cf}(h:fh c=G):EP G:=by grind [fh,EP,cnt,Ic,GA]
end R
structure Tw where
 p:Pl
 F:D9
 x:Nat
 v:RV
 E:D9
 G:R.Wd
def Tw.A(t:Tw):D9:=λk=>t.F k\/t.E k
def Vv(t:Tw):List Value:=[ptr t.p.x,Ey t.x]
theorem kw(t:Tw):(Vv t).length=2:=rfl
def Bn(N:Nat)(G:R.Wd):Prop:=∀c∈G.b,c.d<=N
structure Bd(N:Nat)(G:R.Wd):Prop where
 b:Bn N G
 iv:∃M,R.Inv M G
 rm:R.EP G
theorem Bd.le(h:Bd N G)(a:N<=N'):Bd N' G:=⟨λc hc=>Br (h.b c hc) a,h.iv,h.rm⟩
structure Ii(N:Nat)(t:Tw)(w:Aa):Prop where
 l:LW t.p t.F t.G w
 r:RW t.x t.v t.E t.G w
 ap:∀k,t.F k->¬t.E k
 bd:Bd N t.G
theorem Ii.lt{t:Tw}(h:Ii N t w):∀k,t.A k->k<w:=λk hk=>hk.elim (h.l.lt k) (h.r.lt k)
theorem Ii.y{t:Tw}(h:Ii N t w)(hk:DF E w w')(a:∀k,t.A k->¬E k):Ii N t w':=⟨h.l.y hk (λk q=>a k (Aj q)),h.r.y hk (λk q=>a k (Am q)),h.ap,h.bd⟩
theorem Ii.h{t:Tw}(h:Ii N t w)(a:DY w w'):Ii N t w':=h.y (DF.J a (λ_=>False)) (λ_ _ q=>q)
theorem Ii.left{t:Tw}(h:Ii N t w)(g:D8 t.F F' w w1):RW t.x t.v t.E t.G w1:=h.r.y g.H (λk q f=>h.ap k f q)
theorem Ii.both{t:Tw}(h:Ii N t w){a:RV}(b:LW p' F' G' w1)(g1:D8 t.F F' w w1)(c:RW t.x a E' G' w2)(g2:D8 t.E E' w1 w2)(d:Bd N' G'):
  Ii N' ⟨p',F',t.x,a,E',G'⟩ w2/\D8 t.A (Tw.A ⟨p',F',t.x,a,E',G'⟩) w w2:=by
 have a1:=g1.apart h.r.lt h.ap;have a2:∀k,F' k->¬E' k:=λk g e=>g2.apart b.lt (λk q f=>a1 k f q) k e g
 refine⟨⟨b.y g2.H a1,c,a2,d⟩,⟨(g1.H.mono (λ_ _ q=>Aj q)).andThen g2.H (λ_ _ q=>Am q),λk hk=>?_⟩⟩;rcases hk with hk|hk
 .rcases g1.fresh k hk with q|q
  .exact Aj (Aj q)
  .exact Am q
 .rcases g2.fresh k hk with q|q
  .exact Aj (Am q)
  .exact Am (Br g1.H.size q)
structure Hn(w0:Aa)(z:Nat->Option Obj)(b N:Nat)(Ts:List Tw)(L:List V.Kp)(lv K:Ad)(w:Aa):Prop where
 bo:V.Bo b L lv K w
 row:w.ownsRow 0 106 2 lv Ts.length (tab Vv Ts)
 tw:∀t∈Ts,Ii N t w
 inj:∀(i j:Nat) (t s:Tw),Ts[i]?=some t->Ts[j]?=some s->i≠j->∀k,t.A k->¬s.A k
 out:∀t∈Ts,∀k,t.A k->¬V.OY b L K k/\lv.ownBlock≠some k
 a:Below w0.heap.size w0 w
 base:∀k,(V.OY b L K k\/lv.ownBlock=some k\/∃t∈Ts,t.A k)->w0.heap.size<=k
 kept:∀k o,z k=some o->w.heap[k]?=some o
 c:∀k,(V.OY b L K k\/lv.ownBlock=some k\/∃t∈Ts,t.A k)->z k=none
theorem Hn.ji{c:List Tw}(h:Hn w0 z b N c L lv K w):∀j,lv.ownBlock=some j->¬V.OY b L K j:=λj a e=>by
 rcases e with rfl|q|⟨k,hk,t,f,q⟩
 .exact Fg h.row h.bo.cell Em a
 .exact OP h.row h.bo.row Em j a q
 .have⟨B,d⟩:=(h.bo.a k hk).2 t f;exact OP h.row d Em j a q
theorem Hn.free{a:List Tw}(h:Hn w0 z b N a L lv K w):∀k,w.heap.size<=k->z k=none:=λk hk=>by
 cases hz:z k with
 |none=>rfl
 |some o=>
  have:=(AB.1 (h.kept k o hz)).1;omega
theorem Hn.y{a:List Tw}(h:Hn w0 z b N a L lv K w)(hk:DF E w w')(c:∀k,(V.OY b L K k\/lv.ownBlock=k\/∃t∈a,t.A k)->¬E k)(d:∀k,E k->w0<=k/\z k=none):Hn w0 z b N a L lv K w':=
 ⟨h.bo.keep hk (λj q=>c j (Aj q)),hk.row h.row (λj q=>c j (Am (Aj q))),λt f=>(h.tw t f).y hk (λk q=>c k (Am (Am ⟨t,f,q⟩))),h.inj,h.out,h.a.trans (hk.h h.a.size (λk q=>(d k q).1)),h.base,λk o q=>hk.at (h.kept k o q) (λe=>by rw[(d k e).2]at q;cases q),h.c⟩
theorem Hn.h{a:List Tw}(h:Hn w0 z b N a L lv K w)(c:DY w w'):Hn w0 z b N a L lv K w':=h.y (DF.J c (λ_=>False)) (λ_ _ q=>q) (λ_ q=>q.elim)
theorem Hn.lt{a:List Tw}(h:Hn w0 z b N a L lv K w):∀k,(V.OY b L K k\/lv.ownBlock=k\/∃t∈a,t.A k)->k<w:=λk hk=>by
 rcases hk with q|q|⟨t,c,q⟩
 .exact h.bo.lt q
 .exact(h.row.lt k q).2
 .exact(h.tw t c).lt k q
theorem Hn.more{c:List Tw}(h:Hn w0 z b N c L lv K w)(d:N<=N'):Hn w0 z b N' c L lv K w:=
 ⟨h.bo,h.row,λt a=>⟨(h.tw t a).l,(h.tw t a).r,(h.tw t a).ap,(h.tw t a).bd.le d⟩,h.inj,h.out,h.a,h.base,h.kept,h.c⟩
theorem xI{b:List Tw}{t c:Tw}(hi:b[i]?=t)(d:c.p.x=t.p.x)(f:c.x=t.x):tab Vv (b.set i c)=tab Vv b:=by
 have e:Vv c=Vv t:=by simp[Vv,d,f]
 induction b generalizing i with
 |nil=>rfl
 |cons a b ih=>
  cases i with
  |zero=>
   simp at hi;subst hi;simp[tab,e]
  |succ i=>grind [tab]
theorem Hn.step{m:List Tw}(h:Hn w0 z b N m L lv K w){t l:Tw}(hi:m[i]?=t)(F:Ii N' l w')(n:D8 t.A l.A w w')(E:l.p.x=t.p.x)(G:l.x=t.x)(B:N<=N'):Hn w0 z b N' (m.set i l) L lv K w':=by
 have r:=Ap hi;have hl:=GG hi;have y:∀k,t.A k->w0.heap.size<=k:=λk q=>h.base k (Am (Am ⟨t,r,q⟩))
 have A:∀(j:Nat) (s:Tw),(m.set i l)[j]?=some s->(j=i/\s=l)\/(j≠i/\m[j]?=some s):=λj s p=>by
  grind
 have g:∀s∈m.set i l,s=l\/∃j,j≠i/\m[j]?=some s:=λs d=>by
  grind [List.mem_iff_getElem?]
 have C:∀(j:Nat) (s:Tw),j≠i->m[j]?=some s->∀k,l.A k->¬s.A k:=λj s p d k hk v=>by
  rcases n.fresh k hk with q|q
  .exact h.inj i j t s hi d (λe=>p e.symm) k q v
  .have:=(h.tw s (Ap d)).lt k v;omega
 refine⟨h.bo.keep n.H (λj q f=>(h.out t r j f).1 q),?_,λs d=>?_,λa c s u d hu D=>?_,λs d k hk=>?_,h.a.trans (n.H.h h.a.size y),λk hk=>?_,λk o q=>n.H.at (h.kept k o q) (λf=>by rw[h.c k (Am (Am ⟨t,r,f⟩))]at q;cases q),λk hk=>?_⟩
 .rw[BG,xI hi E G];exact n.H.row h.row (λj q f=>(h.out t r j f).2 q)
 .rcases g s d with rfl|⟨j,p,d⟩
  .exact F
  .have x:=(h.tw s (Ap d)).y n.H (λk q f=>h.inj j i s t d hi p k q f);exact⟨x.l,x.r,x.ap,x.bd.le B⟩
 .exact afK
 .rcases g s d with rfl|⟨j,p,d⟩
  .rcases n.fresh k hk with q|q
   .exact h.out t r k q
   .exact⟨λf=>by have:=h.lt k (Aj f);omega,λf=>by have:=h.lt k (Am (Aj f));omega⟩
  .exact h.out s (Ap d) k hk
 .rcases hk with q|q|⟨s,d,q⟩
  .exact h.base k (Aj q)
  .exact h.base k (Am (Aj q))
  .rcases g s d with rfl|⟨j,p,d⟩
   .rcases n.fresh k q with q|q
    .exact y k q
    .exact Br h.a.size q
   .exact h.base k (Am (Am ⟨s,Ap d,q⟩))
 exact afK
theorem Hn.J{d:List Tw}(h:Hn w0 z b N d L lv K w)(e:∀j,O.ownBlock=some j->w0<=j/\z j=none/\lv.ownBlock≠j/\∀t∈d,¬t.A j)(g:V.Bo b L' lv K' w')(c:D8 (λj=>V.OY b L K j\/O.ownBlock=j) (V.OY b L' K') w w'):Hn w0 z b N d L' lv K' w':=by
 refine⟨g,c.H.row h.row (λj q f=>?_),λt a=>(h.tw t a).y c.H (λk q f=>?_),h.inj,λt a k hk=>⟨λf=>?_,(h.out t a k hk).2⟩,h.a.trans (c.H.h h.a.size (λk q=>?_)),λk hk=>?_,λk o q=>c.H.at (h.kept k o q) (λf=>?_),λk hk=>?_⟩
 .all_goals grind [Hn.ji]
 .rcases f with f|f
  .exact(h.out t a k q).1 f
  .exact(e k f).2.2.2 t a q
 .rcases c.fresh k f with (q|q)|q
  .exact(h.out t a k hk).1 q
  .exact(e k q).2.2.2 t a hk
  .have:=(h.tw t a).lt k hk;omega
 all_goals grind [Hn,V.Bo,D8,V.OY,Hn.free]
theorem Hn.push{c:List Tw}(h:Hn w0 z b N c L lv K w){t:Tw}(hk:DF (λk=>k=b\/lv.ownBlock=k) w w')(hc:Dy w' b #[lv',K] 80)(H:w'.ownsRow 0 106 2 lv' (c+1) (tab Vv c++Vv t))(m:∀j,lv'.ownBlock=some j->lv.ownBlock=j\/w<=j)(y:Ii N t w)(A:∀k,t.A k->(w0<=k/\z k=none)/\¬(V.OY b L K k\/lv.ownBlock=k\/∃t∈c,t.A k)):Hn w0 z b N (c++[t]) L lv' K w':=by
 have p:∀j,V.OY b L K j->j≠b->¬(j=b\/lv.ownBlock=some j):=λj q n f=>by
  all_goals grind [Hn.ji]
 have r:V.Bo b L lv' K w':=by
  refine⟨hc,hk.row h.bo.row (λj q=>p j (Am (Aj q)) (λe=>h.bo.kb (e ▸ q))),λk l=>⟨(h.bo.a k l).1,λs a=>?_⟩⟩;have⟨B,x⟩:=(h.bo.a k l).2 s a;exact⟨B,hk.row x (λj q=>p j (Am (Am ⟨k,l,s,a,q⟩)) (λe=>(h.bo.apart x).1 (e ▸ q)))⟩
 have hold:∀s∈c,∀k,s.A k->¬(k=b\/lv.ownBlock=some k):=λs a k q f=>by
  rcases f with rfl|f
  .exact(h.out s a k q).1 (Aj I)
  .exact(h.out s a k q).2 f
 have g:∀k,t.A k->¬(k=b\/lv.ownBlock=some k):=λk q f=>by
  rcases f with rfl|f
  .exact(A k q).2 (Aj (Aj I))
  all_goals grind
 have v:∀k,t.A k->lv'.ownBlock≠some k:=λk q f=>by
  rcases m k f with e|e
  .exact g k q (Am e)
  .have:=y.lt k q;omega
 have d:∀(j:Nat) (s:Tw),(c++[t])[j]?=some s->(j<c.length/\c[j]?=some s)\/(j=c.length/\s=t):=λj s G=>by
  all_goals grind
 refine⟨r,?_,λs a=>?_,λi j s u a hu n=>?_,λs a k q=>?_,h.a.trans (hk.h h.a.size (λk q=>?_)),λk q=>?_,λk o q=>hk.at (h.kept k o q) (λf=>?_),λk q=>?_⟩
 .all_goals grind [Jn]
 .rcases Bj.1 a with a|a
  .exact(h.tw s a).y hk (hold s a)
  .rw[Bg.1 a];exact y.y hk g
 .rcases d i s a with ⟨C,D⟩|⟨C,rfl⟩
  .rcases d j u hu with ⟨E,F⟩|⟨E,rfl⟩
   .exact h.inj i j s u D F n
   all_goals grind
  all_goals grind
 .rcases Bj.1 a with a|a
  .refine⟨(h.out s a k q).1,λf=>?_⟩;rcases m k f with e|e
   .exact(h.out s a k q).2 e
   .have:=(h.tw s a).lt k q;omega
  all_goals grind
 all_goals grind [Hn,V.OY,V.Bo,Hn.free]
theorem Hn.kh{a:List Tw}(h:Hn w0 z b N a L lv K w)(c:∀k o,z' k=some o->w.heap[k]?=o)(d:∀k,(V.OY b L K k\/lv.ownBlock=k\/∃t∈a,t.A k)->z' k=none):Hn w0 z' b N a L lv K w:=by grind [Hn]
def Ya(c:Int):Prop:=-9223372036854775808<=c/\c<=9223372036854775807
structure LD where
 J:Int
 on:Int
 a:Int
 b:Int
 c:Int
 d:Int
 s:List UInt8
 t:List UInt8
 L:Value
 P:Pk
 W:R.Cf
abbrev LD.cells(o:LD):Array Value:=#[Z o.J,Z o.on,Z o.a,Z o.b,Z o.c,Z o.d,.string (str o.s),.string (str o.t),o.L,
 Z o.P.J,Z o.P.f,Z o.P.b,Z o.P.H,Z o.P.a,Z o.P.c,Z o.P.Ez,Z o.P.off,.bool o.P.e,.string (str o.P.d),
 Z o.W.b,Z o.W.a,Z o.W.c,Z o.W.e,Z o.W.d]
abbrev LD.val(o:LD):Value:=.agg o.cells
structure qh(w:Aa)(vb off:Nat)(o:LD)(v:List V.It):Prop where
 cell:∀(j:Nat) (u:Ad),o.cells[j]?=some u->w.cell? (Y vb (off+j))=some u
 s:o.s.length<=1000000000000000
 J:V.Ff w o.L v
 len:v.length<=9000000000000
 c:Ya o.c
 on:Ya o.on
def bK(w:Aa)(va:Af)(vn:Nat):Prop:=vn=0\/∃vb off,va=Y vb off/\vb<w/\∀i,i<vn->∃o v,qh w vb (off+i*24) o v
namespace R
variable {M:Bk}{i k:Int}{a b c:List Sv}{l l':Ln}{G:Wd}
structure iW(a b:List Ln):Prop where
 len:b.length=a.length
 each:∀(k:Nat) (l':Ln),b[k]?=some l'->∃l,a[k]?=some l/\l'.a=l.a
structure X7(a b:List Cl):Prop where
 len:b.length=a.length
 each:∀(i:Nat) (c':Cl),b[i]?=some c'->∃c,a[i]?=some c/\c'.b=c.b/\c'.d=c.d/\iW c.a c'.a
structure VB(a b:List Sv):Prop where
 len:b.length=a.length
 each:∀(u:Nat) (s':Sv),b[u]?=some s'->∃s,a[u]?=some s/\s'.J=s.J/\(s.T=false->s'.T=false/\s'.log=s.log)/\∃t,s'.log=s.log++t
structure Sm(G G':Wd):Prop where
 c:G'.c=G.c
 e:G'.e=G.e
 f:G'.f=G.f
 sv:VB G.a G'.a
 cl:X7 G.b G'.b
theorem iW.refl(a:List Ln):iW a a:=⟨rfl,λ_ l h=>⟨l,h,rfl⟩⟩
theorem X7.refl(a:List Cl):X7 a a:=by grind [X7,iW.refl]
theorem VB.refl(a:List Sv):VB a a:=⟨rfl,λ_ s h=>⟨s,h,rfl,λq=>⟨q,rfl⟩,[],Ev⟩⟩
theorem Sm.refl(G:Wd):Sm G G:=by grind [Sm,VB.refl,X7.refl]
theorem iW.trans{a b c:List Ln}(h:iW a b)(k:iW b c):iW a c:=by grind [iW]
theorem X7.trans{a b c:List Cl}(h:X7 a b)(k:X7 b c):X7 a c:=⟨k.len.trans h.len,λi l hl=>by
 have⟨l1,d,e,f,g⟩:=k.each i l hl;have⟨l2,g1,g2,g3,g4⟩:=h.each i l1 d;exact⟨l2,g1,e.trans g2,f.trans g3,g4.trans g⟩⟩
theorem VB.trans(h:VB a b)(k:VB b c):VB a c:=⟨k.len.trans h.len,λi l hl=>by
 have⟨l1,d,e,f,p,g⟩:=k.each i l hl;have⟨l2,g1,g2,g3,r,g4⟩:=h.each i l1 d;refine⟨l2,g1,e.trans g2,λq=>?_,r++p,by rw[g,g4,Bs]⟩;have⟨j,m⟩:=g3 q;have⟨n,o⟩:=f j;exact⟨n,o.trans m⟩⟩
theorem Sm.trans{a b c:Wd}(h:Sm a b)(k:Sm b c):Sm a c:=⟨k.c.trans h.c,k.e.trans h.e,k.f.trans h.f,h.sv.trans k.sv,h.cl.trans k.cl⟩
theorem Sm.send(G:Wd)to(p:Pk):Sm G (E9 G to p):=by grind [Sm,E9,VB.refl,X7.refl]
theorem iW.set{a:List Ln}{k:Nat}(h:∀l,a[k]?=some l->l'.a=l.a):iW a (a.set k l'):=by grind [iW]
theorem sQ{c:Cl}(hc:G.b[i.toNat]?=c)(hl:c.a[k.toNat]?=l):Ia G i k=l:=by
 unfold Ia;rw[hc];simp[hl]
theorem Sm.H(h:l'.a=(Ia G i k).a):Sm G (Eh G i k l'):=by
 refine⟨I,I,I,VB.refl _,⟨by simp[Eh],λj b a=>?_⟩⟩;unfold Eh at a
 grind [iW.set,sQ,iW.refl]
theorem Sm.J(G:Wd)(i:Nat)(r:Sn):Sm G (EA G i r):=by grind [Sm,EA,VB.refl,X7.refl]
theorem Sm.X(G:Wd)(f:List Fl):Sm G {G with D:=f}:=by grind [Sm,VB.refl,X7.refl]
theorem Sm.other(G:Wd)(l:List Int)(s:List Sn)(j:List Jb):Sm G {G with C:=l,J:=s,d:=j}:=by grind [Sm,VB.refl,X7.refl]
theorem Sm.piece(G:Wd)(i k:Int)(b:Bool):Sm G (EG G i k b):=Sm.send _ _ _
theorem Sm.jY(G:Wd)(i k:Int):Sm G (Lq G i k):=Sm.send _ _ _
theorem Sm.EM(G:Wd)(i k:Int):Sm G (EM G i k):=by
 unfold R.EM;simp only;split
 .exact Sm.refl G
 .split
  .exact Sm.H I
  .split
   .exact Sm.H I
   .split
    .exact(Sm.H (G:=G) (i:=i) (k:=k) (l':={Ia G i k with C:=G.c.c,e:=(Ia G i k).e-1}) I).trans (Sm.piece _ _ _ _)
    .exact(Sm.H (G:=G) (i:=i) (k:=k) (l':={Ia G i k with C:=G.c.c,e:=(Ia G i k).e-1}) I).trans (Sm.jY _ _ _)
theorem Sm.fold{α:Type}(f:Wd->α->Wd)(b:∀G a,Sm G (f G a)):∀(l:List α) (G:Wd),Sm G (l.foldl f G)
 |[],G=>Sm.refl G
 |a :: l,G=>(b G a).trans (Sm.fold f b l (f G a))
theorem Sm.JU(G:Wd)(i:Nat):Sm G (Ex G i):=Sm.send _ _ _
theorem Sm.EH(G:Wd)(i:Nat):Sm G (EH G i):=by
 unfold R.EH;simp only;split
 .exact Sm.refl G
 .split
  .exact Sm.J _ _ _
  .split
   .exact Sm.J _ _ _
   .exact(Sm.J G i _).trans (Sm.JU _ _)
theorem Sm.tick(G:Wd):Sm G (Ni G):=by grind [Ni,Nh,Sm.trans,Sm.fold,Sm.EH,Sm.EM]
theorem Sm.rest(G:Wd)(i k:Int):Sm G (JS G i k):=Sm.H rfl
theorem Sm.got(G:Wd)i(p:Pk):Sm G (LP G i p):=Sm.send _ _ _
theorem Sm.D(G:Wd)i(p:Pk):Sm G (IL G i p):=by
 unfold IL;simp only;split
 .exact Sm.refl G
 .split
  .split
   .exact Sm.H I
   .exact((Sm.H (G:=G) (i:=i) (k:=p.H) (l':={Ia G i p.H with H:=(Ia G i p.H).H++p.d,f:=(Ia G i p.H).f+1,X:=DL (Ia G i p.H).b}) I).trans (Sm.got _ _ _)).trans (Sm.rest _ _ _)
  .exact Sm.got _ _ _
theorem Sm.heard(G:Wd)i(p:Pk):Sm G (Kl G i p):=by grind [Kl,Sm.refl,Sm.trans,Sm.H,Sm.piece,Sm.rest,Sm.D]
theorem Sm.KN(G:Wd)(p:Pk)(a b c:Int):Sm G (G8 G p a b c):=Sm.send _ _ _
theorem Sm.tell(G:Wd)(i:Nat):Sm G (JF G i):=by
 unfold JF;exact(Sm.JU G i).trans (Sm.J _ _ _)
theorem Sm.D6(G:Wd)(p:Pk):Sm G (Mi G p):=by grind [Mi,Sm.KN,Sm.refl]
theorem Sm.gather(G:Wd)(i:Nat)(p:Pk):Sm G (Gy G i p):=by grind [Sm,Gy,Sm.refl,Sm.trans,Sm.D6,VB.refl,X7.refl,Sm.J]
theorem Sm.known(G:Wd)(i:Nat)(p:Pk):Sm G (Hl G i p):=by grind [Hl,Sm.gather,Sm.refl,Sm.KN,Sm.tell]
theorem Sm.C(G:Wd)(p:Pk):Sm G (Ib G p):=by grind [Sm,Ib,VB.refl,X7.refl]
theorem Sm.ask(G:Wd)(i:Nat)(p:Pk):Sm G (N0 G i p):=by
 unfold N0;simp only;split
 .split
  .exact(Sm.J G i _).trans (Sm.tell _ _)
  .exact Sm.refl G
 .split
  .exact Sm.known _ _ _
  .split
   .exact Sm.refl G
   .split
    .exact Sm.KN _ _ _ _ _
    .split
     .exact Sm.refl G
     .split
      .exact Sm.KN _ _ _ _ _
      .exact(Sm.J G i _).trans (Sm.known _ _ _)
theorem Sm.Q(G:Wd)(p:Pk):Sm G (KB G p):=by
 unfold KB;split
 .exact Sm.refl G
 .exact(Sm.C G p).trans (Sm.ask _ _ _)
theorem Sm.Ki(G:Wd)i:Sm G (Fv G i).2:=by
 unfold Fv
 grind [Fv,Sm.refl,Sm.trans,Sm.X,Sm.Q,Sm.heard]
theorem Sm.drop(G:Wd)i:Sm G (JM G i).2:=by grind [JM,Sm.refl,Sm.X]
theorem Sm.copy(G:Wd)i:Sm G (JA G i).2:=by grind [JA,Sm.refl,Sm.X]
theorem Sm.Sf(G:Wd)(i a b:Int):Sm G (Jz G i a b).2:=by grind [Jz,Sm.refl,Sm.X]
theorem VB.done{s:Sv}(d:a[n]?=s)(b:s.T=true)(e:En):VB a (a.set n {s with log:=s.log++[e]}):=by
 refine⟨Ev,λu c hu=>?_⟩;rw[Bf]at hu;split at hu
 .grind
 .exact⟨c,hu,I,λq=>⟨q,I⟩,[],Ev⟩
theorem Sm.done(h:Inv M G){i:Nat}(hi:i<9)(a:(EZ G i).d=2):Sm G (Oa G i):=by
 have⟨d,n,s,b,hd⟩:=h.W9 hi a;rw[hd.eq a];refine Sm.trans ?_ (Sm.tell _ _);unfold Lr;exact⟨I,I,I,VB.done hd.sv hd.T _,X7.refl _⟩
theorem Sm.Hy:∀(js:List Jb) {G:Wd} (_:Inv M G) (_:∃a,G.d=a++js),Sm G (Hy G js).2
 |[],G,_,_=>by
  unfold R.Hy;exact⟨rfl,rfl,rfl,VB.refl _,X7.refl _⟩
 |j :: js,G,h,⟨a,ha⟩=>by
  unfold R.Hy;split
  .rename_i f;unfold Km at f;have c:j∈G.d:=by rw[ha];simp
   have i:=h.ws.jb j c;refine Sm.trans (b:={G with d:=js}) ⟨I,I,I,VB.refl _,X7.refl _⟩ ?_;have g:Inv M {G with d:=js}:=h.QZ (by
    have:=h.ws.jl;rw[ha]at this;simp at this;omega) (λq e=>⟨h.ws.jb q (by rw[ha];simp[e]),h.jb q (by rw[ha];simp[e])⟩)
   exact Sm.done g U f.1
  .exact Sm.Hy js h ⟨a++[j],by rw[ha];simp⟩
theorem Sm.serve(h:Inv M G):Sm G (FQ G).2:=Sm.Hy G.d h ⟨[],rfl⟩
end R
theorem K5(h:w.ownsRow B e size K n xs){j:Array Value}{t:Ag}{f:Nat×Nat}(d:w.heap[b]?=some (.cells j t f))(a:e≠t):K.ownBlock≠b:=λq=>by
 rcases h.2 with ⟨rfl,_⟩|⟨g,cap,c,rfl,_,i,_⟩
 .cases q
 .cases q;exact ES i d a I
theorem MA(h:w.ownsRow B e size K n xs){c:Array MapEntry}(d:w.heap[b]?=some (.map c cl)):K.ownBlock≠b:=λq=>by
 rcases h.2 with ⟨rfl,_⟩|⟨g,cap,a,rfl,_,f,_⟩
 .cases q
 .cases q;exact On f d I
theorem LW.net(h:LW p F G w){fl:List R.Fl}(u:Dy w p.n #[K] 110)(A:w.ownsRow 0 166 3 K G.D (tab Gp G.D))(hn:Kh w p.n K fl w')(H:∀j,K.ownBlock=some j->F j)(B:R.Wf {G with D:=fl}):
  ∃C,LW p C {G with D:=fl} w'/\D8 F C w w':=by
 have⟨P,s,v,z⟩:=h.A;have⟨⟨E,Q,k2,S⟩,hk⟩:=hn;have T:=hk.size;have at':∀{b:Nat} {M:Array Value} {t:Ag} {f:Nat×Nat},w.heap[b]?=some (.cells M t f)->t≠110->t≠166->w'.heap[b]?=some (.cells M t f):=λa m o=>hk.at a (by
  rintro (e|e)
  .exact ES a u m e
  .exact K5 A a (λq=>o q.symm) e)
 have d:∀{α:Type} {k:Ag} {b:Nat} {lit:α->Lit} {g:α->Option Int} {n:Nat},Mp w k b lit g n->Mp w' k b lit g n:=λJ=>by
  have⟨X,q,L⟩:=J.block;refine J.keep hk ?_;rintro (e|e)
  .exact(On u L) e.symm
  .exact MA A L e
 have r:Ip w F (λk=>k=p.n\/K.ownBlock=some k):=Ip.iw (λb a=>by
  rcases a with rfl|a
  .exact Aj ⟨_,_,_,u,Em⟩
  .rcases A.2 with ⟨rfl,_⟩|⟨g,cap,l,rfl,_,O,_⟩
   .cases a
   .cases a;exact Aj ⟨_,_,_,O,Em⟩)
 refine⟨λk=>F k\/E.ownBlock=some k,⟨B,h.g,at' h.bx Em Em,?_,⟨E,Q,k2,λj x=>Am x⟩,?_,d h.e,λi c hc=>at' (h.cl i c hc) Em Em,λi c hc=>?_,λi c hc=>d (h.d i c hc),⟨Aj P,Aj s,Aj v,Aj z⟩,λi hi=>?_,h.inj,λk y=>?_⟩,?_⟩
 .have⟨l,m,o⟩:=h.DW;exact⟨l,at' m Em Em,o⟩
 .exact h.a.keep hk r (λ_ q=>Aj q)
 .have⟨W,m,o,N⟩:=h.ln i c hc;exact⟨W,at' m Em Em,o,N.h hk r.sv (λ_ q=>Aj q)⟩
 .have⟨a1,a2,a3,a4⟩:=h.b i hi;exact⟨Aj a1,Aj a2,Aj a3,a4⟩
 .rcases y with q|q
  .exact Ai (h.lt k q) T
  .exact(Ba k2 k q).2
 .refine⟨hk.mono (λk _ q=>?_),λk q=>?_⟩
  .rcases q with rfl|q
   .exact s
   .exact H k q
  .rcases q with q|q
   .exact Aj q
   .rcases S with e|⟨j,e,x⟩
    .exact Aj (H k (e ▸ q))
    .rw[e]at q;cases q;exact Am x
theorem Fa(h:w.ownsRow B e size K n xs):∃a c,K=.slice a n c:=by
 rcases h.2 with ⟨rfl,rfl⟩|⟨g,cap,b,rfl,_⟩;all_goals grind
theorem LW.send(h:LW p F G w)to(i:Pk)(l:EC i):
  D7 245 #[ptr p.n,Z to,pv i] w Ep λe=>∃j,LW p j (R.E9 G to i) e/\D8 F j w e:=by
 have⟨K,g,b,n⟩:=h.bn;have m:=h.wf.X;have d:=h.wf.J (to:=to) l;obtain⟨a,c,rfl⟩:=Fa b;unfold R.E9 at d ⊢;by_cases hl:G.D.length<40
 .rw[Ay hl]at d ⊢;refine cm (oE g b hl l) λe hn=>?_
  grind [LW.net]
 .rw[Ao hl];have f:G.D.length=40:=U;rw[f]at g;refine cm (oD g) λe k=>?_
  exact⟨I,F,h.h k,D8.J F k⟩
theorem LW.D(h:LW p F G w):D7 31 #[ptr p.x] w (Z G.D) λf=>f=w:=by
 have⟨K,d,b,_⟩:=h.bn;obtain⟨a,c,rfl⟩:=Fa b;have e:=h.bx;have c0:=EI e 0;have c1:=EI d 0;clear e d b h;generalize G.D.length=m at *
 delta D7
 go_in
 go_wp2_with (first|(go_at_call 57;go_in))
 go_returns;exact DN
theorem aap{x cs:Nat}{c:Nat}{v1:Ab}(b:Dy w x #[ptr n,ptr s,EJ cs cn cap] 71)(a:Dy w n #[EJ g m c] 110)(hi:i<m)(d:w.cell? (Y g (i*3))=Z v0)(e:w.cell? (Y g (i*3+1))=some (.string v1)):
  D7 136 #[ptr x,Z i] w (.tuple #[Z v0,.string v1,Z 0]) (DY w):=by
 have c0:=EI b 0;have c1:=EI a 0;clear b a;have f:0<=(i:Int):=U;have h:((i:Int)<m):=U
 delta D7
 go_in
 go_wp2_with (first|(go_at_call 89;go_in)|(go_at_call 151;go_in))
 exact afM
theorem LW.adF(h:LW p F G w){f:R.Fl}(d:G.D[i]?=f):D7 136 #[ptr p.x,Z i] w (.tuple #[Z f.to,.string (str f.s),Z 0]) (DY w):=by
 have⟨K,e,a,_⟩:=h.bn;have hi:=GG d;rcases a.2 with ⟨_,m⟩|⟨g,cap,b,rfl,_,n,_,_,k,c⟩
 .omega
 .have q:∀j,j<3->b[i*3+j]?=(Gp f)[j]?:=λj l=>by
   rw[<-Jh JN G.D i j f d l,<-c,BI,Ay U];simp
  refine aap h.bx e hi ?_ ?_
  .have:=q 0 U
   grind [World.cell?,Gp]
  grind [World.cell?,Gp]
theorem ZC(s:Ac):R.DL s=(s+7) / 8:=by
 unfold R.DL;omega
theorem IC(s:Ac)(w:Aa)(b:s.length<=1000):D7 203 #[.string (str s)] w (Z (R.DL s)) λa=>a=w:=by
 have hz:=Er s;rw[ZC];generalize str s=S at *;generalize s.length=n at *;have e1:IntKind.i64.wrap ((n:Int)+8)=(n:Int)+8:=Iz;have e2:IntKind.i64.wrap ((n:Int)+8-1)=(n:Int)+7:=Iz;have e3:IntKind.i64.wrap (((n:Int)+7).tdiv 8)=((n:Int)+7) / 8:=by
  rw[CM U,BS];omega
 delta D7
 go_in
 go_wp2;go_returns;exact DN
theorem V2(s:Ac)(k:Nat)(w:Aa)(e:s.length<=1000)(hk:8*k<s):D7 205 #[.string (str s),Z k] w (.string (str (R.EY s k))) λd=>d=w:=by
 have hz:=Er s;have a:Hid ((str s).extract (k*8) (min (k*8+8) s.length)=str (R.EY s (k:Int))):=by
  show _=_;rw[Ho];congr 1;unfold R.EY;rw[AY,BZ 8 k];apply BF;intro i;simp only[BI,Cn];by_cases b:i<8
  .rw[Ay b];by_cases c:i<min (k*8+8) s.length-k*8
   .rw[Ay c]
   .rw[Ao c,BM];omega
  .rw[Ao b,Ao];omega
 generalize str (R.EY s (k:Int))=T at *;generalize str s=S at *;generalize s.length=n at *;have e1:IntKind.i64.wrap ((k:Int)*8)=((k*8:Nat):Int):=Iz;have e2:IntKind.i64.wrap (((k*8:Nat):Int)+8)=((k*8+8:Nat):Int):=Iz
 delta D7
 go_in
 go_wp2
 .go_returns;refine⟨?_,I⟩;have:=Dw a;rw[Nat.min_eq_right U]at this;rw[<-this];rfl
 .go_returns;refine⟨?_,I⟩;have:=Dw a;rw[Ct U]at this;rw[<-this];show Ending.returned (Value.string (S.extract (k*8) ((k:Int)*8+8).toNat))=_;rw[show ((k:Int)*8+8).toNat=k*8+8 by omega]
structure acK(w:Aa)(b k:Nat)(x:J7):Prop where
 a0:w.cell? (Y b (k*10))=some (Z x.d)
 a1:w.cell? (Y b (k*10+1))=some (Z x.a)
 a2:w.cell? (Y b (k*10+2))=some x.rv
 a3:w.cell? (Y b (k*10+3))=some (Z x.c)
 a4:w.cell? (Y b (k*10+4))=some (Z x.g)
 a5:w.cell? (Y b (k*10+5))=some (.string (str x.h))
 a6:w.cell? (Y b (k*10+6))=some (Z x.X)
 a7:w.cell? (Y b (k*10+7))=some (.string (str x.H))
 a8:w.cell? (Y b (k*10+8))=some (Z x.C)
 a9:w.cell? (Y b (k*10+9))=some (Z x.e)
theorem sU{xs:List J7}(h:Dy w b (tab J7.cells xs).toArray 129)(d:xs[k]?=x):acK w b k x:=by
 have q:∀j v,j<10->x.cells[j]?=some v->EB w b (k*10+j) v:=λj v a c=>E7 h (by rw[Jh J7.len xs k j x d a];exact c)
 exact⟨q 0 _ U I,q 1 _ U I,q 2 _ U I,q 3 _ U I,q 4 _ U I,q 5 _ U I,q 6 _ U I,q 7 _ U I,q 8 _ U I,q 9 _ U I⟩
theorem Lc{V:Ad}{l:List R.It}(h:Gg w F V l):∃a n c,V=.slice a n c:=by grind [Gg]
structure af1(w:Aa)(p:Pl)(G:R.Wd)(i:Nat)(c:R.Cl):Prop where
 a0:w.cell? ⟨p.cb i,0,none⟩=some (Z i)
 a1:w.cell? ⟨p.cb i,1,none⟩=some (Z c.b)
 a2:w.cell? ⟨p.cb i,2,none⟩=some (.map (some (p.bm i)))
 a3:w.cell? ⟨p.cb i,3,none⟩=some (.slice (some ⟨p.lb i,0,none⟩) c.a.length c.a.length)
 a4:w.cell? ⟨p.cb i,4,none⟩=some (Z G.c.c)
 a5:w.cell? ⟨p.cb i,5,none⟩=some (Z G.c.e)
 a6:w.cell? ⟨p.cb i,6,none⟩=some (ptr p.n)
theorem P4(h:LW p F G w)(hc:G.b[i]?=c):af1 w p G i c:=by
 have a:=h.cl i c hc;exact⟨EI a 0,EI a 1,EI a 2,EI a 3,EI a 4,EI a 5,EI a 6⟩
theorem LW.H(h:LW p F G w)(hc:G.b[i]?=c)(hl:c.a[k]?=l):∃a x,Dy w (p.lb i) (tab J7.cells a).toArray 129/\MG c.a a/\a[k]?=some x/\VA l x/\acK w (p.lb i) k x/\Iq w F c.a a/\Gg w F x.rv l.D:=by grind [LW,Iq,MG.get,sU]
theorem aez:∀args w,(callFunc 245 args).run prog w=.ok (.enter 245 args) w:=λ_ _=>rfl
theorem LW.vx(h:LW p F G w)(hc:G.b[i]?=c)(hl:c.a[k]?=l)(H:l.d=1)(g pa o:Int)(j:Bool)(a:Ac)(J:EC ⟨g,i,c.b,k,l.a,l.c,pa,o,j,a⟩):
  D7 204 #[ptr (p.cb i),Z k,S9 g 0 0 0 0 0 pa o j (str a)] w Ep λb=>∃F',LW p F' (R.E9 G (-1) ⟨g,i,c.b,k,l.a,l.c,pa,o,j,a⟩) b/\D8 F F' w b:=by
 obtain⟨xs,x,T,W,hx,m,y,_,v⟩:=h.H hc hl;obtain⟨ra,rn,rc,z⟩:=Lc v;have t:=P4 h hc;have hk:=GG hl;obtain⟨B,X⟩:=KM t.a0 y.a0;obtain⟨d,hPost⟩:∃d:World->Prop,∀w'',d w''↔∃F',LW p F' (R.E9 G (-1) ⟨g,i,c.b,k,l.a,l.c,pa,o,j,a⟩) w''/\D8 F F' w w'':=⟨_,λ_=>Iff.rfl⟩;suffices hq:D7 204 #[ptr (p.cb i),Z k,S9 g 0 0 0 0 0 pa o j (str a)] w Ep λb=>d b from hq.mono (λe b h=>⟨h.1,(hPost b).1 h.2⟩)
 have C:Hid (∀b,LW p F G b->DY w b->D7 245 #[ptr p.n,Z (-1),S9 g i c.b k l.a l.c pa o j (str a)] b Ep λw''=>d w''):=λb S hb=>by
  refine cm (S.send (-1) ⟨g,i,c.b,k,l.a,l.c,pa,o,j,a⟩ J) ?_;exact wB
 clear hPost;have q:Hid (∀b,DY w b->LW p F G b):=λb hb=>h.h hb
 have E:=(m.one H).1;have eq:=m.a;obtain⟨a0,a1,a2,a3,a4,a5,a6,a7,a8,a9⟩:=y;rw[z]at a2;obtain⟨b0,M,N,O,P,Q,D⟩:=t;rw[E]at a3;rw[eq]at a1;generalize str a=SB at *;generalize c.b=li at *;generalize l.a=sq at *;generalize l.c=u at *;generalize c.a.length=nl at *;generalize p.cb i=cb at *;generalize p.lb i=lb at *;clear J h T W hx m hc hl H E eq v z;obtain⟨n,hBX⟩:∃n,(w.alloc (.cells #[Z g,Z i,Z li,Z k,Z sq,Z u,Z pa,Z o,.bool j,.string SB] 82)).alloc (.cells #[Z x.d,Z sq,.slice ra rn rc,Z u,Z x.g,.string (str x.h),Z x.X,.string (str x.H),Z x.C,Z x.e] 129)=n:=DK;have A:Hid (DY w n):=by
  exact acC
 have s:Dy n w.heap.size #[Z g,Z i,Z li,Z k,Z sq,Z u,Z pa,Z o,.bool j,.string SB] 82:=by
  exact wQ
 have K:=Dx (C n.drew (q _ A.drew) A.drew);have d6:=(A.cell (p:=Y cb 6) B).trans D;obtain⟨c0,c1,c2,c3,c4,c5,c6,c7,c8,c9⟩:=Yy s;have r:=Dx hBX;clear s hBX C q
 delta D7
 go_in
 go_wp2;rw[Dw r];clear r a0 a1 a2 a3 a4 a5 a6 a7 a8 a9 b0 M N O P Q D;go_region_law (refine FG I 245 #[.tmp 36,.const (Z (-1)),.tmp 37] #[67,3,82] I aez #[ptr p.n,Z (-1),S9 g i li k sq u pa o j SB] I _ K ?_;rintro e w1 ⟨rfl,f⟩;have L:=Dx f;clear f;refine⟨_,I,?_⟩)
 all_goals
  go_wp2;go_returns;exact⟨I,L⟩
theorem lq(hc:G.b[i]?=c)(Ga:Bool):R.Ns G i k l Ga=⟨1,i,c.b,k,l.a,l.c,l.X,R.DL l.b,Ga || decide (l.X<R.DL l.b-1),R.EY l.b l.X⟩:=by grind [R.Ns,R.GH]
theorem Uw(hc:G.b[i]?=c):R.Mx G i k l=⟨3,i,c.b,k,l.a,l.c,0,1,true,[]⟩:=by grind [R.Mx,R.GH]
theorem LW.piece(h:LW p F G w)(hc:G.b[i]?=c)(hl:c.a[k]?=l)(s:l.d=1)(q:l.X<R.DL l.b)(Ga:Bool):
  D7 150 #[ptr (p.cb i),Z k,.bool Ga] w Ep λw'=>∃F',LW p F' (R.EG G i k Ga) w'/\D8 F F' w w':=by
 obtain⟨xs,x,W,X,hx,C,z,_,y⟩:=h.H hc hl;obtain⟨Q,T,S,B⟩:=Lc y;have v:=P4 h hc;have hk:=GG hl;obtain⟨aa,ab⟩:=KM v.a0 z.a0;have n:=R.Pv h.wf hc hl s q Ga;obtain⟨z1,z2,r,K,z3⟩:=(((h.wf.cl i c hc).H k l hl)).one s;rw[R.MK (R.FH hc hl)];rw[lq hc]at n ⊢;obtain⟨a,t⟩:∃a:Nat,l.X=(a:Int):=⟨l.X.toNat,U⟩;obtain⟨z4,M,J,z5⟩:=C.one s;have A:8*a<l.b.length:=by have:=R.LF.2 q;omega
 rw[t]at n J q ⊢;obtain⟨b,hPost⟩:∃b:World->Prop,∀w'',b w''↔∃F',LW p F' (R.E9 G (-1) ⟨1,i,c.b,k,l.a,l.c,(a:Int),R.DL l.b,Ga || decide ((a:Int)<R.DL l.b-1),R.EY l.b (a:Int)⟩) w''/\D8 F F' w w'':=⟨_,λ_=>Iff.rfl⟩;suffices hq:D7 150 #[ptr (p.cb i),Z k,.bool Ga] w Ep λw'=>b w' from hq.mono (λe w' h=>⟨h.1,(hPost w').1 h.2⟩)
 have HS:Hid (∀w',DY w w'->D7 204 #[ptr (p.cb i),Z k,S9 1 0 0 0 0 0 (a:Int) (R.DL l.b) (Ga || decide ((a:Int)<R.DL l.b-1)) (str (R.EY l.b (a:Int)))] w' Ep λw''=>b w''):=λw' hb=>by
  refine cm ((h.h hb).vx hc hl s 1 (a:Int) (R.DL l.b) _ _ n) ?_;exact wB
 obtain⟨HP,HC⟩:=FU (λw=>IC l.b w U) (λw=>V2 l.b a w U A);clear hPost n;obtain⟨a0,a1,a2,a3,a4,a5,a6,a7,a8,a9⟩:=z;obtain⟨b0,b1,b2,b3,b4,b5,b6⟩:=v;rw[B]at a2;rw[M]at a5;rw[J]at a6;generalize str (R.EY l.b (a:Int))=SB at *;generalize str l.b=SM at *;have ac:1<=R.DL l.b/\R.DL l.b<=9:=⟨R.ID r.1,R.IV r.2⟩;generalize R.DL l.b=P at *;generalize c.a.length=nl at *;generalize p.cb i=cb at *;generalize p.lb i=lb at *;obtain⟨E,D,ae,o,f,O,L,d,j,g⟩:=x;simp only at a0 a1 a3 a4 a7 a8 a9;have N:IntKind.i64.wrap (P-1)=P-1:=Iz;clear h W X hx C hc hl s M J t K r A z1 z2 z3 z4 z5 y B;obtain⟨H,m⟩:∃H,w.alloc (.cells #[Z E,Z D,.slice Q T S,Z o,Z f,.string SM,Z a,.string (str d),Z j,Z g] 129)=H:=DK;have HB:Hid (DY w H):=by
  rw[<-m];exact ku
 have u:Dy H w.heap.size #[Z E,Z D,.slice Q T S,Z o,Z f,.string SM,Z a,.string (str d),Z j,Z g] 129:=by
  rw[<-m];exact AF w _
 obtain⟨c4,c5⟩:=VL u 5 6;have HLX:=Dx m;clear m u;by_cases hlast:(a:Int)=P-1
 .have e1:decide ((a:Int)<P-1)=false:=Fy;rw[e1]at HS;have e2:(((a:Int))==P-1)=true:=by simpa using hlast
  exact afr
 .have e1:decide ((a:Int)<P-1)=true:=Fy;rw[e1]at HS;have e2:(((a:Int))==P-1)=false:=by simpa using hlast
  exact afr
def Tn(G:R.Wd)(i k:Nat)(l:R.Ln):R.Wd:=if l.X<R.DL l.b then R.EG G i k true else R.Lq G i k
theorem LW.Ga(h:LW p F G w)(hc:G.b[i]?=c)(hl:c.a[k]?=l)(y:l.d=1):
  D7 168 #[ptr (p.cb i),Z k] w Ep λd=>∃r,LW p r (Tn G i k l) d/\D8 F r w d:=by
 obtain⟨xs,x,hL,hR,hx,L,H,T,E⟩:=h.H hc hl;obtain⟨ra,rn,rc,K⟩:=Lc E;have D:=P4 h hc;have hk:=GG hl;obtain⟨ak,al⟩:=KM D.a0 H.a0;obtain⟨z1,z2,u,S,z3⟩:=(((h.wf.cl i c hc).H k l hl)).one y;obtain⟨z4,em,ea,z5⟩:=L.one y;obtain⟨g,f⟩:∃g:World->Prop,∀b,g b↔∃r,LW p r (Tn G i k l) b/\D8 F r w b:=⟨_,λ_=>Iff.rfl⟩;suffices hq:D7 168 #[ptr (p.cb i),Z k] w Ep λd=>g d from hq.mono (λe d h=>⟨h.1,(f d).1 h.2⟩)
 have Q:Hid (l.X<R.DL l.b->∀d,DY w d->D7 150 #[ptr (p.cb i),Z k,DC] d Ep λb=>g b):=λj d B=>by
  refine cm ((h.h B).piece hc hl y j true) ?_;rintro b ⟨r,W,X⟩;refine⟨I,(f b).2 ⟨r,?_,(D8.J F B).trans X⟩⟩;rw[Tn,Ay j];exact W
 have A:Hid (¬l.X<R.DL l.b->∀d,DY w d->D7 204 #[ptr (p.cb i),Z k,S9 3 0 0 0 0 0 0 1 true (str [])] d Ep λb=>g b):=λj d B=>by
  have J:=R.Ow h.wf hc hl y;rw[Uw hc]at J;refine cm ((h.h B).vx hc hl y 3 0 1 true [] J) ?_;rintro b ⟨r,W,X⟩;refine⟨I,(f b).2 ⟨r,?_,(D8.J F B).trans X⟩⟩;rw[Tn,Ao j,R.V4 (R.FH hc hl),Uw hc];exact W
 rw[show str []=(⟨#[]⟩:Ab) from rfl]at A;have HP:=Dx (λw=>IC l.b w U);clear f;obtain⟨a0,a1,a2,a3,a4,a5,a6,a7,a8,a9⟩:=H;obtain⟨b0,b1,b2,b3,b4,b5,b6⟩:=D;rw[K]at a2;rw[em]at a5;rw[ea]at a6;generalize str l.b=SM at *;have am:1<=R.DL l.b/\R.DL l.b<=9:=⟨R.ID u.1,R.IV u.2⟩;generalize R.DL l.b=P at *;generalize l.X=a at *;generalize c.a.length=nl at *;generalize p.cb i=cb at *;generalize p.lb i=lb at *;obtain⟨N,M,ao,t,n,ad,aa,m,q,o⟩:=x;simp only at a0 a1 a3 a4 a7 a8 a9;clear h hL hR hx L hc hl y em ea S u z1 z2 z3 z4 z5 T E K;obtain⟨O,s⟩:∃O,w.alloc (.cells #[Z N,Z M,.slice ra rn rc,Z t,Z n,.string SM,Z a,.string (str m),Z q,Z o] 129)=O:=DK;have HB:Hid (DY w O):=by
  rw[<-s];exact ku
 have C:Dy O w.heap.size #[Z N,Z M,.slice ra rn rc,Z t,Z n,.string SM,Z a,.string (str m),Z q,Z o] 129:=by
  rw[<-s];exact AF w _
 obtain⟨c4,c5⟩:=VL C 5 6;have z:=Dx s;clear s C;by_cases j:a<P
 .delta D7
  go_in
  go_wp2_with fail
  rw[Dw z];go_region_held3 (λd=>d.cell? (EN w 5)=some (.string SM)/\d.cell? (EN w 6)=some (Z a)) (go_keep) ((go_at_call 203;refine cs (HP _) ?_))
  go_wp2_with (first|(go_at_call 150;refine cm (Q j _ HB.drew) λw3 v=>?_))
  go_returns;exact⟨I,v⟩
 .delta D7
  go_in
  go_wp2_with fail
  rw[Dw z];go_region_held3 (λd=>d.cell? (EN w 5)=some (.string SM)/\d.cell? (EN w 6)=some (Z a)) (go_keep) ((go_at_call 203;refine cs (HP _) ?_))
  go_wp2_with (first|(go_at_call 204;refine cm (A j _ HB.drew) λw3 v=>?_))
  go_returns;exact⟨I,v⟩
theorem Eg(v:Ad):DF (λk=>k=b) w (w.setCell (Y b o) v):=DF.setCell (F:=λk=>k=b) (DF.refl _ w) (p:=Y b o) (Aj rfl) v
theorem GJ{xs:List J7}(h:w.heap[b]?=some (.cells (tab J7.cells xs).toArray 129 (0,0)))(a:xs[k]?=x)(c:j<10)(d:x'.cells=x.cells.set j v):
  (w.setCell (Y b (k*10+j)) v).heap[b]?=some (.cells (tab J7.cells (xs.set k x')).toArray 129 (0,0))/\(xs.set k x')[k]?=x':=by
 refine⟨by rw[Ek h,J6 J7.len xs k j x x' v a c d],?_⟩;rw[Bf];simp[(GG a)]
abbrev jZ(w:Aa)(b k:Nat)(x:J7):World:=(((((((((w.setCell (Y b (k*10)) (Z x.d)).setCell (Y b (k*10+1)) (Z x.a)).setCell (Y b (k*10+2)) x.rv).setCell (Y b (k*10+3)) (Z x.c)).setCell (Y b (k*10+4)) (Z x.g)).setCell (Y b (k*10+5)) (.string (str x.h))).setCell (Y b (k*10+6)) (Z x.X)).setCell (Y b (k*10+7)) (.string (str x.H))).setCell (Y b (k*10+8)) (Z x.C)).setCell (Y b (k*10+9)) (Z x.e)
theorem j5{xs:List J7}(h:Dy w b (tab J7.cells xs).toArray 129)(B:xs[k]?=x)(x':J7):
  Dy (jZ w b k x') b (tab J7.cells (xs.set k x')).toArray 129/\DF (λq=>q=b) w (jZ w b k x'):=by
 have⟨st,C,rv,u,pc,m,a,f,o,l⟩:=x;have⟨c,d,e,n,g,r,s,i,p,t⟩:=x';have e0:=GJ (j:=0) (x':=⟨c,C,rv,u,pc,m,a,f,o,l⟩) (v:=Z c) h B U I;have e1:=GJ (j:=1) (x':=⟨c,d,rv,u,pc,m,a,f,o,l⟩) (v:=Z d) e0.1 e0.2 U I;have e2:=GJ (j:=2) (x':=⟨c,d,e,u,pc,m,a,f,o,l⟩) (v:=e) e1.1 e1.2 U I;have e3:=GJ (j:=3) (x':=⟨c,d,e,n,pc,m,a,f,o,l⟩) (v:=Z n) e2.1 e2.2 U I;have e4:=GJ (j:=4) (x':=⟨c,d,e,n,g,m,a,f,o,l⟩) (v:=Z g) e3.1 e3.2 U I;have e5:=GJ (j:=5) (x':=⟨c,d,e,n,g,r,a,f,o,l⟩) (v:=.string (str r)) e4.1 e4.2 U I;have e6:=GJ (j:=6) (x':=⟨c,d,e,n,g,r,s,f,o,l⟩) (v:=Z s) e5.1 e5.2 U I;have y:=GJ (j:=7) (x':=⟨c,d,e,n,g,r,s,i,o,l⟩) (v:=.string (str i)) e6.1 e6.2 U I;have z:=GJ (j:=8) (x':=⟨c,d,e,n,g,r,s,i,p,l⟩) (v:=Z p) y.1 y.2 U I;have A:=GJ (j:=9) (x':=⟨c,d,e,n,g,r,s,i,p,t⟩) (v:=Z t) z.1 z.2 U I;simp only[A5]at A;exact⟨A.1,(((((((((Eg _).trans (Eg _)).trans (Eg _)).trans (Eg _)).trans (Eg _)).trans (Eg _)).trans (Eg _)).trans (Eg _)).trans (Eg _)).trans (Eg _)⟩
abbrev Qb(st sq:Int):J7:=⟨st,sq,.slice none 0 0,0,0,[],0,[],0,0⟩
theorem TW(w:Aa)(b k:Nat)st(xs:List J7)(x:J7)(d:∃a n c,x.rv=.slice a n c)(h:Dy w b (tab J7.cells xs).toArray 129)(e:xs[k]?=x):
  D7 167 #[.pointer (Y b (k*10)),Z st] w Ep λf=>Dy f b (tab J7.cells (xs.set k (Qb st x.a))).toArray 129/\DF (λq=>q=b) w f:=by
 have⟨a0,a1,a2,a3,a4,a5,a6,a7,a8,a9⟩:=sU h e;have⟨l,o,m,d⟩:=d;rw[d]at a2;have p:=Eb (off:=k*10) h;have r:=Eb (off:=k*10+1) h;have s:=Eb (off:=k*10+2) h;have t:=Eb (off:=k*10+3) h;have u:=Eb (off:=k*10+4) h;have v:=Eb (off:=k*10+5) h;have y:=Eb (off:=k*10+6) h;have z:=Eb (off:=k*10+7) h;have A:=Eb (off:=k*10+8) h;have B:=Eb (off:=k*10+9) h;have⟨g,i⟩:=FU h e;have j:=Dv h;clear h e d
 delta D7
 go_in
 go_wp2;go_returns;exact⟨I,(j5 g i (Qb st x.a))⟩
theorem Pm(G:R.Wd)(i k:Nat)(l l':R.Ln):R.Eh (R.Eh G i k l) i k l'=R.Eh G i k l':=by
 simp[R.Eh,List.modify_modify_eq,Function.comp_def]
theorem Qi{Q:Exit->Act->World->Prop}{l:Nat}{J:Act->World->Prop}(h:Q .ret a w):Exit.jump l J Q .ret a w:=h
theorem RN{Q:Exit->Act->World->Prop}{l:Nat}{J:Act->World->Prop}(h:Q .normal a w):Exit.jump l J Q .normal a w:=h
theorem KJ{P:Program}{Q:Exit->Act->World->Prop}{c rest:Code}(l:Nat)(b:findLabel c l=rest)(first:c.wp P (Exit.jump l (λa w=>rest.wp P (Exit.jump l (λ_ _=>False) Q) a w) Q) a w):(Code.scope c).wp P Q a w:=by
 refine wp_scope_jumps l _ (λ_ _=>0) b first (λa w h=>?_)
 refine Code.wp_mono ?_ h;intro e a w h;cases e with
 |goto q=>exact h.2.elim
 |_=>exact h
theorem pI{lb:Nat}(a:World->Prop)(hk:k<nl)(m:EB w cb 3 (EJ lb nl nl))(u:EB w cb 4 (Z rt))(a6:EB w lb (k*10+8) (Z wt))(a7:EB w lb (k*10+9) (Z tr))(x:DJ w lb (k*10+8))(y:DJ w lb (k*10+9))(i:¬cb=lb)(s:1<=wt/\wt<=8)(r:0<=tr/\tr<=6)
  (f:Hid (1<wt->a (w.setCell (Y lb (k*10+8)) (Z (wt-1)))))
  (g:Hid (wt=1->tr=0->D7 167 #[.pointer (Y lb (k*10)),Z 3] (w.setCell (Y lb (k*10+8)) (Z (wt-1))) Ep λd=>a d))
  (h:Hid (wt=1->0<tr->D7 168 #[ptr cb,Z k] (((w.setCell (Y lb (k*10+8)) (Z (wt-1))).setCell (Y lb (k*10+9)) (Z (tr-1))).setCell (Y lb (k*10+8)) (Z rt)) Ep λd=>a d)):
  D7 98 #[ptr cb,Z k] w Ep λd=>a d:=by
 have e1:IntKind.i64.wrap (wt-1)=wt-1:=Iz;have e2:IntKind.i64.wrap (tr-1)=tr-1:=Iz;have l:¬lb=cb:=λe=>i e.symm
 have⟨p,q⟩:=KM m a6;by_cases n:1<wt
 .have v:0<wt-1:=U;have HP:=Dx (f n);clear f g h
  delta D7
  go_in
  exact wC
 .have b:wt=1:=U;by_cases j:tr=0
  .have HP:=Dx (g b j);clear f g h;subst b j
   delta D7
   go_in
   go_wp2;refine KJ 0 I ?_;go_wp2_with (first|(go_at_call 167;refine cm HP λt c=>?_))
   refine Qi ?_;go_wp2;go_returns;exact⟨I,c⟩
  .have o:0<tr:=U;have HP:=Dx (h b o);clear f g h;subst b
   delta D7
   go_in
   go_wp2;refine KJ 0 I ?_;go_wp2
   go_step3
   refine⟨I,?_⟩;show Code.wp prog _ _ _ _;go_wp2_with (first|(go_at_call 168;refine cm HP λt c=>?_))
   refine RN ?_;go_wp2;go_returns;exact⟨I,c⟩
theorem LW.C(h:LW p F G w){l:R.Ln}(hc:G.b[i]?=c)(hl:c.a[k]?=l)(S:l.d=1):
  D7 98 #[ptr (p.cb i),Z k] w Ep λm=>∃u,LW p u (R.EM G i k) m/\D8 F u w m:=by
 have⟨xs,x,y,hR,hx,n,K,B,A⟩:=h.H hc hl;have⟨ra,rn,rc,M⟩:=Lc A;have z:=P4 h hc;have hk:=GG hl;have⟨av,aw⟩:=KM z.a0 K.a0;have r:=(h.wf.cl i c hc).H k l hl;have⟨z1,z2,L,J,ac,P⟩:=r.one S;have⟨eu,em,ea,ew,X⟩:=n.one S;have ab:=h.wf.cf;have Q:=n.two S;have s:=n.b U;have o:∀m,DF (λq=>q=p.lb i) w m->D8 F F w m:=λm hk=>⟨hk.mono (λq _ e=>by rw[e];exact((h.b i (GG hc)).2.1)),λ_ q=>Aj q⟩
 unfold R.EM;simp only[(R.FH hc hl)];rw[Ao U];obtain⟨g,b⟩:∃g:World->Prop,∀E,g E↔∃u,LW p u (if 1<l.C then R.Eh G i k {l with C:=l.C-1} else if l.e=0 then R.Eh G i k {l with C:=l.C-1,d:=3} else if 8*l.X<(l.b.length:Int) then R.EG (R.Eh G i k {l with C:=G.c.c,e:=l.e-1}) i k true else R.Lq (R.Eh G i k {l with C:=G.c.c,e:=l.e-1}) i k) E/\D8 F u w E:=⟨_,λ_=>Iff.rfl⟩;suffices H:D7 98 #[ptr (p.cb i),Z k] w Ep λm=>g m from H.mono (λe m h=>⟨h.1,(b m).1 h.2⟩)
 have⟨a0,a1,a2,a3,a4,a5,a6,a7,a8,a9⟩:=K;rw[ew]at a8;rw[X]at a9;have⟨aN,az,D,aq,f,am,ah,W,ae,ad⟩:=x;simp only at eu em ea ew X M Q;subst eu em ea ew X;have⟨tc,tp,tt⟩:=Q;subst tc;have O:=n.d;have N:=n.a;simp only at O N;subst O N;unfold R.GA at ab;have e1:=GJ (j:=8) (x':=⟨l.d,l.a,D,l.c,f,l.b,l.X,l.H,l.C-1,l.e⟩) (v:=Z (l.C-1)) y hx U I;have e2:=GJ (j:=9) (x':=⟨l.d,l.a,D,l.c,f,l.b,l.X,l.H,l.C-1,l.e-1⟩) (v:=Z (l.e-1)) e1.1 e1.2 U I;have e3:=GJ (j:=8) (x':=⟨l.d,l.a,D,l.c,f,l.b,l.X,l.H,G.c.c,l.e-1⟩) (v:=Z G.c.c) e2.1 e2.2 U I;simp only[A5]at e2 e3;refine pI g hk z.a3 z.a4 a8 a9 (Eb y) (Eb y) (ES (h.cl i c hc) y Em) ac P ?_ ?_ ?_
 .intro h2;refine(b _).2 ⟨F,?_,o _ (Eg _)⟩;rw[Ay h2];exact h.Sr hc y hR B (Eg _) e1.1 ⟨r.a,λ_=>⟨z1,z2,L,J,by simp only;omega,P⟩⟩ ⟨I,I,λ_=>s,λ_=>⟨I,I,I,I,I⟩,λ_=>⟨I,tp,tt⟩⟩ A
 .intro h2 h3;refine cm (TW _ (p.lb i) k 3 _ _ ⟨_,_,_,M⟩ e1.1 e1.2) ?_;rintro m ⟨t,T⟩;refine⟨I,(b _).2 ⟨F,?_,o _ ((Eg _).trans T)⟩⟩;rw[Ao U,Ay h3];simp only[A5]at t;exact h.Sr hc y hR B ((Eg _).trans T) t ⟨r.a,λq=>by cases q⟩ ⟨I,I,λ_=>s,λq=>(by cases q),λq=>(by cases q)⟩ (by
   rw[s];exact Gg.nil _ _)
 .intro h2 h3;have hT:=h.Sr (l':={l with C:=G.c.c,e:=l.e-1}) hc y hR B (((Eg _).trans (Eg _)).trans (Eg _)) e3.1 ⟨r.a,λ_=>⟨z1,z2,L,J,by simp only;omega,by simp only;omega⟩⟩ ⟨I,I,λ_=>s,λ_=>⟨I,I,I,I,I⟩,λ_=>⟨I,tp,tt⟩⟩ A;have aa:(R.Eh G i k {l with C:=G.c.c,e:=l.e-1}).b[i]?=some {c with a:=c.a.set k {l with C:=G.c.c,e:=l.e-1}}:=by
   rw[R.Ft,hc];simp
  refine cm (hT.Ga aa (l:={l with C:=G.c.c,e:=l.e-1}) (by simp[hk]) S) ?_;rintro m ⟨u,t,T⟩;refine⟨I,(b _).2 ⟨u,?_,(o _ (((Eg _).trans (Eg _)).trans (Eg _))).trans T⟩⟩;rw[Ao U,Ao U];unfold Tn at t;by_cases H:l.X<R.DL l.b
  .rw[Ay (R.LF.2 H)];rw[Ay H]at t;exact t
  .rw[Ao (λq=>H (R.LF.1 q))];rw[Ao H]at t;exact t
theorem zk:(prog.info? 137).map (λi=>(i.zero,i.size,i.bytes))=some (some (.pointer none),1,8):=EL
def pa(o:Option Nat):Option Addr:=o.map λb=>(Y b 0)
abbrev pc(o:Option Nat):Value:=.pointer (pa o)
def M9(f:Nat->Option Nat)(n:Nat):List Value:=((List.range n).filterMap f).map ptr
theorem Q7(f:Nat->Option Nat)(n:Nat):M9 f (n+1)=M9 f n++(match f n with|none=>[]|some b=>[ptr b]):=by
 unfold M9;rw[Cu,List.filterMap_append];cases h:f n<;>simp[h]
structure NN(w:Aa)(f:Nat->Option Nat)(n:Nat)(O:Ad)(wr:Aa):Prop where
 row:wr.ownsRow w.heap.size 137 1 O (M9 f n).length (M9 f n)
 h:Below w.heap.size w wr
theorem NN.none{f:Nat->Option Nat}(h:NN w f n O wr)(a:f n=none):NN w f (n+1) O wr:=by
 have e:M9 f (n+1)=M9 f n:=by rw[Q7,a];simp
 refine⟨?_,h.h⟩;rw[e];exact h.row
theorem NN.alloc{f:Nat->Option Nat}(h:NN w f n O wr)(o:Obj):NN w f n O (wr.alloc o):=⟨h.row.alloc _,h.h.alloc h.h.size _⟩
theorem NN.some{f:Nat->Option Nat}(d:f n=b)(a:wz.ownsRow w.heap.size 137 1 O' ((M9 f n).length+1) (M9 f n++[ptr b]))(c:DY w wz):NN w f (n+1) O' wz:=by
 have e:M9 f (n+1)=M9 f n++[ptr b]:=by rw[Q7,d]
 refine⟨?_,c⟩;rw[e,AJ];exact a
theorem one_cell(w:Aa)(t:Ag)(v:Ad)(j:Nat)(u:Ad)(h:([v]:Ae)[j]?=Option.some u):(w.alloc (.cells #[v] t)).cell? (((EN w 0):Addr).add j)=Option.some u:=by grind [Addr.add_lit,World.cell?_alloc_new]
theorem aeP(q:Nat->Option Addr)(k:Nat)(hk:k<3)(w:Aa):(Instr.index 139 (.agg #[.pointer (q 0),.pointer (q 1),.pointer (q 2),.pointer (q 3),.pointer (q 4),.pointer (q 5),.pointer (q 6),.pointer (q 7),.pointer (q 8)]) (Z k)).run prog w=.ok (.agg #[.pointer (q (3*k)),.pointer (q (3*k+1)),.pointer (q (3*k+2))]) w:=by
 obtain rfl|rfl|rfl:k=0\/k=1\/k=2:=U;all_goals rfl
theorem aeO(q:Nat->Option Addr)(k j:Nat)(a:j<3)(w:Aa):(Instr.index 138 (.agg #[.pointer (q (3*k)),.pointer (q (3*k+1)),.pointer (q (3*k+2))]) (Z j)).run prog w=.ok (.pointer (q (3*k+j))) w:=by
 obtain rfl|rfl|rfl:j=0\/j=1\/j=2:=U;all_goals rfl
theorem zS(f:Nat->Option Nat)(h:∀i,i<9->EB w s (10+i) (pc (f i))):
  ET 99 #[ptr s] w λe G=>∃O,e=.returned O/\G.ownsRow w 137 1 O (M9 f 9) (M9 f 9)/\DY w G:=by
 obtain⟨u,hu⟩:∃u:Nat->Option Addr,∀i,u i=pa (f i):=⟨_,λ_=>rfl⟩;have C:=Dx hu;have c0:=h 0 U;have c1:=h 1 U;have c2:=h 2 U;have c3:=h 3 U;have c4:=h 4 U;have c5:=h 5 U;have c6:=h 6 U;have D:=h 7 U;have E:=h 8 U;simp only[pc,<-hu]at c0 c1 c2 c3 c4 c5 c6 D E;have hl:=Gv c0;have⟨i0,hi,x,y,z⟩:=A1 zk;have H:Hid (NN w f 0 Dz w):=⟨AZ _ _ _ _,AA _ _⟩;clear h hu
 delta ET
 go_in
 go_wp2;clear c0 c1 c2 c3 c4 c5 c6 D E;go_loopw [3,13] (λp iv wr=>∃k:Nat,k<=3/\iv=Z k/\NN w f (3*k) p wr) (λ_ iv _=>3-(intOf iv).toNat)
 case atStart=>exact⟨0,U,I,H⟩
 case round=>
  obtain⟨k,hk,rfl,o⟩:=hrel;by_cases r:k<3
  .have K:=aeP u k r;have J:=Dx o;clear o;go_wp2;generalize decide ((k:Int)<3)=b14;go_loopw [3,17] (λp A B=>∃j:Nat,j<=3/\A=Z j/\NN w f (3*k+j) p B) (λ_ A _=>3-(intOf A).toNat)
   case atStart=>exact⟨0,U,I,J.alloc _⟩
   case round=>
    obtain⟨j,L,rfl,c⟩:=hrel;by_cases q:j<3
    .have⟨M,on,N,t⟩:=Ei c.row;subst t;have a:=Dx c;clear c;have n:=aeO u k j q;cases hf:f (3*k+j) with
     |none=>
      have e0:u (3*k+j)=none:=by rw[Dw C,hf];rfl
      rw[e0]at n;have HN:=Dx (a.none hf);exact acz
     |some b=>
      have e0:u (3*k+j)=some (Y b 0):=by rw[Dw C,hf];rfl
      rw[e0]at n;have F:(M9 f (3*k+j)).length<=(3*k+j):=by grind [M9]
      go_wp2_with (at_builtin;go_must (refine AQ _ I (.tmp 22) (.tmp 24) 176 I w.heap.size 137 i0 (.pointer none) 1 8 underlying176 hi x y z I Em _ _ _ I (by exact a.row.alloc _) (EN wr 0) 1 1 [ptr b] I I (by exact one_cell wr 137 (ptr b)) Vd JG U (by have:=a.h.size;simp;omega) ?_))
      intro P W g d _ _;have⟨Q,T,S,v⟩:=Ei g;subst v;have m:=(a.h.alloc a.h.size _).grown d (by have:=a.h.size;simp;omega) (λk hk=>((Ba a.row) k hk).1);have HN:=NN.some hf g m;clear g d m a;exact acz
    .obtain rfl:j=3:=U;have l:=Dx c;clear c;go_wp2;go_roundw
     case rel=>exact⟨k+1,U,Kc,by exact Dw l⟩
     case measure=>exact Kt
  .obtain rfl:k=3:=U;have l:=Dx o;clear o;go_wp2
   go_ret
   exact⟨_,I,l.row,l.h⟩
def qf(t:SP)(seen:List R.Sn)(i:Nat):Option Nat:=if ((seen[i]?).getD R.Ic).a=0 then none else (t.ql i)
theorem uF(t:SP)(seen:List R.Sn)(i:Nat):Gh t seen i=pc (qf t seen i):=by
 unfold Gh qf;split<;>rfl
section
variable {s n nm:Nat} {t:SP} {F:D9} {c:R.Cf} {sv:List R.Sv} {lives:List Int} {seen:List R.Sn} {jobs:List R.Jb} {w:Aa}
theorem G9.cell(h:G9 s n nm t F c sv lives seen jobs w)(j:Nat)(v:Ad)(a:(IW n nm t c lives seen)[j]?=v):EB w s j v:=E7 h.bs a
theorem G9.rem(h:G9 s n nm t F c sv lives seen jobs w):ET 99 #[ptr s] w λe a=>∃O,e=.returned O/\a.ownsRow w 137 1 O (M9 (qf t seen) 9) (M9 (qf t seen) 9)/\DY w a:=by
 refine zS (qf t seen) (λi hi=>?_);rw[<-uF];obtain rfl|rfl|rfl|rfl|rfl|rfl|rfl|rfl|rfl:i=0\/i=1\/i=2\/i=3\/i=4\/i=5\/i=6\/i=7\/i=8:=U;all_goals exact h.cell _ _ rfl
end
theorem LW.aba(h:LW p F G w)(cl li ln c u f pa o:Int)(g:Bool)(a:Ac)(t:EC ⟨f,cl,li,ln,c,u,pa,o,g,a⟩):
  D7 220 #[ptr p.s,.agg #[Z cl,Z li,Z ln,Z c,Z u],S9 f 0 0 0 0 0 pa o g (str a)] w Ep λi=>∃F',LW p F' (R.E9 G cl ⟨f,cl,li,ln,c,u,pa,o,g,a⟩) i/\D8 F F' w i:=by
 have v:=h.a;have j:=v.cell 20 _ I;have q:=Gv j;obtain⟨b,hPost⟩:∃b:World->Prop,∀w'',b w''↔∃F',LW p F' (R.E9 G cl ⟨f,cl,li,ln,c,u,pa,o,g,a⟩) w''/\D8 F F' w w'':=⟨_,λ_=>Iff.rfl⟩;suffices hq:D7 220 #[ptr p.s,.agg #[Z cl,Z li,Z ln,Z c,Z u],S9 f 0 0 0 0 0 pa o g (str a)] w Ep λi=>b i from hq.mono (λe i h=>⟨h.1,(hPost i).1 h.2⟩)
 have s:Hid (∀i,DY w i->D7 245 #[ptr p.n,Z cl,S9 f cl li ln c u pa o g (str a)] i Ep λw''=>b w''):=λi hb=>by
  refine cm ((h.h hb).send cl ⟨f,cl,li,ln,c,u,pa,o,g,a⟩ t) ?_;exact wB
 clear hPost t h v;generalize str a=SB at *;obtain⟨k,hBX⟩:∃k,(w.alloc (.cells #[Z cl,Z li,Z ln,Z c,Z u] 170)).alloc (.cells #[Z f,Z cl,Z li,Z ln,Z c,Z u,Z pa,Z o,.bool g,.string SB] 82)=k:=DK;have r:Hid (DY w k):=by
  exact acC
 have m:Dy k w.heap.size #[Z cl,Z li,Z ln,Z c,Z u] 170:=by
  exact wQ
 have n:Dy k (w.heap.size+1) #[Z f,Z cl,Z li,Z ln,Z c,Z u,Z pa,Z o,.bool g,.string SB] 82:=by
  rw[<-hBX,<-Cx w];exact AF _ _
 have x:=Dx (s k.drew r.drew);have z:=(r.cell (p:=Y p.s 20) q).trans j;have c0:=EI m 0;obtain⟨e0,e1,e2,e3,e4,e5,e6,A,B,C⟩:=Yy n;have l:=Dx hBX;clear m n hBX s
 delta D7
 go_in
 go_wp2;rw[Dw l];clear l j;go_region_law (refine FG I 245 #[.tmp 24,.tmp 26,.tmp 27] #[67,3,82] I aez #[ptr p.n,Z cl,S9 f cl li ln c u pa o g SB] I _ x ?_;rintro e D ⟨rfl,d⟩;have y:=Dx d;clear d;refine⟨_,I,?_⟩)
 all_goals
  go_wp2;go_returns;exact⟨I,y⟩
structure Yd(p:Pl)(G:R.Wd)(w:Aa)(i:Nat)(r:R.Sn)(y:PR):Prop where
 J:G.J[i]?=some r
 ne:r.a≠0
 blk:w.heap[p.t.ql i]?=some (.cells y.cells.toArray 179 (0,0))
 rel:PT i (G.C.getD (i / 3) 0) r y
theorem LW.q(h:LW p F G w)(b:G.J[i]?=r)(a:r.a≠0):∃y,Yd p G w i r y/\F (p.t.ql i):=by
 have⟨y,c,d,e⟩:=h.a.ln i r b a;exact⟨y,⟨b,a,c,d⟩,e⟩
structure Vj(w:Aa)(b:Nat)(y:PR):Prop where
 a0:w.cell? (Y b 0)=some (Z y.f)
 a1:w.cell? (Y b 1)=some (Z y.b)
 a2:w.cell? (Y b 2)=some (Z y.H)
 a3:w.cell? (Y b 3)=some (Z y.a)
 a4:w.cell? (Y b 4)=some (Z y.c)
 a5:w.cell? (Y b 5)=some (Z y.d)
 a6:w.cell? (Y b 6)=some (.string (str y.Q))
 a7:w.cell? (Y b 7)=some (.string (str y.answer))
 a8:w.cell? (Y b 8)=some (Z y.at')
 a9:w.cell? (Y b 9)=some (Z y.C)
 GQ:w.cell? (Y b 10)=some (Z y.e)
theorem X8{y:PR}(h:Dy w b y.cells.toArray 179):Vj w b y:=
 ⟨E7 h rfl,E7 h rfl,E7 h rfl,E7 h rfl,E7 h rfl,E7 h rfl,E7 h rfl,E7 h rfl,E7 h rfl,E7 h rfl,E7 h rfl⟩
theorem nf{t:SP}(c:seen[i]?=r)(b:r.a≠0)(a:r'.a≠0)(j:Nat):Gh t (seen.set i r') j=Gh t seen j:=by grind [Gh]
theorem G9.Oy{t:SP}{c:R.Cf}{sv:List R.Sv}(h:G9 s n nm t F c sv lives seen jobs w){u:Array Value}(H:seen[i]?=r)(B:r.a≠0)(G:r'.a≠0)(l:Dy w (t.ql i) u 179)(hk:DF (λb=>b=t.ql i) w w')(O:Dy w' (t.ql i) y'.cells.toArray 179)(hrel:PT i (lives.getD (i / 3) 0) r' y'):G9 s n nm t F c sv lives (seen.set i r') jobs w':=by
 have⟨K,L,M⟩:=h.A;have A:Pp w F (λb=>b=t.ql i):=Pp.one l Em;have hi:=GG H;have f:∀(j:Nat) (x:R.Sn),(seen.set i r')[j]?=some x->x.a≠0->∃k,seen[j]?=some k/\k.a≠0/\(j≠i->k=x)/\(j=i->x=r'):=λj x d m=>by
  grind
 refine⟨?_,h.zs,hk.row h.Q (λj d=>?_),λz hz=>(h.each z hz).keep hk A (λ_ q=>q),h.dns,h.e,λj x d m=>?_,λa b x Q N l m C v=>?_,?_,K,L,M⟩
 .exact abB
 .rcases h.Q.2 with ⟨hn,_⟩|⟨g,cap,E,hn,_,P,_⟩
  .rw[hn]at d;cases d
  .rw[hn]at d;cases d;exact ES P l Em
 .have⟨k,o,p,D,J⟩:=f j x d m;by_cases e:j=i
  .exact abB
  .obtain rfl:=D e;have⟨y,g1,g2,g3⟩:=h.ln j k o p;exact⟨y,hk.at g1 (h.inj j i k r o H p B e),g2,g3⟩
 .have⟨k,o,p,_⟩:=f a x N m;have⟨x1,D,J,_⟩:=f b Q l C;exact h.inj a b k x1 o D p J v
 .have⟨a,b,d⟩:=h.d;refine⟨a,b,hk.at d (λe=>?_)⟩;rw[e,l]at d;cases d
theorem PN(h:R.Wf G)(i:Nat)(r:R.Sn):R.Wf (R.EA G i r):=⟨h.cf,h.a,λj c hc=>⟨(h.cl j c hc).a,(h.cl j c hc).b,(h.cl j c hc).d,(h.cl j c hc).H⟩,h.X,h.b,h.sv,h.e,h.nm,h.st,h.nd,h.d⟩
theorem NF{c:R.Cf}(h:R.MX c lives seen jobs)(a:R.Tm (lives.getD (i / 3) 0) r):R.MX c lives (seen.set i r) jobs:=by grind [R.MX]
theorem LW.Oy(h:LW p F G w){y:PR}(d:Yd p G w i r y)(a:r'.a≠0)(hk:DF (λb=>b=p.t.ql i) w w')(v:Dy w' (p.t.ql i) y'.cells.toArray 179)(hrel:PT i (G.C.getD (i / 3) 0) r' y')(A:R.Tm (G.C.getD (i / 3) 0) r'):LW p F (R.EA G i r') w'/\Yd p (R.EA G i r') w' i r' y'/\D8 F F w w':=by
 have⟨P,hn,J,N⟩:=h.A;have u:=d.blk;have H:Pp w F (λb=>b=p.t.ql i):=Pp.one u Em;have⟨_,_,_,z⟩:=h.a.ln i r d.J d.ne;have at':∀{b:Nat} {E:Array Value} {t:Ag} {f:Nat×Nat},w.heap[b]?=some (.cells E t f)->t≠179->w'.heap[b]?=some (.cells E t f):=λx m=>hk.at x (ES x u m)
 have l:∀{α:Type} {k:Ag} {b:Nat} {lit:α->Lit} {g:α->Option Int} {n:Nat},Mp w k b lit g n->Mp w' k b lit g n:=λD=>by
  have⟨O,q,d⟩:=D.block;exact D.keep hk (λe=>On u d e.symm)
 refine⟨⟨PN h.wf i r',NF h.g A,at' h.bx Em,?_,?_,h.a.Oy d.J d.ne a u hk v hrel,l h.e,λj c hc=>at' (h.cl j c hc) Em,λj c hc=>?_,λj c hc=>l (h.d j c hc),h.A,h.b,h.inj,λk L=>Ai (h.lt k L) hk.size⟩,⟨?_,a,v,hrel⟩,⟨hk.mono (λk _ e=>by rw[e];exact z),λ_ q=>Aj q⟩⟩
 .have⟨o,m,s⟩:=h.DW;exact⟨o,at' m Em,s⟩
 .have⟨K,m,s,B⟩:=h.bn;refine⟨K,at' m Em,hk.row s (λj C=>?_),B⟩;rcases s.2 with ⟨rfl,_⟩|⟨g,cap,o,rfl,_,M,_⟩
  .cases C
  .cases C;exact ES M u Em
 .have⟨Q,m,s,B⟩:=h.ln j c hc
  grind [Iq.h]
 .simp[R.EA,(GG d.J)]
theorem Yd.h{y:PR}(h:Yd p G w i r y)(a:DY w w'):Yd p G w' i r y:=⟨h.J,h.ne,by rw[a.block _ (AB.1 h.blk).1];exact h.blk,h.rel⟩
theorem Kj{y:PR}(h:w.heap[b]?=some (.cells y.cells.toArray 179 (0,0)))(a:y'.cells=y.cells.set j v):(w.setCell (Y b j) v).heap[b]?=some (.cells y'.cells.toArray 179 (0,0)):=by
 rw[Ek h,a]
theorem YY(l:List Int)(k:Nat):(l[k]?).getD 0=l.getD k 0:=by simp[List.getD_eq_getElem?_getD]
theorem Jg(f:R.MX G.c G.C G.J G.d)(d:G.J[i]?=r)(b:r.d=3):
  EC ⟨5,((i / 3:Nat):Int),(G.C[i / 3]?).getD 0,((i % 3:Nat):Int),r.a,r.c,r.at',R.DL r.D,false,R.EY r.D r.at'⟩:=by
 have hi:i<9:=by rw[<-f.sl];exact(GG d)
 have a:=f.sn i r d;have c:r.a≠0:=λe=>by
  rw[a.zero e]at b;cases b
 have⟨a1,a2,a3⟩:=a.some c;have⟨h,j,g,k⟩:=a.h b;have l:=a.a;have:=R.NB (s:=r.D) g
 grind [R.MX,EC,List.getElem_mem,List.getElem?_eq_getElem,R.ID,R.IV,Ju]
theorem LW.UJ(h:LW p F G w){y:PR}(l:Yd p G w i r y)(v:r.d=3):
  D7 169 #[ptr p.s,ptr (p.t.ql i)] w Ep λd=>∃m,LW p m (R.Ex G i) d/\D8 F m w d:=by
 have o:=Jg h.g l.J v;have S:=h.g.sn i r l.J;have⟨b1,b2,b3,P⟩:=S.h v;obtain⟨a,n⟩:∃a:Nat,r.at'=(a:Int):=⟨r.at'.toNat,U⟩;have x:8*a<r.D.length:=by have:=R.LF.2 P;omega
 have f:=l.rel;have⟨q,Hg⟩:=f.h v;unfold R.Ex;simp only;rw[R.F7 l.J];rw[n]at o Hg ⊢;obtain⟨k,g⟩:∃k:World->Prop,∀c,k c↔∃m,LW p m (R.E9 G ((i / 3:Nat):Int) ⟨5,((i / 3:Nat):Int),(G.C[i / 3]?).getD 0,((i % 3:Nat):Int),r.a,r.c,(a:Int),R.DL r.D,false,R.EY r.D (a:Int)⟩) c/\D8 F m w c:=⟨_,λ_=>Iff.rfl⟩;suffices l:D7 169 #[ptr p.s,ptr (p.t.ql i)] w Ep λd=>k d from l.mono (λe d h=>⟨h.1,(g d).1 h.2⟩)
 have O:Hid (∀d,DY w d->D7 220 #[ptr p.s,.agg #[Z y.f,Z y.b,Z y.H,Z y.a,Z y.c],S9 5 0 0 0 0 0 (a:Int) (R.DL r.D) false (str (R.EY r.D (a:Int)))] d Ep λc=>k c/\c.cell? ⟨p.t.ql i,0,none⟩=some (Z y.f)/\c.cell? ⟨p.t.ql i,1,none⟩=some (Z y.b)/\c.cell? ⟨p.t.ql i,2,none⟩=some (Z y.H)/\c.cell? ⟨p.t.ql i,3,none⟩=some (Z y.a)/\c.cell? ⟨p.t.ql i,4,none⟩=some (Z y.c)/\c.cell? ⟨p.t.ql i,7,none⟩=some (.string (str r.D))/\c.cell? ⟨p.t.ql i,8,none⟩=some (Z a)):=λd Q=>by
  have A:EC ⟨5,y.f,y.b,y.H,y.a,y.c,(a:Int),R.DL r.D,false,R.EY r.D (a:Int)⟩:=by
   rw[f.f,f.b,f.H,f.a,f.c,<-YY];exact o
  refine cm ((h.h Q).aba _ _ _ _ _ 5 (a:Int) (R.DL r.D) false _ A) ?_;rintro c ⟨m,T,q2⟩;have z:=T;rw[f.f,f.b,f.H,f.a,f.c,<-YY]at z;have C:(R.E9 G y.f ⟨5,y.f,y.b,y.H,y.a,y.c,(a:Int),R.DL r.D,false,R.EY r.D (a:Int)⟩).J[i]?=some r:=by rw[R.KX];exact l.J
  have⟨y2,g1,_⟩:=T.q C l.ne;have⟨k0,E,k2,H,J,k5,k6,K,L,k9,aa⟩:=X8 g1.blk;have j:=g1.rel;rw[R.OA]at j;have⟨s,t⟩:=j.h v;rw[j.f,<-f.f]at k0;rw[j.b,<-f.b]at E;rw[j.H,<-f.H]at k2;rw[j.a,<-f.a]at H;rw[j.c,<-f.c]at J;rw[s]at K;rw[t,n]at L;exact⟨I,(g c).2 ⟨m,z,(D8.J F Q).trans q2⟩,k0,E,k2,H,J,K,L⟩
 have⟨c0,c1,c2,c3,c4,c5,c6,c7,c8,c9,B⟩:=X8 l.blk;rw[q]at c7;rw[Hg]at c8;have⟨X,W,M⟩:=Ll (λw=>IC r.D w U) (λw=>V2 r.D a w U x) (O w.drew (AA _ _).drew);clear g o O S h f l q Hg;generalize str (R.EY r.D (a:Int))=SB at *;generalize str r.D=SM at *;generalize R.DL r.D=N at *;generalize p.t.ql i=b at *;have⟨cl,li,ln,sq,u,st,ak,an,yt,wt,tr⟩:=y;simp only at c0 c1 c2 c3 c4 M;clear c5 c6 c9 B x b1 b2 b3 P n v
 delta D7
 go_in
 go_wp2_with fail
 go_region_held3 (λd=>d.cell? (Y b 0)=some (Z cl)/\d.cell? (Y b 1)=some (Z li)/\d.cell? (Y b 2)=some (Z ln)/\d.cell? (Y b 3)=some (Z sq)/\d.cell? (Y b 4)=some (Z u)/\d.cell? (Y b 7)=some (.string SM)/\d.cell? (Y b 8)=some (Z a)) (go_keep) (first
  |(go_at_call 203;refine cs (X _) ?_)
  |(go_at_call 205;refine cs (W _) ?_)
  |(go_at_call 220;refine cm M ?_;rintro w3 ⟨D,k0,E,k2,H,J,K,L⟩))
 all_goals
  go_wp2;go_returns;exact⟨I,D⟩
theorem sK(w:Aa)(b:Nat)(s:Ac)a(h:s.length<=1000)(f:w.cell? (Y b 7)=some (.string (str s)))(g:w.cell? (Y b 8)=Z a):
  D7 214 #[ptr b] w (.bool (decide (a=R.DL s-1))) (DY w):=by
 have e:=Dx (λw=>IC s w U);have hn:0<=R.DL s/\R.DL s<=1000:=by unfold R.DL;omega
 generalize str s=SM at *;generalize R.DL s=N at *;have c:IntKind.i64.wrap (N-1)=N-1:=Iz
 delta D7
 go_in
 go_wp2_with fail
 go_region_held3 (λd=>d.cell? (Y b 7)=some (.string SM)/\d.cell? (Y b 8)=some (Z a)) (go_keep) (first
  |(go_at_call 203;refine cs (e _) ?_))
 all_goals
  go_wp2
  go_ret
  exact⟨by
   have:(a==N-1)=decide (a=N-1):=by rw[BH];simp
   rw[this];rfl,(AA _ _).drew⟩
theorem Yj(w:Aa)(s b:Nat)(rt p:Int)(c:Bool)(o g d:World->Prop)
  (q:Hid (D7 169 #[ptr s,ptr b] w Ep λa=>o a))
  (r:Hid (∀a,o a->D7 214 #[ptr b] a (.bool c) λk=>g k))
  (t:Hid (∀a,g a->EB a s 2 (Z rt)/\EB a s 3 (Z p)/\(∃x,EB a b 9 (Z x))/\(∃x,EB a b 10 (Z x))/\DJ a b 9/\DJ a b 10/\¬s=b))
  (u:Hid (c=true->∀a,g a->d (a.setCell (Y b 9) (Z 0))))
  (v:Hid (c=false->∀a,g a->d ((a.drew.setCell (Y b 9) (Z rt)).setCell (Y b 10) (Z p)))):
  D7 166 #[ptr s,ptr b] w Ep λa=>d a:=by
 delta D7
 go_in
 go_wp2_with (first|(go_at_call 169;refine cm q λD j=>?_;have m:=Dx (r D j)))
 refine cm m λl f=>?_
 have⟨s2,s3,⟨x9,z⟩,⟨E,y⟩,G,F,i⟩:=t l f;have⟨B,C⟩:=KM z s2;have A:¬b=s:=λe=>i e.symm
 have n:=Dx f;clear m f;cases c with
 |true=>
  have h:=Dx (u I l n);go_wp2;go_returns;exact⟨I,h⟩
 |false=>
  have h:=Dx (v I l n);go_wp2
  go_region
  all_goals
   go_wp2;go_returns;exact⟨I,h⟩
theorem NS(G:R.Wd)(i:Nat):(R.Ex G i).J=G.J:=by grind [R.Ex,R.KX]
theorem IX(G:R.Wd)(i:Nat):(R.Ex G i).C=G.C:=by grind [R.Ex,R.OA]
theorem Qu(G:R.Wd)(i:Nat):(R.Ex G i).c=G.c:=by grind [R.Ex,R.Mb]
theorem LW.aa6(h:LW p F G w){y:PR}(a:Yd p G w i r y):¬p.s=p.t.ql i:=ES h.a.bs a.blk Em
theorem LW.tell(h:LW p F G w){y:PR}(k:Yd p G w i r y)(t:r.d=3):
  D7 166 #[ptr p.s,ptr (p.t.ql i)] w Ep λd=>∃a,LW p a (R.JF G i) d/\D8 F a w d:=by
 have o:=h.g.sn i r k.J;have⟨N,O,P,Q⟩:=o.h t;have z:=h.wf.cf;unfold R.GA at z;have l:(R.Ex G i).J[i]?=some r:=by rw[NS];exact k.J
 have n:R.JF G i=R.EA (R.Ex G i) i {r with g:=decide (8*r.at'+8<(r.D.length:Int)),C:=G.c.c,e:=G.c.e}:=by grind [R.JF,R.F7]
 rw[n];have Sr:∀(a:D9) (f d:Aa) (j y':PR),LW p a (R.Ex G i) f->D8 F a w f->Yd p (R.Ex G i) f i r j->DF (λb=>b=p.t.ql i) f d->Dy d (p.t.ql i) y'.cells.toArray 179->PT i (G.C.getD (i / 3) 0) {r with g:=decide (8*r.at'+8<(r.D.length:Int)),C:=G.c.c,e:=G.c.e} y'->∃a,LW p a (R.EA (R.Ex G i) i {r with g:=decide (8*r.at'+8<(r.D.length:Int)),C:=G.c.c,e:=G.c.e}) d/\D8 F a w d:=λa f d j y' c k2 E H J K=>by
  have⟨L,_,M⟩:=c.Oy (r':={r with g:=decide (8*r.at'+8<(r.D.length:Int)),C:=G.c.c,e:=G.c.e}) (y':=y') E k.ne H J (by rw[IX];exact K) (by
   rw[IX];exact⟨λe=>absurd e k.ne,o.a,o.some,o.b,o.C,o.h,λ_=>⟨t,by simp only;omega,by simp only;omega⟩⟩)
  exact⟨a,L,k2.trans M⟩
 refine Yj w p.s (p.t.ql i) G.c.c G.c.e (decide (r.at'=R.DL r.D-1)) (λd=>∃a,LW p a (R.Ex G i) d/\D8 F a w d) (λd=>∃a,LW p a (R.Ex G i) d/\D8 F a w d) _ (h.UJ k t) ?_ ?_ ?_ ?_
 .rintro f ⟨m,c,k2⟩;have⟨j,g1,_⟩:=c.q l k.ne;have⟨_,_,_,_,_,_,_,A,B,_,_⟩:=X8 g1.blk;have⟨x,Hg⟩:=g1.rel.h t;rw[x]at A;rw[Hg]at B;refine cm (sK f _ r.D r.at' U A B) λS D=>?_
  exact⟨I,m,c.h D,k2.trans (D8.J m D)⟩
 .rintro f ⟨m,c,k2⟩;have⟨j,g1,_⟩:=c.q l k.ne;have⟨_,_,_,_,_,_,_,_,_,c9,v⟩:=X8 g1.blk;have s2:=c.a.cell 2 _ I;have s3:=c.a.cell 3 _ I;rw[Qu]at s2 s3;exact⟨s2,s3,⟨_,c9⟩,⟨_,v⟩,Eb g1.blk,Eb g1.blk,c.aa6 g1⟩
 .rintro hl f ⟨m,c,k2⟩;have hl:r.at'=R.DL r.D-1:=by simpa using hl
  have⟨j,g1,_⟩:=c.q l k.ne;have hrel:=g1.rel;rw[IX]at hrel;have u:decide (8*r.at'+8<(r.D.length:Int))=false:=by grind [R.Uv]
  refine Sr m f _ j {j with C:=0} c k2 g1 (Eg _) (Kj g1.blk I) ⟨hrel.f,hrel.b,hrel.H,hrel.a,hrel.c,hrel.d,hrel.Q,hrel.h,?_,?_⟩
  .simp[u]
  .simp[u]
 .rintro hl f ⟨m,c,k2⟩;have hl:¬r.at'=R.DL r.D-1:=by simpa using hl
  have q:DY f f.drew:=(AA _ _).drew;have s:=c.h q;have⟨j,g1,_⟩:=s.q l k.ne;have hrel:=g1.rel;rw[IX]at hrel;have u:decide (8*r.at'+8<(r.D.length:Int))=true:=by grind [R.Uv]
  refine Sr m f.drew _ j {j with C:=G.c.c,e:=G.c.e} s (k2.trans (D8.J m q)) g1 ((Eg _).trans (Eg _)) ?_ ⟨hrel.f,hrel.b,hrel.H,hrel.a,hrel.c,hrel.d,hrel.Q,hrel.h,?_,?_⟩
  .exact Kj (y:={j with C:=G.c.c}) (Kj g1.blk I) I
  .simp[u]
  .simp
theorem ir(a:World->Prop)(s2:EB w s 2 (Z rt))(a9:EB w b 9 (Z wt))(GQ:EB w b 10 (Z tr))(v:DJ w b 9)(r:DJ w b 10)(g:¬s=b)(q:1<=wt/\wt<=8)(p:0<=tr/\tr<=6)
  (d:Hid (1<wt\/tr=0->a (w.setCell (Y b 9) (Z (wt-1)))))
  (f:Hid (wt=1->0<tr->D7 169 #[ptr s,ptr b] (((w.setCell (Y b 9) (Z (wt-1))).setCell (Y b 10) (Z (tr-1))).setCell (Y b 9) (Z rt)) Ep λi=>a i)):
  D7 100 #[ptr s,ptr b] w Ep λi=>a i:=by
 have e1:IntKind.i64.wrap (wt-1)=wt-1:=Iz;have e2:IntKind.i64.wrap (tr-1)=tr-1:=Iz;have k:¬b=s:=λe=>g e.symm
 have⟨n,o⟩:=KM s2 a9;by_cases l:1<wt
 .have t:0<wt-1:=U;have HP:=Dx (d (Aj l));clear d f
  delta D7
  go_in
  exact wC
 .have c:wt=1:=U;by_cases j:tr=0
  .have HP:=Dx (d (Am j));clear d f;subst c j
   delta D7
   go_in
   exact wC
  .have m:0<tr:=U;have HP:=Dx (f c m);clear d f;subst c
   delta D7
   go_in
   go_wp2;refine KJ 0 I ?_;go_wp2
   go_step3
   refine⟨I,?_⟩;show Code.wp prog _ _ _ _;go_wp2_with (first|(go_at_call 169;refine cm HP λu h=>?_))
   refine RN ?_;go_wp2;go_returns;exact⟨I,h⟩
theorem LW.afW(h:LW p F G w){y:PR}(a:Yd p G w i r y)(d:r.g=true):
  D7 100 #[ptr p.s,ptr (p.t.ql i)] w Ep λt=>∃m,LW p m (R.EH G i) t/\D8 F m w t:=by
 have b:=h.g.sn i r a.J;have⟨s,E,x⟩:=b.g d;have hrel:=a.rel;have B:y.C=r.C:=by rw[hrel.C,Ay d]
 have A:=hrel.e d;have o:=h.wf.cf;unfold R.GA at o;have⟨_,_,_,_,_,_,_,_,_,c9,f⟩:=X8 a.blk;rw[B]at c9;rw[A]at f;have z:∀{r':R.Sn},r'.a=r.a->(r'.a=0->r'=R.Ic):=λe q=>absurd (e ▸ q) a.ne
 have c:R.EH G i=if 1<r.C then R.EA G i {r with C:=r.C-1} else if r.e=0 then R.EA G i {r with C:=r.C-1,g:=false} else R.Ex (R.EA G i {r with C:=G.c.c,e:=r.e-1}) i:=by
  unfold R.EH;simp only;rw[R.F7 a.J,Ao (by simp[d])]
 rw[c];refine ir _ (h.a.cell 2 _ I) c9 f (Eb a.blk) (Eb a.blk) (h.aa6 a) E x ?_ ?_
 .intro H;by_cases n:1<r.C
  .rw[Ay n];have⟨k,_,l⟩:=h.Oy (r':={r with C:=r.C-1}) (y':={y with C:=r.C-1}) a a.ne (Eg _) (Kj (j:=9) (v:=Z (r.C-1)) a.blk I) ⟨hrel.f,hrel.b,hrel.H,hrel.a,hrel.c,hrel.d,hrel.Q,hrel.h,by simp[d],hrel.e⟩ ⟨z I,b.a,b.some,b.b,b.C,b.h,λ_=>⟨s,by simp only;omega,x⟩⟩;exact⟨F,k,l⟩
  .have u:r.e=0:=U;rw[Ao n,Ay u];have⟨k,_,l⟩:=h.Oy (r':={r with C:=r.C-1,g:=false}) (y':={y with C:=r.C-1}) a a.ne (Eg _) (Kj (j:=9) (v:=Z (r.C-1)) a.blk I) ⟨hrel.f,hrel.b,hrel.H,hrel.a,hrel.c,hrel.d,hrel.Q,hrel.h,by simp only[Ao (show ¬(false:Bool)=true by decide)];omega,Ev⟩ ⟨z I,b.a,b.some,b.b,b.C,b.h,Ev⟩;exact⟨F,k,l⟩
 .intro n u;rw[Ao U,Ao U];have⟨k,D,l⟩:=h.Oy (r':={r with C:=G.c.c,e:=r.e-1}) (y':={y with C:=G.c.c,e:=r.e-1}) a a.ne (((Eg _).trans (Eg _)).trans (Eg _)) (Kj (j:=9) (v:=Z G.c.c) (y:={y with C:=r.C-1,e:=r.e-1}) (Kj (j:=10) (v:=Z (r.e-1)) (y:={y with C:=r.C-1}) (Kj (j:=9) (v:=Z (r.C-1)) a.blk I) I) I) ⟨hrel.f,hrel.b,hrel.H,hrel.a,hrel.c,hrel.d,hrel.Q,hrel.h,by simp[d],Ev⟩ ⟨z I,b.a,b.some,b.b,b.C,b.h,λ_=>⟨s,by simp only;omega,by simp only;omega⟩⟩;refine cm (k.UJ D s) ?_;rintro t ⟨m,g1,g2⟩;exact⟨I,m,g1,l.trans g2⟩
theorem ik(w:Aa)(s n:Nat)(bs:Nat->Nat)(J:Value->Nat->World->Prop)(hn:n<=9)
  (h:Hid (ET 99 #[ptr s] w λe f=>∃O,e=.returned O/\J O 0 f))
  (r:Hid (∀O k wr,J O k wr->∃a c,O=.slice a n c))
  (q:Hid (∀O k wr,k<n->J O k wr->∃g c,O=EJ g n c/\EB wr g k (ptr (bs k))/\∃x,wr.cell? ⟨bs k,9,none⟩=Z x/\(0<x->D7 100 #[ptr s,ptr (bs k)] wr Ep λf=>J O (k+1) f)/\(¬0<x->J O (k+1) wr))):
  D7 59 #[ptr s] w Ep λf=>∃O,J O n f:=by
 delta D7
 go_in
 go_wp2_with fail
 refine h.mono ?_;rintro e v ⟨O,rfl,hJ⟩;have⟨a,c,i⟩:=r O 0 v hJ;subst i;have m:=Dx hJ;clear hJ;go_wp2;go_loopw [7] (λiv wr=>∃k:Nat,k<=n/\iv=Z k/\J (.slice a n c) k wr) (λiv _=>n-(intOf iv).toNat)
 case atStart=>exact⟨0,AV _,I,m⟩
 case round=>
  obtain⟨k,hk,rfl,hJ⟩:=hrel;by_cases l:k<n
  .have⟨g,y,i,j,x,z,b,d⟩:=q _ k wr l hJ;cases i;have⟨t,p⟩:=FU b d;clear b d hJ;by_cases u:0<x
   .have o:=Dx (t u);go_wp2_with (first|(go_at_call 100;refine cm o λA hw3=>?_))
    exact aaM
   .have HI:=Dx (p U);exact aaK
  exact ab7
end Go.Proofs.YtblomippkddgiabGreatDoor
