import Derived.Test.YtblomippkddgiaaGreatDoorJ22
set_option maxRecDepth 100000
set_option maxHeartbeats 2000000
namespace Go.Proofs.YtblomippkddgiaaGreatDoor
open Go.Proofs.Tryz
open Go.RowKit
variable {F:D9}{ac:Int}{cs_:List Value}{B b cb i j k nl s:Nat}{o:Obj}{P:Pk}{p:Pl}{M:R.Bk}{d:R.Cd}{G:R.Wd}{y:PR}{W w w':World}
theorem LW.KN(h:LW p F G w)(m:EC P){e pa o:Int}(hk:1<=e/\e<=7)(hn:e≠1/\e≠5)(u:1<=o/\o<=9)(g:0<=pa/\pa<=o-1):
  D7 192 #[ptr p.s,cv P,S9 e 0 0 0 0 0 pa o false ⟨#[]⟩] w Ep λw'=>∃f,LW p f (R.G8 G P e pa o) w'/\D8 F f w w':=by grind [EC,R.G8,LW.aba,Ju]
theorem LW.XG(h:LW p F G w)(f:EC P){e:Int}(g:e=0\/e=1):
  D7 234 #[ptr p.s,pv P,Z e] w Ep λw'=>∃F',LW p F' (R.G8 G P 7 e 2) w'/\D8 F F' w w':=by
 refine ZN _ (λm hb=>?_);refine cm ((h.DG hb).KN f U U U U) ?_;exact pB
def UR(G:R.Wd)(P:Pk):R.Wd:=if P.Dz=3 then R.G8 G P 4 0 1 else R.G8 G P 2 P.Ez P.off
theorem LW.abd(h:LW p F G w)(e:EC P):
  D7 237 #[ptr p.s,pv P] w Ep λw'=>∃F',LW p F' (UR G P) w'/\D8 F F' w w':=by
 have g:=e.2.2.2.2.2.2.1;have f:=e.2.2.2.2.2.2.2.1;unfold UR;by_cases hk:P.Dz=3
 ·rw[Ay hk];refine Wn _ (Aj ⟨hk,rfl,rfl,rfl⟩) (λm hb=>?_);refine cm ((h.DG hb).KN e U U U U) ?_;exact pB
 ·rw[Ao hk];refine Wn _ (Am ⟨hk,rfl,rfl,rfl⟩) (λm hb=>?_);refine cm ((h.DG hb).KN e U U g f) ?_;exact pB
theorem LW.Fj(h:LW p F G w)(u:Int):
  D7 233 #[ptr p.s,Z u] w (.bool (R.Js G u)) λw'=>w'=w:=by
 have⟨a,c,X⟩:=Fa h.Hd.Gw;have hzl:p.t.zs.length=G.Dy.length:=by rw[<-h.Hd.zs,AX]
 have c6:EB w p.s 6 (.slice a p.t.zs.length c):=ED h.Hd.bs 6 _ (by rw[<-X];rfl);have Lp:=h.wf.sv;by_cases hu:1<=u/\u<=(G.Dy.length:Int)
 ·obtain⟨n,rfl⟩:∃n:Nat,u=(n:Int)+1:=⟨(u-1).toNat,U⟩;have hn:n<G.Dy.length:=U;have⟨z,hz,aa⟩:=Rv h.Hd.zs (Ah hn);have⟨g,cap,O,m,_,_,_,k1,_⟩:=h.Hd.PG hz;have D:EB w p.s 6 (EJ g p.t.zs.length cap):=ED h.Hd.bs 6 _ (by rw[<-m];rfl);have f:R.Js G ((n:Int)+1)=z.1.Fj:=by grind [R.Js]
  rw[f];have e:=(h.Hd.each z (Ap hz)).wk;cases hb:z.1.Fj with
  |true=>
   rw[Ay hb]at e;have:∃T b,z.2.wk=.iface T (ptr b):=by
    generalize z.1.Dz=kd at e;generalize z.2.wk=W at e;cases e with
    |counter=>exact⟨_,_,rfl⟩
    |MZ=>exact⟨_,_,rfl⟩
    |P9=>exact⟨_,_,rfl⟩
   grind [kI]
  |false=>grind [bN]
 ·have f:R.Js G u=false:=by
   unfold R.Js;by_cases Q:1<=u
   ·rw[BM U];simp
   ·simp[Q]
  grind [qw]
theorem LW.Qh(h:LW p F G w){js:List R.Jb}(hk:DF (λk=>k=p.t.jc) w w')(T:∃a b:Nat,w'.heap[p.t.jc]?=some (.chan G.c.FF.toNat (js.map Xn).toArray false a b false))(m:R.MX G.c G.DX G.DN js):LW p F {G with EF:=js} w'/\D8 F F w w':=by
 have⟨ja,jb,f⟩:=h.Hd.EF;have X:=h.Hd.Qh hk T;have D:GD w (λk=>k=p.t.jc):=λb O=>Am ⟨_,_,_,_,_,_,by subst O;exact f⟩
 have g:R.Wf (Hu G G.Dy G.DX G.DN js):=⟨h.wf.cf,h.wf.N5,λj c hc=>⟨(h.wf.cl j c hc).DV,(h.wf.cl j c hc).DR,(h.wf.cl j c hc).Ee,(h.wf.cl j c hc).DZ⟩,h.wf.JC,h.wf.JX,h.wf.sv,h.wf.R7,h.wf.nm,h.wf.st,h.wf.nd,h.wf.Pn⟩;have q:=h.OW X hk D (λ_ r=>r) (λk Q=>Ai (h.lt k Q) hk.size) g m (λi c _ u=>rfl);exact⟨q,hk.mono (λk _ e=>by rw[e];exact h.Hd.Fw.2.1),λ_ r=>Aj r⟩
theorem vX{F':D9}(hB:∀k,F k->k<B)(e:D8 F F' w w'):Yf B w w':=by
 refine⟨e.E0.size,λx g hl=>?_⟩;refine e.E0.block x hl (λf=>?_);have:=hB x f;omega
structure aei(P:Pk)(i:Nat)(r:R.Sn)(y:PR):Prop where
 DJ:y.DJ=P.DJ
 DR:y.DR=P.DR
 DZ:y.DZ=P.DZ
 D4:y.D4=P.D4
 D5:y.D5=P.D5
theorem aeS{r:R.Sn}(g:Yd p G w i r y)(f:R.Lm M G P d i)(h:r.D4=P.D4)(hu:r.D5=P.D5):aei P i r y:=by
 have hk:=f.key;have e:=g.rel;simp only[R.JD,R.Key.mk.injEq]at hk;exact⟨by rw[e.DJ,hk.1],by rw[e.DR,hk.2.1],by rw[e.DZ,hk.2.2.1],by rw[e.D4,h],by rw[e.D5,hu]⟩
def Yh(G:R.Wd)(i:Nat)(r:R.Sn)(P:Pk):R.Wd:=
 if P.Ez=P.off-1 then {R.EA G i {r with DK:=2,DC:=r.DC++P.Ef,DT:=r.DT+1} with EF:=G.EF++[⟨P.DJ,P.DZ,P.DR,P.D4,P.D5⟩]}
 else R.EA G i {r with DC:=r.DC++P.Ef,DT:=r.DT+1}
theorem LW.af3(h:LW p F G w)(hI:R.Inv M G){r:R.Sn}(m:Yd p G w i r y)(h1:r.DK=1)(T:R.Lm M G P d i)(ho:P.off=R.DL d.J9)(hb:P.Ef=R.EY d.J9 P.Ez)(hs:r.D4=P.D4)(b6:P.Ez=r.DT):
  ET 258 #[ptr p.s,ptr (p.t.ql i),pv P] w λe w'=>(e=.returned (.bool false)/\(P.Ez=P.off-1/\G.c.FF<=(G.EF.length:Int))/\LW p F G w'/\D8 F F w w')\/(e=.returned (.bool true)/\¬(P.Ez=P.off-1/\G.c.FF<=(G.EF.length:Int))/\LW p F (Yh G i r P) w'/\D8 F F w w'):=by
 have aa:=h.GQ.sn i r m.DN;obtain⟨g1,g2,g3⟩:=aa.Lu h1;have X:=m.rel;have bz:=T.lt;obtain⟨d',ak⟩:=hI.sn i r m.DN m.ne;have az:=T.key;have aV:d'=d:=by
  have:=ak.Gw;rw[hs,<-az,T.Gw]at this;exact(Option.some.inj this).symm
 subst aV;have aN:r.D5=P.D5:=by rw[ak.D5,T.D5]
 have O:=aeS m T hs aN;obtain⟨c0,c1,c2,c3,c4,c5,c6,c7,c8,c9,bp⟩:=X8 m.blk;have ar:=X.Gn (Aj h1);rw[ar]at c6;rw[O.DJ]at c0;rw[O.DR]at c1;rw[O.DZ]at c2;rw[O.D4]at c3;rw[O.D5]at c4;have ah:=T.right.2.2.2.2.2.2.1;have b5:=T.right.2.2.2.2.2.2.2.1;have bt:P.Ef.length<=8:=by rw[hb,R.LA];omega
 have aw:∀st:Int,(st=1/\¬P.Ez=P.off-1)\/(st=2/\P.Ez=P.off-1)->R.Tm (G.DX.getD (i / 3) 0) {r with DK:=st,DC:=r.DC++P.Ef,DT:=r.DT+1}:=λst bU=>by
  have bL:(r.DC++P.Ef).length<=72:=by rw[AJ];omega
  have h0:=aa.some m.ne;refine⟨λe=>absurd e m.ne,aa.D4,λ_=>⟨h0.1,h0.2.1,by simp only;omega⟩,λe=>?_,λe=>?_,λe=>by simp only at e;omega,λe=>?_⟩
  ·simp only at e;have bS:¬P.Ez=P.off-1:=U;have h8:P.Ef.length=8:=by
    have:=T.right.2.2.2.2.2.2.2.2;have g:P.Dz=1\/P.Dz=5\/¬(P.Dz=1\/P.Dz=5):=U;have br:=R.NB (s:=d'.J9) (k:=P.Ez) b5.1
    grind
   grind
  ·simp only at e ⊢;rw[AJ];have aq:=ak.Lu h1;have bi:r.DC++P.Ef=d'.J9:=by
    obtain⟨n,hn⟩:∃n:Nat,r.DT=(n:Int):=⟨r.DT.toNat,U⟩;rw[aq.1,hb,b6,hn,AY,R.Md,R.L6];rw[<-ho];omega
   grind [R.Cd.J9,EU]
  ·have ht:=(aa.E1 e).1;omega
 by_cases hl:P.Ez=P.off-1
 ·obtain⟨ja,jb,hj⟩:=h.Hd.EF;have ao:=h.Hd.cell 19 _ rfl;have b3:=Gv ao;have b2:=(AB.1 hj).1;have aS:=h.wf.cf;unfold R.GA at aS;have av:∀Q,DY w Q->EB Q p.s 19 (.chan (some p.t.jc))/\Q.heap[p.t.jc]?=some (.chan G.c.FF.toNat (G.EF.map Xn).toArray false ja jb false):=λQ f=>⟨(f.cell (p:=Y p.s 19) b3).trans ao,by rw[f.block _ b2];exact hj⟩
  by_cases ad:G.c.FF<=(G.EF.length:Int)
  ·refine(qm w p.s (p.t.ql i) P P.DJ P.DR P.DZ P.D4 P.D5 c0 c1 c2 c3 c4 ah hl (λQ f=>?_)).mono ?_
   ·grind [ZH]
   ·rintro e w' ⟨rfl,f⟩;exact Aj ⟨rfl,⟨hl,ad⟩,h.DG f,D8.D6 F f⟩
  ·refine(qo w p.s (p.t.ql i) P r.DC P.DJ P.DR P.DZ P.D4 P.D5 0 (λD=>LW p F {G with EF:=G.EF++[⟨P.DJ,P.DZ,P.DR,P.D4,P.D5⟩]} D/\D8 F F w D) (λD=>LW p F (Yh G i r P) D/\D8 F F w D) c0 c1 c2 c3 c4 ah hl U U (λQ f=>?_) ?_ ?_).mono ?_
   ·refine cm (ZI Q p.s p.t.jc G.c.FF.toNat ja jb _ P.DJ P.DR P.DZ P.D4 P.D5 (av Q f).1 (av Q f).2 Fy) ?_;rintro w' ⟨b1,ae⟩;have b7:R.MX G.c G.DX G.DN (G.EF++[⟨P.DJ,P.DZ,P.DR,P.D4,P.D5⟩]):=⟨h.GQ.ll,h.GQ.lv,h.GQ.sl,h.GQ.sn,Fy,λj hj=>by
     rcases Bj.1 hj with q|q
     ·exact h.GQ.jb j q
     ·simp only[Bg]at q;subst q;exact⟨T.right.2.1,T.right.2.2.2.1⟩⟩
    obtain⟨q1,q2⟩:=(h.DG f).Qh (js:=G.EF++[⟨P.DJ,P.DZ,P.DR,P.D4,P.D5⟩]) ae ⟨ja+1,jb,by rw[b1];congr 2;simp[Xn]⟩ b7;exact⟨rfl,⟨q1,(D8.D6 F f).trans q2⟩,λx hx b4=>ae.block x b4 U,ae.size⟩
   ·rintro D ⟨q1,_⟩;obtain⟨y1,k1,_⟩:=q1.q (i:=i) (r:=r) m.DN m.ne;obtain⟨_,_,_,_,_,f5,f6,_⟩:=X8 k1.blk;rw[k1.rel.DK,h1]at f5;rw[k1.rel.Gn (Aj h1)]at f6;exact⟨f6,Eb k1.blk,f5,Eb k1.blk⟩
   ·rintro D Q ⟨q1,q2⟩ u;obtain⟨y1,k1,_⟩:=q1.q (i:=i) (r:=r) m.DN m.ne;have g:=k1.rel;obtain⟨m1,_,m2⟩:=q1.Oy (r':={r with DK:=2,DC:=r.DC++P.Ef,DT:=r.DT+1}) (y':={y1 with Gn:=r.DC++P.Ef,DK:=1}) k1 m.ne ((Eg _).trans (Eg _)) (Kj (j:=5) (v:=Z 1) (y:={y1 with Gn:=r.DC++P.Ef}) (Kj (j:=6) (v:=.string (str (r.DC++P.Ef))) k1.blk rfl) rfl) ⟨g.DJ,g.DR,g.DZ,g.D4,g.D5,rfl,λ_=>rfl,λe=>by simp only at e;omega,g.El,g.DW⟩ (aw 2 (Am ⟨rfl,hl⟩));have al:((D.setCell ⟨p.t.ql i,6,none⟩ (.string (str (r.DC++P.Ef)))).setCell ⟨p.t.ql i,5,none⟩ (Z 1)).heap.size=D.heap.size:=Ev;rw[<-al]at u;refine⟨?_,(q2.trans m2).trans (D8.D6 F u)⟩;unfold Yh;rw[Ay hl];exact m1.DG u
   grind
 ·refine(qp w p.s (p.t.ql i) P r.DC (λD=>LW p F (Yh G i r P) D/\D8 F F w D) c6 (Eb m.blk) U U ah hl (λQ u=>?_)).mono ?_
  ·obtain⟨m1,_,m2⟩:=h.Oy (r':={r with DC:=r.DC++P.Ef,DT:=r.DT+1}) (y':={y with Gn:=r.DC++P.Ef}) m m.ne (Eg _) (Kj (j:=6) (v:=.string (str (r.DC++P.Ef))) m.blk rfl) ⟨X.DJ,X.DR,X.DZ,X.D4,X.D5,X.DK,λ_=>rfl,X.MY,X.El,X.DW⟩ (aw r.DK (Aj ⟨h1,hl⟩));have al:(w.setCell ⟨p.t.ql i,6,none⟩ (.string (str (r.DC++P.Ef)))).heap.size=w.heap.size:=Ev;rw[<-al]at u;refine⟨?_,m2.trans (D8.D6 F u)⟩;unfold Yh;rw[Ao hl];exact m1.DG u
  grind
theorem gX(hk:P.Dz=1):UR G P=R.G8 G P 2 P.Ez P.off:=by
 unfold UR;rw[Ao U]
theorem LW.jF(h:LW p F G w)(hI:R.Inv M G){r:R.Sn}(O:Yd p G w i r y)(h1:r.DK=1)(hp:R.Lm M G P d i)(hk:P.Dz=1)(ho:P.off=R.DL d.J9)(hb:P.Ef=R.EY d.J9 P.Ez)(hs:r.D4=P.D4):
  D7 236 #[ptr p.s,ptr (p.t.ql i),pv P] w Ep λw'=>∃Q,LW p Q (if P.Ez<=r.DT then R.Gy G i P else G) w'/\D8 F Q w w':=by
 have ab:=h.GQ.sn i r O.DN;have⟨g1,g2,g3⟩:=ab.Lu h1;have hr:=O.rel;have c6:=(X8 O.blk).a6;rw[hr.Gn (Aj h1)]at c6;have aa:R.DL r.DC=r.DT:=by unfold R.DL;omega
 have D:=R.F7 O.DN;have X:R.Gy G i P=if P.Ez=r.DT then (if P.Ez=P.off-1/\G.c.FF<=(G.EF.length:Int) then G else R.Mi (Yh G i r P) P) else R.Mi G P:=by
  unfold R.Gy Yh;simp only[D];by_cases u:P.Ez=r.DT
  ·rw[Ay u,Ay u];by_cases g:P.Ez=P.off-1
   ·rw[Ay g,Ay g];by_cases m:G.c.FF<=(G.EF.length:Int)
    ·rw[Ay m,Ay ⟨g,m⟩]
    ·rw[Ao m,Ao (λq=>m q.2)]
   ·rw[Ao g,Ao g,Ao (λq=>g q.1)]
  ·rw[Ao u,Ao u]
 refine YX (λT=>∃K,LW p F K T/\D8 F F w T/\R.Mi K P=(if P.Ez<=r.DT then R.Gy G i P else G)) _ c6 (λw=>by
  have:=IC r.DC w U;rw[aa]at this;exact this) (λq wa f=>?_) (λq wa f=>?_) (λq wa f=>?_) (λq T=>?_) (λq T=>?_)
 ·rw[Ao U];exact⟨F,h.DG f,D8.D6 F f⟩
 ·refine((h.DG f).af3 hI (O.DG f) h1 hp ho hb hs q).mono ?_;rintro e w' (⟨rfl,u,g,m⟩|⟨rfl,u,g,m⟩)
  ·refine Aj ⟨rfl,F,?_,(D8.D6 F f).trans m⟩;rw[Ay U,X,Ay q,Ay u];exact g
  ·refine Am ⟨rfl,⟨Yh G i r P,g,(D8.D6 F f).trans m,?_⟩,vX h.lt m⟩;rw[Ay U,X,Ay q,Ao u]
 ·refine⟨G,h.DG f,D8.D6 F f,?_⟩;rw[Ay U,X,Ao U]
 ·rintro ⟨K,k1,k2,k3⟩;refine cm (k1.abd hp.right) ?_;rintro w' ⟨Q,m1,m2⟩;refine⟨rfl,Q,?_,k2.trans m2⟩;rw[<-k3];unfold R.Mi;rw[Ay q,<-gX hk];exact m1
 ·rintro ⟨K,k1,k2,k3⟩;refine⟨F,?_,k2⟩;rw[<-k3];unfold R.Mi;rw[Ao (by rw[q];simp)];exact k1
theorem LW.ac8(h:LW p F G w)(T:R.Inv M G){r:R.Sn}(e:Yd p G w i r y)(m:R.Lm M G P d i)(hk:(P.Dz=1/\P.off=R.DL d.J9/\P.Ef=R.EY d.J9 P.Ez)\/P.Dz=3)(hs:r.D4=P.D4):
  D7 200 #[ptr p.s,ptr (p.t.ql i),pv P] w Ep λw'=>∃F',LW p F' (R.Hl G i P) w'/\D8 F F' w w':=by
 have D:=h.GQ.sn i r e.DN;have aa:=(D.some e.ne).2.2;have X:=e.rel;have c5:=(X8 e.blk).a5;rw[X.DK]at c5;have u:=R.F7 e.DN;have O:R.Hl G i P=if r.DK=1 then (if P.Dz=1/\P.Ez<=r.DT then R.Gy G i P else G) else if r.DK=4 then R.G8 G P 7 0 2 else if P.Fs=false then G else if r.DK=3 then R.JF G i else UR G P:=by grind [R.Hl,UR]
 rw[O];refine eQ _ c5 U (λq g hb=>?_) (λq f g hb=>?_) (λq f g hb=>?_) (λq f g hb=>?_) (λq g hb=>?_)
 ·rw[Ao U,Ay U];refine cm ((h.DG hb).XG m.right (Aj rfl)) ?_;exact wL
 ·rw[Ao U,Ao U,Ao (by rw[f];simp),Ay U];refine cm ((h.DG hb).tell (e.DG hb) U) ?_;exact wL
 ·rw[Ao U,Ao U,Ao (by rw[f];simp),Ao U];refine cm ((h.DG hb).abd m.right) ?_;exact wL
 ·rw[Ay U];rcases hk with ⟨_,k2,k3⟩|k2
  ·refine cm ((h.DG hb).jF T (e.DG hb) U m f k2 k3 hs) ?_;rintro w' ⟨F',m1,m2⟩;refine⟨rfl,F',?_,(D8.D6 F hb).trans m2⟩
   grind
  ·omega
 ·have Q:(if r.DK=1 then (if P.Dz=1/\P.Ez<=r.DT then R.Gy G i P else G) else if r.DK=4 then R.G8 G P 7 0 2 else if P.Fs=false then G else if r.DK=3 then R.JF G i else UR G P)=G:=by grind
  rw[Q];exact⟨F,h.DG hb,D8.D6 F hb⟩
theorem pF(w:Aa)(cb lb nl k:Nat)(f st g:Int)(P:Pk)(hk:k<nl)(T:P.DZ=(k:Int))(Q:EB w cb 1 (Z f))(b3:EB w cb 3 (EJ lb nl nl))(a0:EB w lb (k*10) (Z st))(a1:EB w lb (k*10+1) (Z g)):
  D7 140 #[ptr cb,pv P] w (.bool (decide (st=1/\f=P.DR/\g=P.D4))) λw'=>DY w w':=by
 have⟨kd,cl,D,ln,e,u,pa,o,pl,Ef⟩:=P;dsimp only[pv]at *;subst T;have⟨X,aa⟩:=KM Q a0;have q1:0<=(k:Int):=U;have q2:(k:Int)<nl:=U;have HB:Hid (∀o,DY w (w.alloc o)):=λo=>F9
 generalize str Ef=SB at *;by_cases h:st=1
 ·have e1:(st==1)=true:=by simpa using h
  by_cases m:f=D
  ·have e2:(f==D)=true:=by simpa using m
   by_cases O:g=e
   ·have e3:(g==e)=true:=by simpa using O
    rw[show decide (st=1/\f=D/\g=e)=true by simp[h,m,O]];clear h m O;go_enter func140,ntmps140;exact xo
   ·have e3:(g==e)=false:=by simpa using O
    rw[show decide (st=1/\f=D/\g=e)=false by simp[O]];clear h m O;go_enter func140,ntmps140;exact xo
  ·have e2:(f==D)=false:=by simpa using m
   rw[show decide (st=1/\f=D/\g=e)=false by simp[m]];clear h m;go_enter func140,ntmps140;exact xo
 ·have e1:(st==1)=false:=by simpa using h
  rw[show decide (st=1/\f=D/\g=e)=false by simp[h]];clear h;go_enter func140,ntmps140;exact xo
theorem rY(e:World->Prop)
  (m:Hid (∀g,DY w g->D7 188 #[ptr cb,Z P.DZ,S9 6 0 0 0 0 0 P.Ez P.off false ⟨#[]⟩] g Ep λw'=>e w')):
  D7 201 #[ptr cb,pv P] w Ep λw'=>e w':=by
 have h:Hid (∀o,DY w (w.alloc o)):=λo=>F9
 go_enter func201,ntmps201;go_wp2_with (first|(go_at_call 188;refine cm (m _ (h _)) λu f=>?_))
 go_returns;exact⟨rfl,f⟩
theorem YF(w:Aa)(b k:Nat)(f:Af)(m g:Nat)(xs:List J7)(x:J7)(Q:∃a n c,x.rv=.slice a n c)(h:w.heap[b]?=some (.cells (tab J7.cells xs).toArray 139 (0,0)))(hx:xs[k]?=some x):
  D7 202 #[.pointer (some (Y b (k*10))),.slice f m g] w Ep λw'=>w'.heap[b]?=some (.cells (tab J7.cells (xs.set k {Qb 2 x.D4 with rv:=.slice f m g})).toArray 139 (0,0))/\DF (λq=>q=b) w w':=by
 have H:=Dx (TW w b k 2 xs x Q h hx);have hk:=GG hx;have HP:Hid (∀w':World,w'.heap[b]?=some (.cells (tab J7.cells (xs.set k (Qb 2 x.D4))).toArray 139 (0,0))->(w'.setCell (Y b (k*10+2)) (.slice f m g)).heap[b]?=some (.cells (tab J7.cells (xs.set k {Qb 2 x.D4 with rv:=.slice f m g})).toArray 139 (0,0))/\(∃a n c,EB w' b (k*10+2) (.slice a n c))/\w'.frozen? (Y b (k*10+2))=false/\b<w'.heap.size):=λw' X=>by
  have T:(xs.set k (Qb 2 x.D4))[k]?=some (Qb 2 x.D4):=by simp[hk]
  have e:=GJ (j:=2) (x':={Qb 2 x.D4 with rv:=.slice f m g}) (v:=.slice f m g) X T U rfl;simp only[A5]at e;exact⟨e.1,⟨_,_,_,(sU X T).a2⟩,Eb X,Dv X⟩
 clear h hx Q;go_enter func202,ntmps202;go_wp2_with (first|(go_at_call 121;refine cm H ?_;rintro w1 ⟨u,D⟩;have hq:=HP w1 u;have⟨O,⟨qa,qn,qc,ah⟩,ak,al⟩:=hq;have aa:=Dx O;have ab:=Dx D;clear u O D))
 go_returns;exact⟨rfl,aa,ab.trans (Eg _)⟩
theorem acM{lb:Nat}(hk:k<nl)(g:P.DZ=(k:Int))(f:EB w cb 3 (EJ lb nl nl))(a6:EB w lb (k*10+6) (Z ac))(e:¬P.Ez=ac):
  D7 141 #[ptr cb,pv P] w Ep λw'=>DY w w':=by
 have⟨O,cl,Q,ln,D,u,pa,o,T,Ef⟩:=P;dsimp only[pv]at *;subst g;have⟨h,m⟩:=KM f a6;have X:0<=(k:Int):=U;have q2:(k:Int)<nl:=U;have e1:(pa != ac)=true:=by simpa using e
 have HB:Hid (∀o,DY w (w.alloc o)):=λo=>F9
 generalize str Ef=SB at *;clear e;go_enter func141,ntmps141;exact xo
def E3(w V:Aa)(o:Obj)(W:Aa):Prop:=Below w.heap.size V W/\W.heap[w.heap.size]?=some o
theorem jj{m:Nat}{v:Ad}(f:b<w.heap.size):E3 w (w.setCell (Y b i) v) o (((w.alloc o).drewN m).setCell (Y b i) v):=by
 have e:((w.alloc o).drewN m).setCell (Y b i) v=((w.setCell (Y b i) v).alloc o).drewN m:=by
  rw[<-Ck o b i v f];rfl
 rw[e];refine⟨Ed ((AA _ _).alloc Ev _) _,?_⟩;have:=AF (w.setCell (Y b i) v) o;simpa using this
theorem EE{f:World->Prop}(P:World->Prop)(g:P W)(h:∀e,P e->f e):f W:=h W g
theorem LG(W:Aa)(hB:B<=W.heap.size)(o:Obj)(n:Nat):Below B W ((W.alloc o).drewN n):=Ed ((AA _ _).alloc hB _) _
theorem qj{lb:Nat}{n:Int}{S:Ab}(A D:World->Prop)(hk:k<nl)(hP:P.DZ=(k:Int))(b3:w.cell? (Y cb 3)=some (EJ lb nl nl))(a5:w.cell? (Y lb (k*10+5))=some (.string S))(a6:w.cell? (Y lb (k*10+6))=some (Z ac))(z6:w.frozen? (Y lb (k*10+6))=false)(av:0<=ac/\ac<=10)(ah:P.Ez=ac)
  (g:Hid (∀w,D7 187 #[.string S] w (Z n) λw'=>w'=w))
  (HS:Hid (ac+1<n->∀wa,Below w.heap.size (w.setCell (Y lb (k*10+6)) (Z (ac+1))) wa->D7 112 #[ptr cb,Z k,.bool false] wa Ep λw'=>A w'))
  (HR:Hid (∀w',A w'->D7 111 #[ptr cb,.pointer (some (Y lb (k*10)))] w' Ep λao=>D ao))
  (HN:Hid (¬ac+1<n->∀wa,Below w.heap.size (w.setCell (Y lb (k*10+6)) (Z (ac+1))) wa->A wa)):
  D7 141 #[ptr cb,pv P] w Ep λw'=>D w':=by
 have⟨kd,cl,li,ln,T,u,pa,o,pl,Ef⟩:=P;dsimp only[pv]at *;subst hP ah;have⟨aw,O⟩:=KM b3 a6;have q1:0<=(k:Int):=U;have q2:(k:Int)<nl:=U;have e1:(pa != pa)=false:=Ev;have ew:IntKind.i64.wrap (pa+1)=pa+1:=Iz;generalize str Ef=SB at *;have f:Hid (∀m,E3 w (w.setCell (Y lb (k*10+6)) (Z (pa+1))) (.cells #[Z kd,Z cl,Z li,Z k,Z T,Z u,Z pa,Z o,.bool pl,.string SB] 41) (((w.alloc (.cells #[Z kd,Z cl,Z li,Z k,Z T,Z u,Z pa,Z o,.bool pl,.string SB] 41)).drewN m).setCell (Y lb (k*10+6)) (Z (pa+1)))):=λm=>jj O
 have HF:Hid (∀W,E3 w (w.setCell (Y lb (k*10+6)) (Z (pa+1))) (.cells #[Z kd,Z cl,Z li,Z k,Z T,Z u,Z pa,Z o,.bool pl,.string SB] 41) W->W.cell? (Y lb (k*10+5))=some (.string S)/\W.cell? (Y lb (k*10+6))=some (Z (pa+1))/\W.cell? (EN w 3)=some (Z k)/\Below w.heap.size (w.setCell (Y lb (k*10+6)) (Z (pa+1))) W.drew):=λW e=>by
  refine⟨?_,?_,EI e.2 3,e.1.drew⟩
  ·have ak:((Y lb (k*10+6)):Addr)≠(Y lb (k*10+5)):=Ev;exact((e.1.cell (p:=(Y lb (k*10+5))) O).trans (AP (h:=ak) ..)).trans a5
  ·rw[e.1.cell (p:=(Y lb (k*10+6))) O];exact BU (h:=a6) ..
 by_cases X:pa+1<n
 ·have HQ:=Dx (HS X);clear HS HN;go_enter func141,ntmps141;go_wp2_with fail
  go_quiet (fail);go_wp2_with fail
  go_quiet (fail);go_wp2_with fail
  refine EE _ (f _) ?_;intro W e;have⟨d5,d6,d3,hB⟩:=HF W e;have HB:=Dx hB;clear e hB f;go_region_held3 (λw'=>w'.cell? (Y lb (k*10+5))=some (.string S)/\w'.cell? (Y lb (k*10+6))=some (Z (pa+1))/\w'.cell? (EN w 3)=some (Z k)) (go_keep) (first|(go_at_call 187;refine cs (g _) ?_))
  go_wp2_with (first|(go_at_call 112;refine cm (HQ _ HB) λw3 aa=>?_;have HC:=Dx (HR w3 aa);clear aa)|(go_at_call 111;refine cm HC λw4 Q=>?_))
  go_returns;exact⟨rfl,Q⟩
 ·have HQ:=Dx (HN X);clear HS HN;go_enter func141,ntmps141;go_wp2_with fail
  go_quiet (fail);go_wp2_with fail
  go_quiet (fail);go_wp2_with fail
  refine EE _ (f _) ?_;intro W e;have⟨d5,d6,d3,hB⟩:=HF W e;have HB:=Dx hB;clear e hB f;go_region_held3 (λw'=>w'.cell? (Y lb (k*10+5))=some (.string S)/\w'.cell? (Y lb (k*10+6))=some (Z (pa+1))/\w'.cell? (EN w 3)=some (Z k)) (go_keep) (first|(go_at_call 187;refine cs (g _) ?_))
  go_wp2_with (first|(go_at_call 111;refine cm (HR _ (HQ _ HB)) λw4 Q=>?_))
  go_returns;exact⟨rfl,Q⟩
abbrev Pq(P:Pk):Obj:=.cells #[Z P.Dz,Z P.DJ,Z P.DR,Z P.DZ,Z P.D4,Z P.D5,Z P.Ez,Z P.off,.bool P.Fs,.string (str P.Ef)] 41
structure Rx(W:Aa)(b:Nat)(P:Pk):Prop where
 g0:W.cell? (Y b 0)=some (Z P.Dz)
 g1:W.cell? (Y b 1)=some (Z P.DJ)
 g2:W.cell? (Y b 2)=some (Z P.DR)
 g3:W.cell? (Y b 3)=some (Z P.DZ)
 g4:W.cell? (Y b 4)=some (Z P.D4)
 g5:W.cell? (Y b 5)=some (Z P.D5)
 g6:W.cell? (Y b 6)=some (Z P.Ez)
 g7:W.cell? (Y b 7)=some (Z P.off)
 g8:W.cell? (Y b 8)=some (.bool P.Fs)
 g9:W.cell? (Y b 9)=some (.string (str P.Ef))
theorem VF(h:W.heap[b]?=some (Pq P)):Rx W b P:=⟨EI h 0,EI h 1,EI h 2,EI h 3,EI h 4,EI h 5,EI h 6,EI h 7,EI h 8,EI h 9⟩
theorem tX(w:Aa)(s:Nat)(L:Ad)(u:L=.pointer none\/∃b,L=pt b)(P:Pk)(e:World->Prop)
  (O:Hid (∀f,DY w f->D7 233 #[pt s,Z P.D5] f (.bool false) λw'=>w'=f))
  (D:Hid (∀f,DY w f->D7 234 #[pt s,pv P,Z 0] f Ep λw'=>e w')):
  D7 199 #[pt s,L,pv P] w Ep λw'=>e w':=by
 have m:Hid (∀o,DY w (w.alloc o)):=λo=>F9
 have g:∃a,L=.pointer a:=by
  rcases u with rfl|⟨b,rfl⟩
  ·exact⟨_,rfl⟩
  ·exact⟨_,rfl⟩
 obtain⟨a,rfl⟩:=g;clear u;go_enter func199,ntmps199;go_wp2_with (first|(go_at_call 233;refine cs (O _ (m _)) ?_)|(go_at_call 234;refine cm (D _ (m _)) λQ h=>?_))
 go_returns;exact⟨rfl,h⟩
theorem tZ(w:Aa)(s:Nat)(L:Ad)(h:L=.pointer none\/∃b,L=pt b)(P:Pk)(e:World->Prop)(hk:P.Dz=3\/¬P.Ez=0)
  (HV:Hid (∀f,DY w f->D7 233 #[pt s,Z P.D5] f (.bool true) λw'=>w'=f))
  (HQ:Hid (∀f,DY w f->e f)):
  D7 199 #[pt s,L,pv P] w Ep λw'=>e w':=by
 have HB:Hid (∀o,DY w (w.alloc o)):=λo=>F9
 have g:∃a,L=.pointer a:=by
  rcases h with rfl|⟨b,rfl⟩
  ·exact⟨_,rfl⟩
  ·exact⟨_,rfl⟩
 obtain⟨a,rfl⟩:=g;clear h;by_cases h3:P.Dz=3
 ·have e1:(P.Dz==3)=true:=by simpa using h3
  exact abK
 ·have e1:(P.Dz==3)=false:=by simpa using h3
  have e2:(P.Ez != 0)=true:=Fy;exact abK
theorem tY(w:Aa)(s n:Nat)(D:Int)(P:Pk)(g:World->Prop)(s4:w.cell? (Y s 4)=some (Z D))(hn:(n:Int)=D)(hk:¬P.Dz=3)(T:P.Ez=0)
  (HV:Hid (∀f,DY w f->D7 233 #[pt s,Z P.D5] f (.bool true) λw'=>w'=f))
  (HM:Hid (∀f,DY w f->ET 71 #[pt s] f λe w'=>∃a cap,e=.returned (.slice a n cap)/\DY f w'))
  (HQ:Hid (∀f,DY w f->D7 234 #[pt s,pv P,Z 1] f Ep λw'=>g w')):
  D7 199 #[pt s,.pointer none,pv P] w Ep λw'=>g w':=by
 have O:Hid (∀o,DY w (w.alloc o)):=λo=>F9
 have e1:(P.Dz==3)=false:=by simpa using hk
 have e2:(P.Ez != 0)=false:=Fy;have e3:((n:Int)==D)=true:=by simpa using hn
 have hl:=Gv s4;have HF:Hid (∀h,Below (w.alloc (Pq P)).drew.heap.size (w.alloc (Pq P)).drew h->DY w h/\h.cell? (Y s 4)=some (Z D)/\Rx h w.heap.size P):=λh h1=>by
  have hb:=(O (Pq P)).drew.trans (h1.mono Ev);refine⟨hb,(hb.cell (p:=Y s 4) hl).trans s4,VF ?_⟩;rw[h1.block _ Ev];exact AF w _
 clear hn hk T;go_enter func199,ntmps199;go_wp2_with (first|(go_at_call 233;refine cs (HV _ (O _)) ?_)|fail)
 go_region_held3 (λw'=>w'.cell? (Y s 4)=some (Z D)) (go_keep) (first|(go_at_call 71;refine(HM _ (O _).drew).mono ?_;rintro e h ⟨a1,c1,rfl,u⟩;have hf:=HF h u;have⟨m,f4,⟨g0,g1,g2,g3,g4,g5,g6,g7,g8,g9⟩⟩:=hf;have Q:=Dx m;clear u m))
 all_goals
  go_wp2_with (first|(go_at_call 234;refine cm (HQ _ Q) λw3 X=>?_))
  go_returns;exact⟨rfl,X⟩
structure Made(w:Aa)(s:Nat)(cs_:Ae)(i:Nat)(P:Pk)(b:Nat)(W:Aa):Prop where
 ge:w.heap.size<=b
 keep:DF (λk=>k=s) w W
 cells:W.heap[s]?=some (.cells (cs_.set (10+i) (pt b)).toArray 167 (0,0))
 DZ:W.heap[b]?=some (.cells #[Z P.DJ,Z P.DR,Z P.DZ,Z P.D4,Z P.D5,Z 0,.string ⟨#[]⟩,.string ⟨#[]⟩,Z 0,Z 0,Z 0] 147 (0,0))
theorem tu(h:w.heap[s]?=some (.cells cs_.toArray 167 (0,0)))(e:DY w W)(hB:W.heap[w.heap.size]?=some o)(g:j=10+i):Made w s cs_ i P W.heap.size ((W.alloc (.cells #[Z P.DJ,Z P.DR,Z P.DZ,Z P.D4,Z P.D5,Z 0,.string ⟨#[]⟩,.string ⟨#[]⟩,Z 0,Z 0,Z 0] 147)).setCell (Y s j) (pt W.heap.size))/\((W.alloc (.cells #[Z P.DJ,Z P.DR,Z P.DZ,Z P.D4,Z P.D5,Z 0,.string ⟨#[]⟩,.string ⟨#[]⟩,Z 0,Z 0,Z 0] 147)).setCell (Y s j) (pt W.heap.size)).heap[w.heap.size]?=some o:=by
 subst g;have hl:=Dv h;have u:=e.size;have m:=(AB.1 hB).1;have D:W.heap[s]?=some (.cells cs_.toArray 167 (0,0)):=by rw[e.block s hl];exact h
 have f:(W.alloc (.cells #[Z P.DJ,Z P.DR,Z P.DZ,Z P.D4,Z P.D5,Z 0,.string ⟨#[]⟩,.string ⟨#[]⟩,Z 0,Z 0,Z 0] 147)).heap[s]?=some (.cells cs_.toArray 167 (0,0)):=by grind [Below.heap_alloc]
 refine⟨⟨u,((DF.D6 e _).alloc _).trans (Eg _),Ek (cs:=cs_) (off:=10+i) f _,?_⟩,?_⟩
 ·rw[AU _ _ _ _ Fy];exact AF W _
 grind [Below.heap_setCell,Below.heap_alloc]
abbrev Uh(P:Pk):Obj:=.cells #[Z P.DJ,Z P.DR,Z P.DZ,Z P.D4,Z P.D5,Z 0,.string ⟨#[]⟩,.string ⟨#[]⟩,Z 0,Z 0,Z 0] 147
def Yc(w:Aa)(s:Nat)(cs_:Ae)(i:Nat)(P:Pk)(b:Nat)(V:Aa):Prop:=Made w s cs_ i P b V/\V.heap[w.heap.size]?=some (Pq P)
theorem Zg(h:w.heap[s]?=some (.cells cs_.toArray 167 (0,0)))(f:E3 w w (Pq P) W)(g:j=10+i):Yc w s cs_ i P W.heap.size ((W.setCell (Y s j) (pt W.heap.size)).alloc (Uh P)).drew:=by
 have hl:=Dv h;have T:=f.1.size;have e:(W.alloc (Uh P)).setCell (Y s j) (pt W.heap.size)=(W.setCell (Y s j) (pt W.heap.size)).alloc (Uh P):=by grind [World.setCell_alloc_past]
 rw[<-e];have⟨⟨m,u,D,O⟩,Q⟩:=tu (P:=P) (i:=i) (j:=j) h f.1 f.2 g;exact⟨⟨m,u.drew,D,O⟩,Q⟩
theorem uf(w:Aa)(s b ci ni:Nat)(cs_:Ae)(P:Pk)(e:World->Prop)(h:w.heap[s]?=some (.cells cs_.toArray 167 (0,0)))(old:Af)(hold:cs_[10+(3*ci+ni)]?=some (.pointer old))(D:P.DJ=(ci:Int))(O:P.DZ=(ni:Int))(h3:ci<3)(aa:ni<3)(hk:¬P.Dz=3)(Q:P.Ez=0)
  (HV:Hid (∀X,DY w X->D7 233 #[pt s,Z P.D5] X (.bool true) λw'=>w'=X))
  (HG:Hid (∀f W,Made w s cs_ (3*ci+ni) P f W->D7 236 #[pt s,pt f,pv P] W Ep λw'=>e w')):
  D7 199 #[pt s,pt b,pv P] w Ep λw'=>e w':=by
 have HB:Hid (∀o,DY w (w.alloc o)):=λo=>F9
 have HC:=Dx (λw=>Nr P w);have e1:(P.Dz==3)=false:=by simpa using hk
 have e2:(P.Ez != 0)=false:=Fy;have hl:=Dv h;have HF:Hid (∀m w1,Below ((w.alloc (Pq P)).drewN m).heap.size ((w.alloc (Pq P)).drewN m) w1->E3 w w (Pq P) w1):=λm w1 h1=>by
  refine⟨(Ed (HB (Pq P)) m).trans (h1.mono Ev),?_⟩;rw[h1.block _ Ev];exact AF w _
 have HW:Hid (∀W,E3 w w (Pq P) W->Rx W w.heap.size P/\EB W s (10+ci*3+ni) (.pointer old)/\W.frozen? (Y s (10+ci*3+ni))=false/\s<W.heap.size/\w.heap.size<W.heap.size):=λW hW=>by
  exact afE
 have HMB:Hid (∀W,E3 w w (Pq P) W->Yc w s cs_ (3*ci+ni) P W.heap.size ((W.setCell (Y s (10+ci*3+ni)) (pt W.heap.size)).alloc (Uh P)).drew):=λW hW=>Zg h hW U
 have HN:Hid (∀f V,Yc w s cs_ (3*ci+ni) P f V->Rx V w.heap.size P/\D7 236 #[pt s,pt f,pv P] V Ep λw'=>e w'):=λf V hV=>⟨VF hV.2,HG f V hV.1⟩
 clear HG h;obtain⟨kd,cl,li,ln,ab,u,pa,o,pl,Ef⟩:=P;dsimp only[pv,cv,Pq,Uh]at *;subst D O;have q1:0<=(ci:Int):=U;have q2:(ci:Int)<3:=U;have q3:0<=(ni:Int):=U;have q4:(ni:Int)<3:=U;clear hk Q;go_enter func199,ntmps199;go_wp2_with (first|(go_at_call 233;refine cs (HV _ (HB _)) ?_)|fail)
 go_quiet (fail);go_wp2_with (first|(go_at_call 235;refine cm (HC _) λw1 g=>?_;have hW:=HF _ w1 g;have HW1:=Dx hW;have T:=HW w1 hW;obtain⟨⟨g0,g1,g2,g3,g4,g5,g6,g7,g8,g9⟩,f1,f2,f3,f4⟩:=T;clear g hW)|fail)
 exact afD
theorem ug(w:Aa)(s n ci ni:Nat)(T:Int)(cs_:Ae)(P:Pk)(f:World->Prop)(h:w.heap[s]?=some (.cells cs_.toArray 167 (0,0)))(old:Af)(hold:cs_[10+(3*ci+ni)]?=some (.pointer old))(ad:P.DJ=(ci:Int))(ae:P.DZ=(ni:Int))(h3:ci<3)(av:ni<3)(hk:¬P.Dz=3)(ah:P.Ez=0)(s4:w.cell? (Y s 4)=some (Z T))(hn:¬(n:Int)=T)
  (HM:Hid (∀D,DY w D->ET 71 #[pt s] D λe w'=>∃a cap,e=.returned (.slice a n cap)/\DY D w'))
  (HV:Hid (∀D,DY w D->D7 233 #[pt s,Z P.D5] D (.bool true) λw'=>w'=D))
  (HG:Hid (∀m W,Made w s cs_ (3*ci+ni) P m W->D7 236 #[pt s,pt m,pv P] W Ep λw'=>f w')):
  D7 199 #[pt s,.pointer none,pv P] w Ep λw'=>f w':=by
 have X:Hid (∀o,DY w (w.alloc o)):=λo=>F9
 have HC:=Dx (λw=>Nr P w);have e1:(P.Dz==3)=false:=by simpa using hk
 have e2:(P.Ez != 0)=false:=Fy;have e3:((n:Int)==T)=false:=by simpa using hn
 have hl:=Dv h;have HF:Hid (∀w1,Below (w.alloc (Pq P)).drew.heap.size (w.alloc (Pq P)).drew w1->E3 w w (Pq P) w1):=λw1 h1=>by
  refine⟨(X (Pq P)).drew.trans (h1.mono Ev),?_⟩;rw[h1.block _ Ev];exact AF w _
 have aa:Hid (∀W w1,E3 w w (Pq P) W->DY W w1->E3 w w (Pq P) w1):=λW w1 hW h1=>by
  refine⟨hW.1.trans (h1.mono hW.1.size),?_⟩;rw[h1.block _ (AB.1 hW.2).1];exact hW.2
 have HW:Hid (∀W,E3 w w (Pq P) W->Rx W w.heap.size P/\W.cell? (Y s (10+ci*3+ni))=some (.pointer old)/\W.frozen? (Y s (10+ci*3+ni))=false/\s<W.heap.size/\w.heap.size<W.heap.size):=λW hW=>by
  exact afE
 have HMB:Hid (∀W,E3 w w (Pq P) W->Yc w s cs_ (3*ci+ni) P W.heap.size ((W.setCell (Y s (10+ci*3+ni)) (pt W.heap.size)).alloc (Uh P)).drew):=λW hW=>Zg h hW U
 have HN:Hid (∀m V,Yc w s cs_ (3*ci+ni) P m V->Rx V w.heap.size P/\D7 236 #[pt s,pt m,pv P] V Ep λw'=>f w'):=λm V hV=>⟨VF hV.2,HG m V hV.1⟩
 clear HG h;obtain⟨kd,cl,li,ln,aw,u,pa,o,pl,Ef⟩:=P;dsimp only[pv,cv,Pq,Uh]at *;subst ad ae;have q1:0<=(ci:Int):=U;have q2:(ci:Int)<3:=U;have q3:0<=(ni:Int):=U;have q4:(ni:Int)<3:=U;clear hk ah hn;go_enter func199,ntmps199;go_wp2_with (first|(go_at_call 233;refine cs (HV _ (X _)) ?_)|fail)
 go_region_held3 (λw'=>w'.cell? (Y s 4)=some (Z T)) (go_keep) (first|(go_at_call 71;refine(HM _ (X _).drew).mono ?_;rintro e w0 ⟨a1,c1,rfl,O⟩;have g:=HF w0 O;have ab:=Dx g;have al:=HW w0 g;obtain⟨⟨u0,u1,u2,u3,u4,u5,u6,u7,u8,u9⟩,v1,v2,v3,v4⟩:=al;have ar:w0.cell? (Y s 4)=some (Z T):=(g.1.cell (p:=Y s 4) hl).trans s4;clear O g))
 all_goals
  go_wp2_with (first|(go_at_call 235;refine cm (HC _) λw1 Q=>?_;have hW:=aa _ w1 ab Q;have HW1:=Dx hW;have ak:=HW w1 hW;obtain⟨⟨g0,g1,g2,g3,g4,g5,g6,g7,g8,g9⟩,f1,f2,f3,f4⟩:=ak;clear Q hW)|fail)
  exact afD
end Go.Proofs.YtblomippkddgiaaGreatDoor
