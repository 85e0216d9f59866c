import Derived.Test.YtblomippkddgiaaGreatDoorJ36
set_option maxRecDepth 100000
set_option maxHeartbeats 4000000
namespace Go.Proofs.YtblomippkddgiaaGreatDoor
open Go.Proofs.Tryz
open Go.RowKit
open Go
variable {a:Act}{listed:Array Bool}{S:ByteArray}{F:D9}{rs:List Nat}{js:List R.Jb}{b fuel i id n sn x:Nat}{o oi:Oper}{P p:Pk}{M:R.Bk}{G:R.Wd}{v:Value}{w:World}
theorem LW.heard{p:Pl}(h:LW p F G w)(ht:JI w)(ad:¬F 0)(hI:R.Inv M G)(hr:EC P){to:Int}(B:to≠-1)(hp:R.Tj M G.Dy to P):
  ∃i:Nat,to=(i:Int)/\i<G.DI.length/\D7 86 #[ptr (p.cb i),pv P] w Ep λw'=>∃F',LW p F' (R.Kl G to P) w'/\D8 F F' w w':=by
 have⟨d,hd,hu,hk⟩:=hp;have⟨am,i,c,k,l,D,r2,m,r4,r5,r6,r7,r8,r9⟩:=hI.bk _ d hd;simp only[R.JD]at D m r5 r6 r7 r8 r9;have hat:R.At G i k c l:=⟨r2,r4⟩;have ah:to=(i:Int):=by
  rcases hk with ⟨_,q,_⟩|⟨_,q,_⟩|⟨_,q⟩|⟨_,q⟩|⟨_,q,_⟩|⟨_,q⟩|⟨_,q,_⟩
  ·exact absurd q B
  ·rw[q,D]
  ·exact absurd q B
  ·rw[q,D]
  ·rw[q,D]
  ·exact absurd q B
  ·rw[q,D]
 subst ah;refine⟨i,rfl,(GG r2),?_⟩;have⟨xs,x,hL,hR,hx,ac,X,aq,an⟩:=h.DZ hat.cl hat.ln;have j:=P4 h hat.cl;have Q:=GG hat.ln;have aa:=Dv hL;have e0:R.Kl G i P=if l.DK≠1\/P.DR≠c.DR\/P.D4≠l.D4 then G else if P.Dz=2 then (if P.Ez=l.Ea then R.JS (if l.Ea+1<R.DL l.DC then R.EG (R.Eh G i k {l with Ea:=l.Ea+1}) i k false else R.Eh G i k {l with Ea:=l.Ea+1}) i k else G) else if P.Dz=4 then R.JS G i k else if P.Dz=5 then R.IL G i P else if P.Dz=7 then R.Eh G i k {l with DK:=4+P.Ez} else G:=by
  unfold R.Kl;simp only;rw[m,hat.DZ,R.GH hat.cl]
 rw[e0];have ar:=ac.DK;have ab:=ac.D4;refine oY w (p.cb i) (p.lb i) c.DV.length k (decide (x.DK=1/\c.DR=P.DR/\x.D4=P.D4)) P _ Q m j.a3 (λO hb=>?_) (λf y O hb=>?_) (λf y O hb=>?_) (λf y O hb=>?_) (λf y O hb=>?_) (λae O hb=>?_)
 ·have T:=Gv j.a3;exact pF O (p.cb i) (p.lb i) c.DV.length k c.DR x.DK x.D4 P Q m ((hb.cell (p:=⟨p.cb i,1,none⟩) T).trans j.a1) ((hb.cell (p:=⟨p.cb i,3,none⟩) T).trans j.a3) ((hb.cell (p:=⟨p.lb i,k*10,none⟩) aa).trans X.a0) ((hb.cell (p:=⟨p.lb i,k*10+1,none⟩) aa).trans X.a1)
 ·have u:=Cs f;have h1:l.DK=1:=U;rw[Ao U,Ay y];have g:P.off=R.DL l.DC:=by
   have hkey:R.JD P=⟨i,c.DR,k,l.D4⟩:=by simp[R.JD,D,m,u.2.1,<-ab,u.2.2]
   exact afO
  refine cm ((h.DG hb).Ea hat h1 m hr g) ?_;exact pB
 ·have u:=Cs f;have h1:l.DK=1:=U;rw[Ao U,Ao U,Ay y];refine cm ((h.DG hb).rest hat h1) ?_;rintro w' ⟨q1,q2⟩;exact⟨rfl,F,q1,(D8.D6 F hb).trans q2⟩
 ·have u:=Cs f;have h1:l.DK=1:=U;rw[Ao U,Ao U,Ao U,Ay y];have hkey:R.JD P=⟨i,c.DR,k,l.D4⟩:=by simp[R.JD,D,m,u.2.1,<-ab,u.2.2]
  rw[hkey]at hd hk;rcases hk with ⟨q,_⟩|⟨q,_⟩|⟨q,_⟩|⟨q,_⟩|⟨_,_,e,rb,q1,q2,q3⟩|⟨q,_⟩|⟨q,_⟩
  ·omega
  ·omega
  ·omega
  ·omega
  ·refine cm ((h.DG hb).uY (ht.DG hb) ad hI hat h1 m hr hd q1 q2 q3) ?_;exact pB
  ·omega
  ·omega
 ·have u:=Cs f;have h1:l.DK=1:=U;rw[Ao U,Ao U,Ao U,Ao U,Ay y];have g:P.off=2:=by
   rcases hk with ⟨q,_⟩|⟨q,_,q2⟩|⟨q,_⟩|⟨q,_⟩|⟨q,_⟩|⟨q,_⟩|⟨_,_,q⟩
   ·omega
   ·omega
   ·omega
   ·omega
   ·omega
   ·omega
   ·exact q
  refine cm ((h.DG hb).rejected hat h1 m hr g) ?_;exact pB
 ·have hG:(if l.DK≠1\/P.DR≠c.DR\/P.D4≠l.D4 then G else if P.Dz=2 then (if P.Ez=l.Ea then R.JS (if l.Ea+1<R.DL l.DC then R.EG (R.Eh G i k {l with Ea:=l.Ea+1}) i k false else R.Eh G i k {l with Ea:=l.Ea+1}) i k else G) else if P.Dz=4 then R.JS G i k else if P.Dz=5 then R.IL G i P else if P.Dz=7 then R.Eh G i k {l with DK:=4+P.Ez} else G)=G:=by
   rcases ae with q|q
   ·have u:=of_decide_eq_false q;rw[Ay U]
   ·by_cases hs:l.DK≠1\/P.DR≠c.DR\/P.D4≠l.D4
    ·rw[Ay hs]
    ·rw[Ao hs,Ao U,Ao U,Ao U,Ao U]
  rw[hG];exact⟨F,h.DG hb,D8.D6 F hb⟩
theorem aga:∀args w,(callFunc 85 args).run prog w=.ok (.enter 85 args) w:=λ_ _=>rfl
theorem agb:∀args w,(callFunc 86 args).run prog w=.ok (.enter 86 args) w:=λ_ _=>rfl
theorem Y1{s:Nat}(f:World->Prop)(x1:EB w x 1 (ptr s))
  (u:Hid (∀j,DY w j->D7 85 #[ptr s,pv P] j Ep λh=>f h)):
  D7 51 #[ptr x,Z (-1),pv P] w Ep λh=>f h:=by
 have m:Hid (∀o,DY w (w.alloc o).drew):=λo=>F9.drew
 have hl:=Gv x1;go_enter func51,ntmps51;go_wp2_with fail
 go_region_law (refine FG rfl 85 #[.tmp 11,.tmp 12] #[81,41] rfl aga #[ptr s,pv P] rfl _ (u _ (m _)) ?_;rintro e y ⟨rfl,g⟩;refine⟨_,rfl,?_⟩)
 all_goals
  go_wp2;go_returns;exact⟨rfl,g⟩
theorem Y0{g cap cb:Nat}(f:World->Prop)(x2:EB w x 2 (EJ g n cap))(hi:i<n)(hc:EB w g i (ptr cb))
  (y:Hid (∀m,DY w m->D7 86 #[ptr cb,pv P] m Ep λj=>f j)):
  D7 51 #[ptr x,Z i,pv P] w Ep λj=>f j:=by
 have u:Hid (∀o,DY w (w.alloc o).drew):=λo=>F9.drew
 have⟨hl,B⟩:=KM x2 hc;have D:0<=(i:Int):=U;have O:(i:Int)<n:=U;have e1:((i:Int)==-1)=false:=Ev;go_enter func51,ntmps51;go_wp2_with fail
 go_region_law (refine FG rfl 86 #[.tmp 20,.tmp 21] #[89,41] rfl agb #[ptr cb,pv P] rfl _ (y _ (u _)) ?_;rintro e Q ⟨rfl,h⟩;refine⟨_,rfl,?_⟩)
 all_goals
  go_wp2;go_returns;exact⟨rfl,h⟩
theorem dz{i:Int}(g:EB w x 0 (ptr n))
  (e:Hid (D7 50 #[ptr n,Z i] w (.tuple #[Z 0,.string ⟨#[]⟩,Z 9]) λf=>f=w)):
  D7 24 #[ptr x,Z i] w (Z 9) λf=>f=w:=by
 go_enter func24,ntmps24;go_wp2_with (first|(go_at_call 50;refine cs e ?_))
 go_returns;exact⟨rfl,rfl⟩
theorem YB{i to:Int}(A e:World->Prop)(T:EB w x 0 (ptr n))
  (u:Hid (D7 50 #[ptr n,Z i] w (.tuple #[Z to,.string S,Z 0]) λm=>A m))
  (D:Hid (∀f,A f->D7 14 #[.string S] f (.tuple #[NY,Z 7]) λm=>DY f m))
  (O:Hid (∀f B,A f->DY f B->e B)):
  D7 24 #[ptr x,Z i] w (Z 0) λm=>e m:=by
 go_enter func24,ntmps24;go_wp2_with (first|(go_at_call 50;refine cm u λf h=>?_;have y:=Dx h;clear h)|(go_at_call 14;refine cm (D _ y) λQ j=>?_;have g:=Dx j;clear j))
 go_returns;exact⟨rfl,O _ _ y (g.alloc g.size _)⟩
theorem W7{i to:Int}(A e:World->Prop)(x0:EB w x 0 (ptr n))
  (u:Hid (D7 50 #[ptr n,Z i] w (.tuple #[Z to,.string S,Z 0]) λf=>A f))
  (O:Hid (∀g,A g->D7 14 #[.string S] g (.tuple #[pv P,Z 0]) λf=>DY g f))
  (Q:Hid (∀g D,A g->DY g D->D7 51 #[ptr x,Z to,pv P] D Ep λf=>e f)):
  D7 24 #[ptr x,Z i] w (Z 0) λf=>e f:=by
 go_enter func24,ntmps24;go_wp2_with (first|(go_at_call 50;refine cm u λg j=>?_;have B:=Dx j;clear j)|(go_at_call 14;refine cm (O _ B) λT m=>?_;have h:=Dx m;clear m)|(go_at_call 51;refine cm (Q _ _ B (h.alloc h.size _)) λX y=>?_))
 go_returns;exact⟨rfl,y⟩
theorem LW.Ki{p:Pl}(h:LW p F G w)(ht:JI w)(aa:¬F 0)(hI:R.Inv M G)(X:R.EP G)(i:Int):
  D7 24 #[ptr p.x,Z i] w (Z (R.Fv G i).1) λw'=>NM p F w (R.Fv G i).2 w':=by
 have x0:=EI h.bx 0;by_cases ho:R.off G i
 ·have e0:R.Fv G i=(9,G):=by
   unfold R.Fv;rw[Ay ho]
  rw[e0];refine(dz x0 (h.SS ho)).mono ?_;rintro e w' ⟨rfl,rfl⟩
  grind [NM.of,D8.refl]
 ·unfold R.off at ho;obtain⟨n,rfl⟩:∃n:Nat,i=(n:Int):=⟨i.toNat,U⟩;have hn:n<G.Ej.length:=U;obtain⟨f,hf⟩:∃f,G.Ej[n]?=some f:=⟨_,Ah hn⟩;have B:=hI.fl f (Ap hf);have ab:=hI.erase n;have O:=X.same rfl rfl;have e0:R.Fv G (n:Int)=(0,if f.Ij=true then {G with Ej:=G.Ej.eraseIdx n} else match Ih f.s with
   |none=>{G with Ej:=G.Ej.eraseIdx n}
   |some p=>if f.to=-1 then R.KB {G with Ej:=G.Ej.eraseIdx n} p else R.Kl {G with Ej:=G.Ej.eraseIdx n} f.to p):=by
   unfold R.Fv;rw[Ao (by unfold R.off;exact ho)];simp only[AY];rw[hf];rfl
  have ae:f.s.length<=1000:=by
   have:=h.wf.JX f (Ap hf);omega
  have m:=h.land hf;rw[e0];unfold R.Sc at B;cases hb:f.Ij with
  |true=>
   rw[hb,Ay rfl]at B;simp only[CQ];refine YB (λQ=>∃u,LW p u {G with Ej:=G.Ej.eraseIdx n} Q/\D8 F u w Q) _ x0 m (λQ _=>mP B ae) ?_;rintro Q wa ⟨u,q1,q2⟩ y;exact NM.of (q1.DG y) (q2.trans (D8.D6 u y))
  |false=>
   rw[hb,Ao Ev]at B;have⟨P,hr,hs,T⟩:=B;simp only[Ao (show ¬(false:Bool)=true by simp)];rw[hs,L8 hr];rw[hs]at m;refine W7 (λQ=>∃u,LW p u {G with Ej:=G.Ej.eraseIdx n} Q/\D8 F u w Q) _ x0 m (λQ _=>fj hr) ?_;rintro Q wa ⟨u,q1,q2⟩ y;have hL:=q1.DG y;have hW:=q2.trans (D8.D6 u y);have an:=ht.E0 hW.E0 aa;have am:¬u 0:=λq=>by
    rcases hW.fresh 0 q with q|q
    ·exact aa q
    ·have⟨_,_,hg⟩:=ht
     grind
   simp only;by_cases D:f.to=-1
   ·rw[Ay D,D];rw[D]at T;refine Y1 _ (EI hL.bx 1) (λwb g=>?_);refine((hL.DG g).acO ab O hr T).mono ?_;rintro e w' ⟨rfl,t,F2,m1,m2⟩;exact⟨rfl,t,F2,m1,(hW.trans (D8.D6 u g)).trans m2⟩
   ·rw[Ao D];have hH:∀wb,DY wa wb->_:=λwb g=>(hL.DG g).heard (an.DG g) am ab hr D T
    have⟨j,hj,ad,_⟩:=hH wa (AA _ _);rw[hj];have ao:=hL.lG ad;refine Y0 _ (EI hL.bx 2) ad ao (λwb g=>?_);have⟨j',aN,_,hc⟩:=hH wb g;have:j'=j:=U;subst this;refine hc.mono ?_;rintro e w' ⟨rfl,F2,m1,m2⟩;rw[hj]at m1;exact⟨rfl,NM.of m1 ((hW.trans (D8.D6 u g)).trans m2)⟩
theorem Vs{lb:Nat}{r:R.Sn}{h:Nat}{DR:Int}(hi:i<9)(j:r.at'=(h:Int))(T:8*h<=r.DU.length)(O:r.DU.length<=72)(MU:w.cell? (Y x 11)=some (EJ sn 9 9))(Tf:w.cell? (Y x 10)=some (EJ lb 3 3))(Q:iZ w sn i r)(u:w.cell? (Y lb (i / 3))=some (Z DR))(g:World->Prop)
  (D:Hid (∀W,DY w W->D7 167 #[Ey x,Z ((i / 3:Nat):Int),.agg #[Z 5,Z ((i / 3:Nat):Int),Z DR,Z ((i % 3:Nat):Int),Z r.D4,Z r.D5,Z h,Z (R.DL r.DU),.bool false,.string (str (R.EY r.DU (h:Int)))]] W Ep λf=>g f)):
  D7 168 #[Ey x,Z i] w Ep λf=>g f:=by
 have X:0<=(i:Int):=U;have q1:(i:Int)<9:=U;obtain⟨d,hd⟩:∃d,i / 3=d:=⟨_,rfl⟩;obtain⟨m,y⟩:∃m,i % 3=m:=⟨_,rfl⟩;rw[hd]at u D;rw[y]at D;have Ll:(d:Int)<3:=U;have aa:0<=(d:Int):=U;have ed:(i:Int).tdiv 3=(d:Int):=by rw[CM X];omega
 have em:(i:Int).tmod 3=(m:Int):=by rw[Ca X];omega
 have ew:IntKind.i64.wrap (d:Int)=d:=Iz;have⟨hx,ac,ab⟩:=Va MU Q.s0 u;have HP:=Dx (Ma r.DU h T U);have⟨s0,s1,s2,s3,s4,s5,s6,s7,s8,s9⟩:=Q;rw[j]at s6;clear j T O hd y;go_enter func168,ntmps168;go_wp2_with fail
 go_region_held3 (λf=>f.cell? (Y x 10)=some (EJ lb 3 3)/\f.cell? (Y lb d)=some (Z DR)/\f.cell? (EN w 0)=some (Z r.D4)/\f.cell? (EN w 1)=some (Z r.D5)/\f.cell? (EN w 6)=some (Z h)) (go_keep) (fail)
 go_wp2_with fail
 refine cm (HP _) λw2 B=>?_
 rw[B];clear B w2;go_wp2_with fail
 refine(D _ ?_).mono ?_
 ·exact(F9.alloc Ev _).drew
 rintro e w3 ⟨rfl,hp⟩;exact aO
theorem RM.JU{v:RV}(h:RM x v F G w)(j:G.Ej.length<=40)(D:G.DX.length=3){r:R.Sn}(T:G.DN[i]?=some r)(hi:i<9)(y:0<=r.at'/\r.at'<R.DL r.DU)(O:r.DU.length<=72)(g:EC ⟨5,((i / 3:Nat):Int),(G.DX[i / 3]?).getD 0,((i % 3:Nat):Int),r.D4,r.D5,r.at',R.DL r.DU,false,R.EY r.DU r.at'⟩):
  D7 168 #[Ey x,Z i] w Ep λw'=>∃v' F',RM x v' F' (R.Ex G i) w'/\D8 F F' w w':=by
 obtain⟨u,f⟩:∃u:Nat,r.at'=(u:Int):=⟨r.at'.toNat,U⟩;have Q:=y.2;unfold R.DL at Q;have B:i / 3<G.DX.length:=U;have m:w.cell? (Y v.L (i / 3))=some (Z ((G.DX[i / 3]?).getD 0)):=by
  refine E7 h.DX ?_;unfold GK
  grind
 have e:R.Ex G i=R.E9 G ((i / 3:Nat):Int) ⟨5,((i / 3:Nat):Int),(G.DX[i / 3]?).getD 0,((i % 3:Nat):Int),r.D4,r.D5,r.at',R.DL r.DU,false,R.EY r.DU r.at'⟩:=by grind [R.Ex,R.EZ]
 rw[e];rw[f]at g ⊢;refine Vs hi f U O (EI h.bx 11) (EI h.bx 10) (Kg h.DN T) m _ (Dx λW hb=>?_);refine((h.DG hb).send j _ _ g).mono ?_;exact acr
theorem vQ{sn:List R.Sn}{r:R.Sn}(t:Bool)(a c:Int)(h:w.heap[b]?=some (.cells (tab Rk sn).toArray 264 (0,0)))(e:sn[i]?=some r):(((w.setCell (Y b (i*10+7)) (.bool t)).setCell (Y b (i*10+8)) (Z a)).setCell (Y b (i*10+9)) (Z c)).heap[b]?=some (.cells (tab Rk (sn.set i {r with E1:=t,El:=a,DW:=c})).toArray 264 (0,0)):=by
 have hi:=GG e;have s1:=Fz (r1:={r with E1:=t}) h e (j:=7) (u:=.bool t) U rfl;have s2:=Fz (r:={r with E1:=t}) (r1:={r with E1:=t,El:=a}) s1 (AO hi) (j:=8) (u:=Z a) U rfl;rw[A5]at s2;have s3:=Fz (r:={r with E1:=t,El:=a}) (r1:={r with E1:=t,El:=a,DW:=c}) s2 (AO hi) (j:=9) (u:=Z c) U rfl;rw[A5]at s3;exact s3
theorem gG(w:Aa)(x i:Nat)(r:R.Sn)(rt T:Int)(t:Bool)(hi:i<9)(ha:0<=r.at'/\r.at'<=9)(Q:t=decide (8*r.at'+8<(r.DU.length:Int)))(B:World->Prop)(g:World->Prop)
  (m:Hid (D7 168 #[Ey x,Z i] w Ep λj=>B j))
  (u:Hid (∀f,B f->∃sn,f.cell? (Y x 11)=some (EJ sn 9 9)/\f.cell? (Y x 2)=some (Z rt)/\f.cell? (Y x 3)=some (Z T)/\sn≠x/\iZ f sn i r/\(∀o,f.frozen? (Y sn o)=false)/\g (((f.setCell (Y sn (i*10+7)) (.bool t)).setCell (Y sn (i*10+8)) (Z rt)).setCell (Y sn (i*10+9)) (Z T)).drew)):
  D7 222 #[Ey x,Z i] w Ep λj=>g j:=by
 have q0:0<=(i:Int):=U;have q1:(i:Int)<9:=U;have e1:IntKind.i64.wrap (8*r.at')=8*r.at':=Iz;have e2:IntKind.i64.wrap (8*r.at'+8)=8*r.at'+8:=Iz;have y:=Dx Q;clear Q ha;go_enter func222,ntmps222;go_wp2_with fail
 refine cm m λf O=>?_
 have⟨sn,MU,x2,x3,h,⟨s0,s1,s2,s3,s4,s5,s6,s7,s8,s9⟩,hz,D⟩:=u f O;have⟨hx,aa⟩:=KM MU s0;have z7:=hz (i*10+7);have z8:=hz (i*10+8);have z9:=hz (i*10+9);have n1:=h;have n2:¬x=sn:=λe=>h e.symm
 have hd:=y.symm;have HP:=Dx D;have X:Hid ((f.setCell (Y sn (i*10+7)) (.bool t)).drew.cell? (Y sn (i*10+6))=some (Z r.at')/\(f.setCell (Y sn (i*10+7)) (.bool t)).drew.cell? (Y sn (i*10+5))=some (.string (str r.DU))):=⟨(Yt (w:=f) (v:=.bool t) U).trans s6,(Yt (w:=f) (v:=.bool t) U).trans s5⟩;clear D O hz h m u y;go_wp2_with fail
 go_region_held3 (λj=>j.cell? (Y sn (i*10+6))=some (Z r.at')/\j.cell? (Y sn (i*10+5))=some (.string (str r.DU))) (first|exact Dw X|go_keep) (fail)
 go_wp2;go_returns;exact⟨rfl,HP⟩
theorem wj{r:R.Sn}(e:G.DN[i]?=some r):R.JF G i={R.Ex G i with DN:=(R.Ex G i).DN.set i {r with E1:=decide (8*r.at'+8<(r.DU.length:Int)),El:=G.c.Ew,DW:=G.c.DW}}:=by grind [R.EZ,R.Ex,R.KX,R.JF,R.EA]
theorem RM.tell{v:RV}(h:RM x v F G w)(B:G.Ej.length<=40)(D:G.DX.length=3){r:R.Sn}(O:G.DN[i]?=some r)(hi:i<9)(y:0<=r.at'/\r.at'<R.DL r.DU)(hm:r.DU.length<=72)(Q:EC ⟨5,((i / 3:Nat):Int),(G.DX[i / 3]?).getD 0,((i % 3:Nat):Int),r.D4,r.D5,r.at',R.DL r.DU,false,R.EY r.DU r.at'⟩):
  D7 222 #[Ey x,Z i] w Ep λX=>∃m g,RM x m g (R.JF G i) X/\D8 F g w X:=by
 have hp:=y.2;unfold R.DL at hp;rw[wj O];refine gG w x i r G.c.Ew G.c.DW _ hi ⟨y.1,U⟩ rfl (λT=>∃m g,RM x m g (R.Ex G i) T/\D8 F g w T) _ (Dx (h.JU B D O hi y hm Q)) (Dx λT hq=>?_);have⟨m,g,j,g1⟩:=hq;have ec:(R.Ex G i).c=G.c:=by unfold R.Ex;exact R.Mb _ _ _
 have es:(R.Ex G i).DN=G.DN:=by unfold R.Ex;exact R.KX _ _ _
 have u:(R.Ex G i).DN[i]?=some r:=by rw[es];exact O
 have f:=j.bx;rw[ec]at f;refine⟨m.Sn,EI f 11,EI f 2,EI f 3,λe=>?_,Kg j.DN u,λo=>Eb j.DN,m,g,?_⟩
 ·exact ES j.DN (e ▸ j.bx) Em rfl
 ·have⟨r1,r2⟩:=j.JE (((EV _).trans (EV _)).trans (EV _)) (vQ (decide (8*r.at'+8<(r.DU.length:Int))) G.c.Ew G.c.DW j.DN u);exact⟨r1.DG (AA _ _).drew,(g1.trans r2).trans (D8.D6 g (AA _ _).drew)⟩
theorem Z5{g k o:Int}(e:World->Prop)(h:Hid (∀W,DY w W->D7 167 #[Ey x,Z p.DJ,.agg #[Z g,Z p.DJ,Z p.DR,Z p.DZ,Z p.D4,Z p.D5,Z k,Z o,.bool false,.string ⟨#[]⟩]] W Ep λf=>e f)):
  D7 256 #[Ey x,pv p,Z g,Z k,Z o] w Ep λf=>e f:=by
 go_enter func256,ntmps256;go_wp2_with fail
 refine cm (h _ F9) λj hp=>?_
 exact aO
theorem RM.KN{v:RV}(h:RM x v F G w)(f:G.Ej.length<=40)(p:Pk)(g k o:Int)(j:EC ⟨g,p.DJ,p.DR,p.DZ,p.D4,p.D5,k,o,false,[]⟩):
  D7 256 #[Ey x,pv p,Z g,Z k,Z o] w Ep λw'=>∃v' F',RM x v' F' (R.G8 G p g k o) w'/\D8 F F' w w':=by
 refine Z5 _ (Dx λW hb=>?_);refine((h.DG hb).send f p.DJ _ j).mono ?_;exact acr
theorem ZJ(w:Aa)(x n:Nat)(a:Af)(cap:Nat)(u:Int)(b:Bool)(hn:n<=255)(x7:EB w x 7 (.slice a n cap))(h:(¬1<=u/\b=false)\/(1<=u/\¬u<=(n:Int)/\b=false)\/(∃(k g:Nat),u=(k:Int)+1/\k<n/\a=some (Y g 0)/\EB w g (k*3+1) (.bool b))):
  D7 253 #[Ey x,Z u] w (.bool b) λm=>m=w:=by
 have B:=Gv x7;rcases h with ⟨e,rfl⟩|⟨e,j,rfl⟩|⟨k,g,rfl,hk,rfl,hc⟩
 ·have f:decide (1<=u)=false:=Fy;clear e;exact wX
 ·have f:decide (1<=u)=true:=Fy;have k2:decide (u<=(n:Int))=false:=Fy;clear e j;exact wX
 ·have f:(1:Int)<=k+1:=U;have k2:(k:Int)+1<=(n:Int):=U;have e1:IntKind.i64.wrap ((k:Int)+1-1)=(k:Int):=Iz;have e2:IntKind.i64.wrap (k:Int)=k:=Iz;have D:0<=(k:Int):=U;have O:(k:Int)<n:=U;have y:=Gv hc;exact wX
theorem RM.Fj{v:RV}(h:RM x v F G w)(O:G.Dy.length<=255)(u:Int):
  D7 253 #[Ey x,Z u] w (.bool (R.Js G u)) λQ=>Q=w:=by
 have y:v.zs.length=G.Dy.length:=by rw[<-h.zs,AX]
 have⟨a,cap,m⟩:=E8 h.Iw;refine ZJ w x v.zs.length a cap u _ U (ED h.bx 7 _ (by rw[<-m];rfl)) ?_;unfold R.Js;by_cases B:1<=u
 ·by_cases D:u<=(v.zs.length:Int)
  ·obtain⟨k,rfl⟩:∃k:Nat,u=(k:Int)+1:=⟨(u-1).toNat,U⟩;have hk:k<v.zs.length:=U;obtain⟨z,hz⟩:∃z,v.zs[k]?=some z:=⟨_,Ah hk⟩;have⟨g,j,f,_,e,_⟩:=Jx MD U h.Iw hz;rw[m]at f;cases f;have T:G.Dy[k]?=some z.1:=by rw[<-h.zs,BP,hz];rfl
   refine Am (Am ⟨k,g,rfl,hk,rfl,?_⟩);have:=e 1 _ U rfl
   grind
  ·refine Am (Aj ⟨B,D,?_⟩);rw[BM U];simp
 grind
theorem IB(j:R.Jb):(IA j).length=4:=rfl
theorem eH(j:R.Jb):∀u∈IA j,u.oneCell'=true:=by simp[IA,Value.oneCell']
abbrev FJ(F:D9)(w:Aa):D9:=λk=>F k/\∃ys,w.heap[k]?=some (.cells ys 266 (0,0))
theorem ze{α:Type}(a b c:List α)(i:Nat)(h:a.length<=i)(e:i<a.length+b.length):(a++b++c)[i]?=b[i-a.length]?:=by grind
theorem aeQ{e:Array Value}{off:Nat}(h:∀(k:Nat) (j:R.Jb),js[k]?=some j->∀(o:Nat) (u:Ad),(IA j)[o]?=some u->e[(off+k)*4+o]?=some u)(i:Nat)(u:Ad)(hu:(tab IA js)[i]?=some u):e[off*4+i]?=some u:=by
 have hi:=GG hu;rw[F8 IB]at hi;obtain⟨j,f⟩:∃j,js[i / 4]?=some j:=⟨_,Ah U⟩;have:=Jh IB js (i / 4) (i % 4) j f U
 grind
theorem ac6:(prog.info? 266).map (λi=>(i.zero,i.size,i.bytes))=some (some (.agg #[Z 0,Z 0,Z 0,Z 0]),4,32):=EL
theorem Ua(js:List R.Jb):(tab IA js).length=js.length*4:=by grind [F8,IB]
theorem Y8{V:Ad}(h:Yb w F V js)(hl:js.length<=100){j:R.Jb}{c:Nat}(hb:∀(o:Nat) (u:Ad),(IA j)[o]?=some u->EB w b o u){ty:Ag}:
  ∃a n X w',(Builtin.append_ #[227,227] ty #[V,EJ b 1 c]).run prog w=.ok (.slice a n X) w'/\DF (FJ F w) w w'/\Yb w' (λk=>F k\/(w.heap.size<=k/\k<w'.heap.size)) (.slice a n X) (js++[j]):=by
 have⟨i0,ab,ah,m,ak⟩:=A1 ac6;have Q:∀y u,(IA j)[y]?=some u->w.cell? (((Y b 0):Addr).add y)=some u:=λy u hu=>by
  grind [Addr.add_lit]
 have aa:∀(cs:Ae) (k:Nat) (y:R.Jb),(js++[j])[k]?=some y->k<js.length\/(k=js.length/\y=j):=λcs k y hk=>by
  grind
 have D:∀(W:Aa) (W':Aa) (X:Nat) (T:Ae),W'=w.drew.alloc (.cells (T.toArray++(IA j).toArray++Builtin.zeroCells (Value.agg #[Z 0,Z 0,Z 0,Z 0]).cells (X-(js.length+1))) 266)->T=tab IA js->js.length+1<=X->X<=maxLen->DF (FJ F w) w W'/\Yb W' (λk=>F k\/(w.heap.size<=k/\k<W'.heap.size)) (EJ w.heap.size (js.length+1) X) (js++[j]):=λW W' X T hW ho h1 h2=>by
  subst hW;refine⟨(DF.refl _ _).drew.alloc _,Am ⟨w.heap.size,0,X,_,Ev,Am ⟨Ar _,Ev⟩,AF w.drew _,by simpa using h1,?_,h2,λk y hk o u hu=>?_⟩⟩
  ·subst ho;have e1:=Ua js;simp only[Array.size_append,List.size_toArray,e1,IB,size_zeroCells];have e2:(Value.agg #[Z 0,Z 0,Z 0,Z 0]).cells.size=4:=rfl;rw[e2];omega
  ·subst ho;have e1:=Ua js;have ad:o<4:=by have:=(GG hu);rwa [IB]at this
   rw[<-Array.getElem?_toList];simp only[Array.toList_append];rcases aa [] k y hk with q|⟨rfl,rfl⟩
   ·rw[Bs,A6 (by rw[e1];omega)];rw[A6 q]at hk;rw[Cr,Jh IB js k o y hk ad];exact hu
   grind
 rcases h with ⟨rfl,rfl⟩|⟨g,off,cap,B,rfl,hF,hg,az,aN,ao,f⟩
 ·have hr:=run_append_nil (P:=prog) w 227 ty 266 i0 _ underlying227 ab ah (Y b 0) 1 c (IA j) (by rw[m];rfl) Q U U (by rw[ak];omega);have⟨r1,r2⟩:=D w _ (grownCap w 1 0 266) [] rfl rfl (grownCap_ge w 1 0 266) (grownCap_le_maxLen w 1 0 266 JG)
  grind
 ·by_cases O:js.length+1<=cap
  ·have hf:=run_firstCells_some (P:=prog) w i0.size 1 (Y b 0) 1 c (IA j) (by rw[m];rfl) Q;have ae:=run_storeCells_at prog g (off*4+js.length*4) 266 (IA j) 0 B w hg (by rw[IB];omega) (eH j);simp only[Cz]at ae;refine⟨some (Y g (off*4)),js.length+1,cap,w.setRow g (B.toList.take (off*4+js.length*4)++IA j++B.toList.drop (off*4+js.length*4+(IA j).length)).toArray,?_,(NE _ _ _).mono (λk _ e=>by subst e;exact⟨hF,_,hg⟩),Am ⟨g,off,cap,_,Ev,Aj hF,Nf hg,by simpa using O,?_,ao,λk y hk o u hu=>?_⟩⟩
   ·rw[m]at hf;simp[Builtin.append_,run_underlying underlying227,sizeOf,typeInfo,ab,m,Builtin.lenOf,O,hf,Addr.add_lit,ae]
   ·simp[IB];omega
   ·have ad:o<4:=by have:=(GG hu);rwa [IB]at this
    have el:(B.toList.take (off*4+js.length*4)).length=off*4+js.length*4:=by have:=BO (xs:=B);rw[Bv];omega
    rw[CO];rcases aa [] k y hk with q|⟨rfl,rfl⟩
    ·rw[A6 q]at hk;rw[Bs,A6 (by rw[el];omega),List.getElem?_take_of_lt U,Array.getElem?_toList];exact f k y hk o u hu
    ·rw[ze _ _ _ _ (by rw[el];omega) (by rw[el,IB];omega),el,show (off+js.length)*4+o-(off*4+js.length*4)=o by omega];exact hu
  ·have hr:=run_append_grow (P:=prog) w 227 ty 266 i0 _ underlying227 ab ah (Y g (off*4)) js.length cap (tab IA js) (by rw[m];exact Ua js) (λi u hu=>by
    rw[Bc];have:=aeQ f i u hu;simp[World.cell?,hg,this]) (Y b 0) 1 c (IA j) (by rw[m];rfl) Q U U (growslice_fits U (by rw[ak];omega))
   have⟨r1,r2⟩:=D w _ (grownCap w (js.length+1) cap 266) _ rfl rfl (grownCap_ge w _ cap 266) (grownCap_le_maxLen w _ cap 266 JG);exact⟨_,_,_,_,hr,r1,r2⟩
theorem ZT{r:R.Sn}(e:World->Prop)(hi:i<9)(MU:w.cell? (Y x 11)=some (EJ sn 9 9))(m:iZ w sn i r)(g:p.Ez≠r.DT)
  (j:Hid (p.Fs=true->∀W,DY w W->D7 256 #[Ey x,pv p,Z 2,Z p.Ez,Z p.off] W Ep λf=>e f)) (h:Hid (p.Fs=false->∀W,DY w W->e W)):
  D7 263 #[Ey x,Z i,pv p] w Ep λf=>e f:=by
 have X:0<=(i:Int):=U;have q1:(i:Int)<9:=U;have⟨s0,s1,s2,s3,s4,s5,s6,s7,s8,s9⟩:=m;have⟨D,u⟩:=KM MU s0;have⟨Q,B,T,ln,sq,ud,pt,off,y,bd⟩:=p;have O:=g;clear g;go_enter func263,ntmps263;go_wp2_with fail
 go_region_held3 (λf=>f.cell? (Y sn (i*10+3))=some (Z r.DT)/\f.cell? (EN w 6)=some (Z pt)) (go_keep) (fail)
 cases y with
 |true=>
  go_wp2_with fail
  refine cm (j (by trivial) _ (F9.drew)) λw3 hp=>?_
  exact aO
 |false=>
  go_wp2_with fail
  go_returns;exact⟨rfl,h (by trivial) _ (F9.drew)⟩
theorem XI{r:R.Sn}(e:World->Prop){j:Int}{y:Af}{h jc:Nat}(hi:i<9)(MU:w.cell? (Y x 11)=some (EJ sn 9 9))(D:iZ w sn i r)(m:p.Ez=r.DT)(u:p.Ez=p.off-1)(g:0<=p.off/\p.off<=255)(x4:w.cell? (Y x 4)=some (Z j))(pV:w.cell? (Y x 12)=some (.slice y h jc))(T:j<=(h:Int))
  (B:Hid (∀W,DY w W->e W)):
  D7 263 #[Ey x,Z i,pv p] w Ep λf=>e f:=by
 have q0:0<=(i:Int):=U;have q1:(i:Int)<9:=U;have⟨s0,s1,s2,s3,s4,s5,s6,s7,s8,s9⟩:=D;have⟨X,O⟩:=KM MU s0;have⟨kd,Q,lf,ln,sq,ud,pt,off,pl,bd⟩:=p;rw[<-m]at s3;have e1:IntKind.i64.wrap (off-1)=pt:=by rw[BS];simp only at u g;omega
 clear m u g;go_enter func263,ntmps263;go_wp2_with fail
 go_region_held3 (λf=>f.cell? (Y sn (i*10+3))=some (Z pt)/\f.cell? (EN w 6)=some (Z pt)) (go_keep) (fail)
 go_wp2_with fail
 go_region_held3 (λf=>f.cell? (Y x 12)=some (.slice y h jc)/\f.cell? (Y x 4)=some (Z j)) (go_keep) (fail)
 go_wp2_with fail
 go_returns;exact⟨rfl,B _ (F9.drew.drew)⟩
theorem ZS{r:R.Sn}(e:World->Prop)(hi:i<9)(MU:w.cell? (Y x 11)=some (EJ sn 9 9))(Q:iZ w sn i r)(hz:∀o,w.frozen? (Y sn o)=false)(y:p.Ez=r.DT)(hp:0<=p.Ez/\p.Ez<=255)(m:p.Ez≠p.off-1)(h:0<=p.off/\p.off<=255)(B:r.DC.length<=1000)(j:p.Ef.length<=1000)
  (O:Hid (p.Fs=true->∀g,Below w.heap.size ((w.setCell (Y sn (i*10+2)) (.string (str (r.DC++p.Ef)))).setCell (Y sn (i*10+3)) (Z (p.Ez+1))) g->D7 256 #[Ey x,pv p,Z 2,Z p.Ez,Z p.off] g Ep λf=>e f))
  (D:Hid (p.Fs=false->∀g,Below w.heap.size ((w.setCell (Y sn (i*10+2)) (.string (str (r.DC++p.Ef)))).setCell (Y sn (i*10+3)) (Z (p.Ez+1))) g->e g)):
  D7 263 #[Ey x,Z i,pv p] w Ep λf=>e f:=by
 have q0:0<=(i:Int):=U;have q1:(i:Int)<9:=U;have⟨s0,s1,s2,s3,s4,s5,s6,s7,s8,s9⟩:=Q;have⟨hx,T⟩:=KM MU s0;have z2:=hz (i*10+2);have z3:=hz (i*10+3);have⟨kd,ci,lf,ln,sq,ud,pt,off,X,bd⟩:=p;rw[<-y]at s3;simp only at m h hp j;have u:=Td B j;have e1:IntKind.i64.wrap (off-1)=off-1:=Iz;have e2:IntKind.i64.wrap (pt+1)=pt+1:=Iz;have k2:=m;clear y m h hp B j hz;generalize str r.DC=MS at *;generalize str (r.DC++bd)=MB at *;go_enter func263,ntmps263;go_wp2_with fail
 go_region_held3 (λf=>f.cell? (Y sn (i*10+3))=some (Z pt)/\f.cell? (EN w 6)=some (Z pt)) (go_keep) (fail)
 go_wp2_with fail
 go_region_law (fail)
 all_goals
  cases X with
  |true=>
   go_wp2_with fail
   refine cm (O (by trivial) _ (((AA _ _).alloc (by simp[World.setCell]) _).drew.drew)) λw3 hp=>?_
   exact aO
  |false=>
   go_wp2_with fail
   go_returns;exact⟨rfl,D (by trivial) _ (((AA _ _).alloc (by simp[World.setCell]) _).drew.drew)⟩
section
variable {P:Program} {ops:Array Oper} {Q:Exit->Act->World->Prop} {md:Region.Mode} {S T Uq:World->Prop} {k:Nat}
def Ko(P:Program)(md:Region.Mode)(ops:Array Oper)(Q:Exit->Act->World->Prop)(S T:World->Prop)(k:Nat):Nat->Array Bool->Act->World->Prop
 |0,listed,a,w=>Region.ready md ops listed=[]/\Q .normal a w
 |fuel+1,listed,a,w=>
  (Region.ready md ops listed=[]->Q .normal a w) /\
  ∀i∈Region.ready md ops listed,wpOp P ops Q i (λa' w'=>(S w'/\((listed.setIfInBounds i true).getD k true=false->T w'))/\Ko P md ops Q S T k fuel (listed.setIfInBounds i true) a' w') a w
theorem U6:∀(fuel:Nat) (listed:Array Bool) (a:Act) (w:Aa),Ko P md ops Q S T k fuel listed a w->wpAny P md ops Q fuel listed a w
 |0,_,_,_,h=>h
 |fuel+1,_,_,_,h=>⟨h.1,λi hi=>wpOp_mono (λe g f=>U6 fuel _ e g f.2) (h.2 i hi)⟩
def Down(md:Region.Mode)(ops:Array Oper)(listed:Array Bool):Prop:=
 ∀j oj,ops[j]?=some oj->listed.getD j true=true->∀e∈oj.after,Region.binds md e=true->listed.getD e.on false=true
theorem Down.set{j:Nat}(h:Down md ops listed)(D:j∈Region.ready md ops listed):Down md ops (listed.setIfInBounds j true):=by
 intro i oi m hl e B y;by_cases g:j=i
 ·subst g;have⟨_,O,u,f⟩:=mem_ready.1 D;rw[m]at u;cases u;exact getD_set_true (f e B y)
 ·rw[getD_set_ne true g]at hl;exact getD_set_true (h i oi m hl e B y)
inductive Hr (md:Region.Mode) (ops:Array Oper):Nat->Nat->Prop
 |one {k i:Nat} {ok:Oper} {e:Edge} (hk:ops[k]?=some ok) (he:e∈ok.after) (hb:Region.binds md e=true) (hi:e.on=i):Hr md ops k i
 |more {k j i:Nat} (h:Hr md ops k j) (h':Hr md ops j i):Hr md ops k i
def aJ(md:Region.Mode)(ops:Array Oper)(k i:Nat):Bool:=
 match ops[k]? with
 |some ok=>ok.after.any λe=>Region.binds md e&&e.on==i
 |none=>false
theorem Hr.of(h:aJ md ops k i=true):Hr md ops k i:=by grind [aJ,Hr,Array.any_eq_true']
theorem af0(h:listed.getD i false=true):listed.getD i true=true:=by grind
theorem Hr.xL(h:Hr md ops k i)(hd:Down md ops listed)(hi:listed.getD i true=false):listed.getD k true=false:=by
 induction h with
 |one hk he hb hi'=>grind [Down]
 |more _ _ ih1 ih2=>exact ih1 (ih2 hi)
theorem QD(hi:ops[i]?=some oi)(B:∀(j:Nat) (o:Oper) cs b,ops[j]?=some o->o.op≠.select cs b)
  (hQ:∀c a w,Q (.panic c) (a.put oi.dst v) w->Q (.panic c) a w) (D:i≠k)
  (hU:∀(listed:Array Bool) w,Down md ops listed->listed.getD i true=false->S w->(listed.getD k true=false->T w)->Uq w):
  ∀(fuel:Nat) (listed:Array Bool) (a:Act) (w:Aa),Down md ops listed ->
   (∀j X,ops[j]?=some X->j≠i->listed.getD j true=false->(∀e∈X.after,Region.binds md e=true->e.on≠i)->oi.apart ops X=true) ->
   i∈Region.ready md ops listed->YieldsIf P ops Uq oi v a->S w->(listed.getD k true=false->T w) ->
   Ko P md ops Q S T k fuel (listed.setIfInBounds i true) (a.put oi.dst v) w->Ko P md ops Q S T k (fuel+1) listed a w:=by
 intro fuel;induction fuel with
 |zero=>
  intro listed a w hd _ y hy hS hT H;refine⟨λh=>(by rw[h]at y;cases y),λj hj=>?_⟩;by_cases f:j=i
  ·subst f;exact hy.wpOp hi (hU _ _ hd (mem_ready.1 y).1 hS hT) ⟨⟨hS,by rw[getD_set_ne true D];exact hT⟩,H⟩
  ·have:=ready_mono hj f;rw[H.1]at this;cases this
 |succ fuel ih=>
  intro listed a w hd g y hy hS hT H;refine⟨λh=>(by rw[h]at y;cases y),λj hj=>?_⟩;by_cases f:j=i
  ·subst f;exact hy.wpOp hi (hU _ _ hd (mem_ready.1 y).1 hS hT) ⟨⟨hS,by rw[getD_set_ne true D];exact hT⟩,H⟩
  ·have h1:=H.2 j (ready_mono hj f);have⟨u,X,O,am⟩:=mem_ready.1 hj;have ad:∀e∈X.after,Region.binds md e=true->e.on≠i:=λe he hb av=>by
    grind [Region.ready]
   have h2:=wpOp_putIf O (g j X O f u ad) (λcs b=>B i oi cs b hi) (λcs b=>B j X cs b O) hQ hy h1;have m:∀k ok,ops[k]?=some ok->k≠i->(listed.setIfInBounds j true).getD k true=false ->
     (∀e∈ok.after,Region.binds md e=true->e.on≠i)->oi.apart ops ok=true:=λk ok hk ah ae ak=>by
    refine g k ok hk ah ?_ ak;by_cases ac:j=k
    ·subst ac;exact u
    ·rw[getD_set_ne true ac]at ae;exact ae
   refine wpOp_mono (λa' w' h3=>?_) h2;have aa:(listed.setIfInBounds j true).getD k true=false->T w':=λh=>h3.2.1.2 (by
    rw[Array.setIfInBounds_comm _ _ (Ne.symm f),getD_set_ne true D];exact h)
   refine⟨⟨h3.2.1.1,aa⟩,ih (listed.setIfInBounds j true) a' w' (hd.set hj) m (ready_mono y (Ne.symm f)) h3.1 h3.2.1.1 aa ?_⟩
   grind [Array.setIfInBounds_comm]
structure Pb(md:Region.Mode)(ops:Array Oper)(S T:World->Prop)(k:Nat)(listed:Array Bool)(w:Aa):Prop where
 down:Down md ops listed
 s:S w
 t:listed.getD k true=false->T w
theorem Pb.set(h:Pb md ops S T k listed w)(f:(Region.ready md ops listed).contains i=true)(e:(i==k)=false):Pb md ops S T k (listed.setIfInBounds i true) w:=
 ⟨h.down.set (by simpa using f),h.s,by rw[getD_set_ne true (by simpa using e)];exact h.t⟩
theorem bw(hi:ops[i]?=some oi)
  (u:Region.noSelect ops=true) (m:Region.free md ops listed i=true) (g:(Region.ready md ops listed).contains i=true) (e:(i==k)=false)
  (j:∀c a w,Q (.panic c) (a.put oi.dst v) w->Q (.panic c) a w) (y:YieldsIf P ops S oi v a) (f:Pb md ops S T k listed w)
  (h:Pb md ops S T k (listed.setIfInBounds i true) w->Ko P md ops Q S T k fuel (listed.setIfInBounds i true) (a.put oi.dst v) w):Ko P md ops Q S T k (fuel+1) listed a w:=
 QD (Uq:=S) hi (Region.noSelect_spec u) j (by simpa using e) (λ_ _ _ _ h _=>h) fuel listed a w f.down (Region.free_spec hi m) (by simpa using g) y f.s f.t (h (f.set g e))
theorem X6(hi:ops[i]?=some oi)
  (y:Region.noSelect ops=true) (u:Region.free md ops listed i=true) (j:(Region.ready md ops listed).contains i=true) (e:(i==k)=false) (D:Hr md ops k i)
  (m:∀c a w,Q (.panic c) (a.put oi.dst v) w->Q (.panic c) a w) (O:YieldsIf P ops (λw=>S w/\T w) oi v a) (f:Pb md ops S T k listed w)
  (h:Pb md ops S T k (listed.setIfInBounds i true) w->Ko P md ops Q S T k fuel (listed.setIfInBounds i true) (a.put oi.dst v) w):Ko P md ops Q S T k (fuel+1) listed a w:=
 QD (Uq:=λw=>S w/\T w) hi (Region.noSelect_spec y) m (by simpa using e) (λ_ _ hd g h B=>⟨h,B (D.xL hd g)⟩) fuel listed a w f.down (Region.free_spec hi u) (by simpa using j) O f.s f.t (h (f.set j e))
def IP(P:Program)(md:Region.Mode)(ops:Array Oper)(Q:Exit->Act->World->Prop)(S T:World->Prop)(k:Nat)(fuel:Nat)(listed:Array Bool)(a:Act)(w:Aa)(rs:List Nat):Prop:=
 ∀i∈rs,wpOp P ops Q i (λa' w'=>(S w'/\((listed.setIfInBounds i true).getD k true=false->T w'))/\Ko P md ops Q S T k fuel (listed.setIfInBounds i true) a' w') a w
theorem IP.nil:IP P md ops Q S T k fuel listed a w []:=λ_ h=>by cases h
theorem IP.cons(B:ops[i]?=some o)
  (hd:Down md ops listed) (D:(Region.ready md ops listed).contains i=true)
  (h:∀e:Act->World->Prop,Shut (∀a w,S w->((listed.setIfInBounds i true).getD k true=false->T w)->(Pb md ops S T k (listed.setIfInBounds i true) w->Ko P md ops Q S T k fuel (listed.setIfInBounds i true) a w)->e a w)->if Region.wanted o (yielded ops a.tmps)=true then Oper.wp P o a w e Q else e (a.put o.dst undef) w)
  (O:IP P md ops Q S T k fuel listed a w rs):IP P md ops Q S T k fuel listed a w (i :: rs):=λj f=>by
 rcases CX.1 f with rfl|f
 ·exact wpOp_step B (λe u=>h e (λa w g m y=>u a w ⟨⟨g,m⟩,y ⟨hd.set (by simpa using D),g,m⟩⟩))
 ·exact O j f
theorem QE(f:Region.ready md ops listed=rs)(e:rs≠[])
  (h:IP P md ops Q S T k fuel listed a w rs):Ko P md ops Q S T k (fuel+1) listed a w:=by grind [IP,Ko]
theorem bu(e:Region.ready md ops listed=[])(h:Q .normal a w):
  ∀fuel,Ko P md ops Q S T k fuel listed a w
 |0=>⟨e,h⟩
 |_+1=>⟨λ_=>h,by rw[e];simp⟩
theorem bA(u:P.follows .mixedOrders=true)(g:S w.drew)(m:T w.drew)
  (h:Pb .any ops S T k (Array.replicate ops.size false) w.drew->Ko P .any ops Q S T k ops.size (Array.replicate ops.size false) a w.drew):(Code.region id ops true).wp P Q a w:=
 wp_region_any u (U6 _ _ _ _ (h ⟨λj y f hl=>by
  have e:=(AB.1 f).1;simp[e]at hl,g,λ_=>m⟩))
def WK(P:Program)(md:Region.Mode)(ops:Array Oper)(Q:Exit->Act->World->Prop)(S T:World->Prop)(k:Nat)(fuel:Nat)(listed:Array Bool)(a:Act)(w:Aa):Prop:=
 Pb md ops S T k listed w->Ko P md ops Q S T k fuel listed a w
theorem WK.take(hi:ops[i]?=some oi)
  (m:Region.noSelect ops=true) (g:Region.free md ops listed i=true) (j:(Region.ready md ops listed).contains i=true) (e:(i==k)=false)
  (f:∀c a w,Q (.panic c) (a.put oi.dst v) w->Q (.panic c) a w) (u:YieldsIf P ops S oi v a)
  (h:WK P md ops Q S T k fuel (listed.setIfInBounds i true) (a.put oi.dst v) w):WK P md ops Q S T k (fuel+1) listed a w:=by grind [WK,bw]
theorem WK.take2(hi:ops[i]?=some oi)
  (m:Region.noSelect ops=true) (g:Region.free md ops listed i=true) (j:(Region.ready md ops listed).contains i=true) (e:(i==k)=false) (u:Hr md ops k i)
  (f:∀c a w,Q (.panic c) (a.put oi.dst v) w->Q (.panic c) a w) (y:YieldsIf P ops (λw=>S w/\T w) oi v a)
  (h:WK P md ops Q S T k fuel (listed.setIfInBounds i true) (a.put oi.dst v) w):WK P md ops Q S T k (fuel+1) listed a w:=by grind [WK,X6]
theorem WK.one(f:Region.ready md ops listed=[i])(B:ops[i]?=some o)
  (h:∀e:Act->World->Prop,Shut (∀a w,S w->T w->WK P md ops Q S T k fuel (listed.setIfInBounds i true) a w->e a w)->if Region.wanted o (yielded ops a.tmps)=true then Oper.wp P o a w e Q else e (a.put o.dst undef) w):WK P md ops Q S T k (fuel+1) listed a w:=
 λg=>QE f Ev (IP.cons B g.down (by rw[f];simp) (λe j=>h e λa w m u y=>j a w m (λ_=>u) y) IP.nil)
theorem WK.store(g:Region.ready md ops listed=[k])(B:ops[k]?=some o)
  (h:∀e:Act->World->Prop,Shut (∀a w,S w->WK P md ops Q S T k fuel (listed.setIfInBounds k true) a w->e a w)->if Region.wanted o (yielded ops a.tmps)=true then Oper.wp P o a w e Q else e (a.put o.dst undef) w):WK P md ops Q S T k (fuel+1) listed a w:=
 λj=>QE g Ev (IP.cons B j.down (by rw[g];simp) (λe m=>h e λa w u y=>m a w u (λhc=>by
  exfalso;rcases CR k listed.size with f|f
  ·simp[f]at hc
  ·simp[Nat.not_lt.2 f]at hc) y) IP.nil)
theorem WK.done(e:Region.ready md ops listed=[])(h:Q .normal a w):WK P md ops Q S T k fuel listed a w:=
 λ_=>bu e h fuel
theorem WK.begin(g:P.follows .mixedOrders=true)(e:S w.drew)(f:T w.drew)
  (h:WK P .any ops Q S T k ops.size (Array.replicate ops.size false) a w.drew):(Code.region id ops true).wp P Q a w:=
 bA g e f h
end
theorem ktk{P:Program}{f:Region.Mode}{e:Array Oper}{Q:Exit->Act->World->Prop}{S T:World->Prop}{k:Nat}(i:Nat){l':Array Bool}{m:Act}(hi:e[i]?=some oi:=by rfl)
  (O:Region.noSelect e=true:=by kernel_rfl) (B:Region.free f e listed i=true:=by kernel_rfl) (D:(Region.ready f e listed).contains i=true:=by kernel_rfl) (j:(i==k)=false:=by rfl)
  (u:∀c a w,Q (.panic c) (a.put oi.dst v) w->Q (.panic c) a w:=by exact λ_ _ _ h=>h) (X:YieldsIf P e S oi v a:=by(refine Aj ⟨by rfl,?_⟩;intro w g;try dsimp only at g;go_simp;try with_reducible rfl))
  (hl:listed.setIfInBounds i true=l':=by(try simp only[Al,Av,Ax]);try rfl)
  (y:a.put oi.dst v=m:=by(try simp only[Act.put,Al,Av,Ax,Az,Aq,Au]);try rfl)
  (h:WK P f e Q S T k fuel l' m w):WK P f e Q S T k (fuel+1) listed a w:=
 WK.take hi O B D j u X (by rw[hl,y];exact h)
end Go.Proofs.YtblomippkddgiaaGreatDoor
