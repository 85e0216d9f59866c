import Derived.Test.YtblomippkddgiaaGreatDoorJ25
set_option maxRecDepth 100000
set_option maxHeartbeats 4000000
namespace Go.Proofs.YtblomippkddgiaaGreatDoor
open Go.Proofs.Tryz
open Go.RowKit
variable {F:D9}{cap g i k n nl rc rn x:Nat}{ra:Option Addr}{c:R.Cl}{l:R.Ln}{G:R.Wd}{v:RV}{w:World}
theorem LB(l:Ac)(a b:Nat):(str l).extract a b=str ((l.drop a).take (b-a)):=by
 exact wO
theorem Ma(s:Ac)(k:Nat)(hk:8*k<=s.length)(m:s.length<=1000)(w:Aa):D7 220 #[.string (str s),Z k] w (.tuple #[.string (str (R.EY s (k:Int))),Z (R.DL s)]) λj=>j=w:=by
 have h:=Er s;have e1:IntKind.i64.wrap ((s.length:Int)+7)=(s.length:Int)+7:=Iz;have e2:IntKind.i64.wrap (((s.length:Int)+7).tdiv 8)=R.DL s:=by
  unfold R.DL;rw[show (s.length:Int)+7=((s.length+7:Nat):Int) by omega,show (8:Int)=((8:Nat):Int) from rfl,<-Int.ofNat_tdiv,BS];omega
 have e3:IntKind.i64.wrap (8*(k:Int))=8*(k:Int):=Iz;have e4:IntKind.i64.wrap (8*(k:Int)+8)=8*(k:Int)+8:=Iz;obtain⟨u,y,B,D⟩:(0:Int)<=8*(k:Int)/\(8*(k:Int)).toNat=8*k/\(8*(k:Int)+8).toNat=8*k+8/\(0:Int)<=8*(k:Int)+8:=U;by_cases hl:(s.length:Int)<=8*(k:Int)+8
 ·have e:str (R.EY s (k:Int))=(str s).extract (8*k) s.length:=by
   rw[LB];unfold R.EY;rw[AY,A7 Fy,A7 Ev]
  rw[e];exact ko
 ·have e:str (R.EY s (k:Int))=(str s).extract (8*k) (8*k+8):=by
   rw[LB];unfold R.EY;rw[AY,Nat.add_sub_cancel_left]
  have f:8*k+8<=s.length:=U;rw[e];exact ko
theorem XL{lb:Nat}{Dz DR D4 D5 DK Ea DT El DW:Int}{to f cm:Ab}(hi:i<n)(hk:k<nl)(x9:w.cell? (Y x 9)=some (EJ g n cap))(c0:w.cell? (Y g (i*3))=some (Z DR))(c2:w.cell? (Y g (i*3+2))=some (EJ lb nl nl))
  (l0:w.cell? (Y lb (k*11))=some (Z D4)) (l1:w.cell? (Y lb (k*11+1))=some (Z DK)) (l2:w.cell? (Y lb (k*11+2))=some (.slice ra rn rc)) (l3:w.cell? (Y lb (k*11+3))=some (Z D5)) (l4:w.cell? (Y lb (k*11+4))=some (.string to)) (l5:w.cell? (Y lb (k*11+5))=some (.string f)) (l6:w.cell? (Y lb (k*11+6))=some (Z Ea)) (l7:w.cell? (Y lb (k*11+7))=some (.string cm)) (l8:w.cell? (Y lb (k*11+8))=some (Z DT)) (l9:w.cell? (Y lb (k*11+9))=some (Z El)) (l10:w.cell? (Y lb (k*11+10))=some (Z DW)):
  D7 166 #[Ey x,Z i,Z k,Z Dz] w (.agg #[Z Dz,Z i,Z DR,Z k,Z D4,Z D5,Z 0,Z 1,.bool false,.string ⟨#[]⟩]) λe=>DY w e:=by
 obtain⟨m,u,y,B⟩:0<=(i:Int)/\(i:Int)<n/\0<=(k:Int)/\(k:Int)<nl:=U;have⟨j,h,hl⟩:=Va x9 c0 l0;go_enter func166,ntmps166;go_wp2_with fail
 go_region_held3 (λe=>e.cell? (Y x 9)=some (EJ g n cap)/\e.cell? (Y g (i*3))=some (Z DR)/\e.cell? ⟨w.heap.size+1,0,none⟩=some (Z D4)/\e.cell? ⟨w.heap.size+1,3,none⟩=some (Z D5)) (go_keep) (fail)
 go_wp2;go_returns;exact⟨rfl,((F9.alloc Ev _).drew)⟩
structure xX(w:Aa)(lb k:Nat)(l:R.Ln):Prop where
 l0:w.cell? (Y lb (k*11))=some (Z l.D4)
 l1:w.cell? (Y lb (k*11+1))=some (Z l.DK)
 l2:∃a n c,w.cell? (Y lb (k*11+2))=some (.slice a n c)
 l3:w.cell? (Y lb (k*11+3))=some (Z l.D5)
 l4:w.cell? (Y lb (k*11+4))=some (.string l.to)
 l5:w.cell? (Y lb (k*11+5))=some (.string (str l.DC))
 l6:w.cell? (Y lb (k*11+6))=some (Z l.Ea)
 l7:w.cell? (Y lb (k*11+7))=some (.string (str l.EK))
 l8:w.cell? (Y lb (k*11+8))=some (Z l.DT)
 l9:w.cell? (Y lb (k*11+9))=some (Z l.El)
 l10:w.cell? (Y lb (k*11+10))=some (Z l.DW)
theorem Tk.cells{z:R.Cl×CE}{j:List (R.Ln×Value)}(h:Tk x v F G w i c g cap z j)(hl:c.DV[k]?=some l):xX w z.2.lb k l:=by
 have⟨V,_,f,hc⟩:=h.Zd hl;exact⟨hc 0 _ U rfl,hc 1 _ U rfl,by
  have⟨a,n,e,_⟩:=f.it.Gz;exact⟨a,_,n,by rw[<-e];exact hc 2 _ U rfl⟩,hc 3 _ U rfl,hc 4 _ U rfl,hc 5 _ U rfl,hc 6 _ U rfl,hc 7 _ U rfl,hc 8 _ U rfl,hc 9 _ U rfl,hc 10 _ U rfl⟩
theorem xX.DG{w':Aa}{lb:Nat}(h:xX w lb k l)(f:DY w w'):xX w' lb k l:=by
 have hl:=Gv h.l0;exact⟨(f.cell (p:=Y lb _) hl).trans h.l0,(f.cell (p:=Y lb _) hl).trans h.l1,by
  have⟨a,n,c,e⟩:=h.l2;exact⟨a,n,c,(f.cell (p:=Y lb _) hl).trans e⟩,(f.cell (p:=Y lb _) hl).trans h.l3,(f.cell (p:=Y lb _) hl).trans h.l4,(f.cell (p:=Y lb _) hl).trans h.l5,(f.cell (p:=Y lb _) hl).trans h.l6,(f.cell (p:=Y lb _) hl).trans h.l7,(f.cell (p:=Y lb _) hl).trans h.l8,(f.cell (p:=Y lb _) hl).trans h.l9,(f.cell (p:=Y lb _) hl).trans h.l10⟩
theorem RW.Xz(h:RW x v F G w)(hc:G.DI[i]?=some c)(hl:c.DV[k]?=some l)(Dz:Int):
  D7 166 #[Ey x,Z i,Z k,Z Dz] w (.agg #[Z Dz,Z i,Z c.DR,Z k,Z l.D4,Z l.D5,Z 0,Z 1,.bool false,.string ⟨#[]⟩]) λf=>DY w f:=by
 have⟨g,cap,z,j,e⟩:=h.at hc;have q:=e.cells hl;have⟨ra,rn,rc,l2⟩:=q.l2;exact XL (GG hc) (GG hl) e.x9 e.c0 e.c2 q.l0 q.l1 l2 q.l3 q.l4 q.l5 q.l6 q.l7 q.l8 q.l9 q.l10
theorem XO(w:Aa)(x:Nat)(a:Af)(n cap:Nat)(cl li:Int)(x9:EB w x 9 (.slice a n cap))(h:cl<0\/(n:Int)<=cl):D7 164 #[Ey x,Z cl,Z li] w (.tuple #[.agg #[Z 0,Z 0,.slice none 0 0],Z 13]) λe=>DY w e:=by
 have m:=Gv x9;by_cases f:cl<0
 ·exact kq
 ·have j:(n:Int)<=cl:=U;exact kq
theorem gE{a:Af}{cl li ln:Int}(x1:EB w x 1 (Z ln))(x9:EB w x 9 (.slice a n cap))(f:¬cl<0)(j:¬(n:Int)<=cl)(h:li<0\/ln<=li):D7 164 #[Ey x,Z cl,Z li] w (.tuple #[.agg #[Z 0,Z 0,.slice none 0 0],Z 14]) λe=>DY w e:=by
 have y:=Gv x9;by_cases m:li<0
 ·exact kq
 ·have u:ln<=li:=U;exact kq
theorem vr{lb:Nat}(hi:i<n)(hk:k<nl)(x1:EB w x 1 (Z nl))(x9:EB w x 9 (EJ g n cap))(c2:EB w g (i*3+2) (EJ lb nl nl))(e:xX w lb k l)(l2:EB w lb (k*11+2) (.slice ra rn rc)):D7 164 #[Ey x,Z i,Z k] w (.tuple #[.agg #[Z l.DK,Z l.D4,.slice ra rn rc],Z 0]) λh=>DY w h:=by
 obtain⟨M,O,Q,T,u,y,B,D⟩:0<=(i:Int)/\(i:Int)<n/\0<=(k:Int)/\(k:Int)<nl/\¬(i:Int)<0/\¬(n:Int)<=i/\¬(k:Int)<0/\¬(nl:Int)<=k:=U;have⟨m,j,f⟩:=Va x9 c2 e.l0;have⟨l0,l1,_,l3,l4,l5,l6,l7,l8,l9,l10⟩:=e;go_enter func164,ntmps164;go_wp2;go_returns;exact⟨rfl,F9.alloc Ev _⟩
theorem RW.x9(h:RW x v F G w):∃a cap,EB w x 9 (.slice a G.DI.length cap):=by
 exact abl
theorem RW.status(h:RW x v F G w)(cl li:Int):∃X un uc,Gg w F (.slice X un uc) (R.KI G cl li).2.2.1/\∀j,DY w j->D7 164 #[Ey x,Z cl,Z li] j (.tuple #[.agg #[Z (R.KI G cl li).1,Z (R.KI G cl li).2.1,.slice X un uc],Z (R.KI G cl li).2.2.2]) λD=>DY j D:=by
 unfold R.KI;by_cases O:cl<0\/(G.DI.length:Int)<=cl
 ·rw[Ay O];refine⟨none,0,0,Gg.nil w F,λj e=>?_⟩;have⟨a,cap,x9⟩:=(h.DG e).x9
  grind [XO]
 ·rw[Ao O];by_cases m:li<0\/G.c.DV<=li
  ·rw[Ay m];refine⟨none,0,0,Gg.nil w F,λj e=>?_⟩;have⟨a,cap,x9⟩:=(h.DG e).x9;exact gE (ED (h.DG e).bx 1 _ rfl) x9 U U m
  ·rw[Ao m];obtain⟨i,rfl⟩:∃i:Nat,cl=(i:Int):=⟨cl.toNat,U⟩;obtain⟨k,rfl⟩:∃k:Nat,li=(k:Int):=⟨li.toNat,U⟩;have hi:i<G.DI.length:=U;obtain⟨c,hc⟩:∃c,G.DI[i]?=some c:=⟨_,Ah hi⟩;have B:=(h.wf.cl i c hc).DV;obtain⟨l,hl⟩:∃l,c.DV[k]?=some l:=⟨_,Ah U⟩;have⟨g,M,z,zl,f⟩:=h.at hc;have⟨V,_,T,u⟩:=f.Zd hl;have⟨ra,rc,Q,_⟩:=T.it.Gz;rw[R.FH hc hl];have l2:=u 2 V U rfl;rw[Q]at l2;refine⟨ra,_,rc,by rw[<-Q];exact T.it,λj e=>?_⟩;have y:=Dv f.lb;exact vr hi (GG hl) (by rw[B];exact ED (h.DG e).bx 1 _ rfl) ((e.cell (p:=Y x 9) (Dv h.bx)).trans f.x9) ((e.cell (p:=Y g _) f.lt).trans f.c2) ((f.cells hl).DG e) ((e.cell (p:=Y z.2.lb _) y).trans l2)
end Go.Proofs.YtblomippkddgiaaGreatDoor
namespace Go.Proofs.YtblomippkddgiaaGreatDoor.V
open Go.Proofs.Tryz
open Go.RowKit
theorem nR(s:Ab)(hc:(Pt.O7 (nx s) s.size).1=0)(V:Ad)(v:List It)(w:Aa)(e:Ff w V v)(hn:v.length<=9000000000000):D7 207 #[.string s,V] w (.bool (IG s v).isSome) λj=>DY w j:=by
 have f:=Nw hc;have⟨a,cap,g,_,_⟩:=id e;have h:=Wx s V v f.size hn (s.size+1) 0 0 w f.ok (AV _) e;have HF:=YT s V a cap v w g _ h;rw[De,jD]at HF;unfold IG;cases he:Hg (nx s) (s.size+1) 0 v with
 |none=>
  simp only[he]at HF;exact HF
 |some x=>
  have⟨m,r⟩:=x;simp only[he]at HF;cases r with
  |cons y r=>exact HF
  |nil=>exact HF
theorem Ux(s:Ab)(hc:(Pt.O7 (nx s) s.size).1=0)(V:Ad)(v:List It)(w:Aa)(h:Ff w V v)(hn:v.length<=9000000000000){out:Ac}(e:IG s v=some out):D7 208 #[.string s,V] w (.string ⟨out.toArray⟩) λj=>DY w j:=by
 have f:=Nw hc;unfold IG at e;cases he:Hg (nx s) (s.size+1) 0 v with
 |none=>rw[he]at e;cases e
 |some x=>
  have⟨g,r⟩:=x;rw[he]at e;cases r with
  |cons y r=>cases e
  |nil=>
   cases e;have⟨m,u⟩:=Hs _ _ _ _ _ _ he;have⟨s1,s2⟩:=QO s _ _ f.ok _ _ _ he;have hl:g.length=v.length:=by grind [List.length_drop]
   have D:10 ^ Pt.Lj (nx s) (s.size+1) 0<=10 ^ 4:=CS Em f.Lj;have B:=Ue s2 hl;have M:=Ws s V v w f.size hn h (s.size+1) 0 (.slice none 0 0) [] g [] w f.ok ⟨AZ _ _ _ _,AA _ _⟩ he
   grind [VH]
end Go.Proofs.YtblomippkddgiaaGreatDoor.V
namespace Go.Proofs.YtblomippkddgiaaGreatDoor
open Go.Proofs.Tryz
open Go.RowKit
variable {F:D9}{rt tr:Int}{zl:List (R.Ln×Value)}{Ee:List Int}{cV cap cb g gB gV i j k n nV nb nl u x:Nat}{ab:Option Addr}{c:R.Cl}{z:R.Cl×CE}{l:R.Ln}{G:R.Wd}{v:RV}{w:World}
theorem Sk(w:Aa)(x g n cap i lb k nl:Nat)(DR:Int)(l:R.Ln)(Ga pl:Bool)(T:Nat)(ac:l.Ea=(T:Int))(hm:8*T<=l.DC.length)(an:l.DC.length<=72)(hi:i<n)(hk:k<nl)(x9:EB w x 9 (EJ g n cap))(c2:EB w g (i*3+2) (EJ lb nl nl))(hL:xX w lb k l)(Q:World->Prop)(m:pl=(Ga || decide (l.Ea<R.DL l.DC-1)))
  (M:Hid (D7 166 #[Ey x,Z i,Z k,Z 1] w (.agg #[Z 1,Z i,Z DR,Z k,Z l.D4,Z l.D5,Z 0,Z 1,.bool false,.string ⟨#[]⟩]) λw'=>DY w w'))
  (f:Hid (∀W,DY w W->D7 167 #[Ey x,Z (-1),.agg #[Z 1,Z i,Z DR,Z k,Z l.D4,Z l.D5,Z l.Ea,Z (R.DL l.DC),.bool pl,.string (str (R.EY l.DC l.Ea))]] W Ep λw'=>Q w')):
  D7 165 #[Ey x,Z i,Z k,.bool Ga] w Ep λw'=>Q w':=by
 have O:=Dx (λw=>Ma l.DC T hm U w);have q0:0<=(i:Int):=U;have q1:(i:Int)<n:=U;have q2:0<=(k:Int):=U;have q3:(k:Int)<nl:=U;obtain⟨hx,hg,bg⟩:=Va x9 c2 hL.l0;have bi:IntKind.i64.wrap (R.DL l.DC-1)=R.DL l.DC-1:=by
  unfold R.DL;rw[BS];omega
 rw[ac]at f m;generalize R.DL l.DC=pn at *;generalize str (R.EY l.DC (T:Int))=pb at *;obtain⟨HL,X9,C2⟩:=Ll hL x9 c2;clear hm an hL x9 c2;cases Ga;all_goals
  first|rw[Bool.false_or]at m|rw[Bool.true_or]at m
  go_enter func165,ntmps165;go_wp2_with fail
  refine cm M λX h=>?_
  have x9:=(h.cell (p:=Y x 9) hx).trans (Dw X9);have c2:=(h.cell (p:=Y g _) hg).trans (Dw C2);have am:=HL.DG h;obtain⟨l0,l1,⟨ra,rn,rc,l2⟩,l3,l4,l5,l6,l7,l8,l9,l10⟩:=am;rw[ac]at l6;obtain⟨bp,be,av⟩:=Va x9 c2 l0;have B:=Dx h;clear h HL X9 C2 M;obtain⟨W3,D⟩:∃W3,(X.alloc (.cells #[Z 1,Z i,Z DR,Z k,Z l.D4,Z l.D5,Z T,Z 1,.bool false,.string ⟨#[]⟩] 41)).alloc (.cells #[Z l.D4,Z l.DK,.slice ra rn rc,Z l.D5,.string l.to,.string (str l.DC),Z T,.string (str l.EK),Z l.DT,Z l.El,Z l.DW] 259)=W3:=⟨_,rfl⟩;have y:W3.heap[X.heap.size]?=some (.cells [Z 1,Z i,Z DR,Z k,Z l.D4,Z l.D5,Z T,Z 1,.bool false,.string ⟨#[]⟩].toArray 41 (0,0)):=by
   rw[<-D,AL _ _ _ Ev];exact AF X _
  have aa:DY w W3:=by
   rw[<-D];exact(B.alloc B.size _).alloc (by have:=B.size;simp;omega) _
  obtain⟨b6,b7,az,b9,b0⟩:=bC y 6 7 8 9 0;obtain⟨b1,b2,b3,b4,b5⟩:=bC y 1 2 3 4 5;have bz:∀o,W3.frozen? (EN X o)=false:=λo=>Hf y o
  have aS:=bz 7;have aV:=bz 8;have ba:=bz 9;have bf:=Dv y;obtain⟨ah,ak⟩:=FU aa D;clear y aa D bz;go_wp2_with fail
  rw[Dw ak];refine cm (O _) λw2 ad=>?_
  rw[ad];clear ad O l0 l1 l2 l3 l4 l5 l6 l7 l8 l9 l10 x9 c2;go_wp2_with fail
  rw[<-m];clear m;refine(f _ (by
   have hs:=B.size;exact((ah.setCell (p:=EN X 9) hs _).setCell (p:=EN X 7) hs _).setCell (p:=EN X 8) hs _)).mono ?_
  rintro e w4 ⟨rfl,hP⟩;have HP:=Dx hP;clear hP f;go_wp2_with fail
  go_returns;exact⟨rfl,HP⟩
theorem RW.UK(h:RW x v F G w)(hc:G.DI[i]?=some c)(hl:c.DV[k]?=some l)(Q:l.DK=1)(ha:l.Ea<R.DL l.DC)(Ga:Bool):
  D7 165 #[Ey x,Z i,Z k,.bool Ga] w Ep λO=>∃m f,RW x m f (R.EG G i k Ga) O/\D8 F f w O/\m.zc=v.zc:=by
 have⟨g,cap,z,zl,B⟩:=h.at hc;have⟨q1,q2,q3,q4,q5,q6⟩:=((h.wf.cl i c hc).DZ k l hl).one Q;obtain⟨y,D⟩:∃y:Nat,l.Ea=(y:Int):=⟨l.Ea.toNat,U⟩;have X:=R.Pv h.wf hc hl Q ha Ga;have he:=R.MK (Ga:=Ga) (R.FH hc hl);have e:=R.GH hc;refine Sk w x g G.DI.length cap i z.2.lb k c.DV.length c.DR l Ga _ y D ?_ q3.2 (GG hc) (GG hl) B.x9 B.c2 (B.cells hl) _ rfl (Dx (h.Xz hc hl 1)) (Dx λW T=>?_)
 ·grind [R.DL]
 ·have M:pv (R.Ns G i k l Ga)=.agg #[Z 1,Z i,Z c.DR,Z k,Z l.D4,Z l.D5,Z l.Ea,Z (R.DL l.DC),.bool (Ga || decide (l.Ea<R.DL l.DC-1)),.string (str (R.EY l.DC l.Ea))]:=by
   rw[<-e];rfl
  rw[<-M];refine cm ((h.DG T).UL (-1) (R.Ns G i k l Ga) X) ?_;rintro O ⟨m,f,p1,p2,p3⟩;refine⟨rfl,m,f,?_,(D8.D6 F T).trans p2,p3⟩;rw[he];exact p1
theorem RW.Wh(h:RW x v F G w)(hc:G.DI[i]?=some c)(hl:c.DV[k]?=some l)(e:l.DK=1)(f:l.Ea<R.DL l.DC)(Ga:Bool):
  D7 165 #[Ey x,Z i,Z k,.bool Ga] w Ep λw'=>∃v' F',RW x v' F' (R.EG G i k Ga) w'/\D8 F F' w w':=by
 refine cm (h.UK hc hl e f Ga) ?_;exact wV
theorem XB(w:Aa)(x:Nat)(a:Af)(n cap:Nat)(cl li D5 e:Int)(V:Ad)(x9:EB w x 9 (.slice a n cap))(h:cl<0\/(n:Int)<=cl):D7 163 #[Ey x,Z cl,Z li,Z D5,Z e,V] w (.tuple #[Z 0,Z 13]) λf=>f=w:=by
 have B:=Gv x9;by_cases m:cl<0
 ·exact kp
 ·have y:(n:Int)<=cl:=U;exact kp
theorem fG(w:Aa)(x:Nat)(a:Af)(n cap:Nat)(cl li D5 e ln:Int)(V:Ad)(x1:EB w x 1 (Z ln))(x9:EB w x 9 (.slice a n cap))(m:¬cl<0)(y:¬(n:Int)<=cl)(h:li<0\/ln<=li):D7 163 #[Ey x,Z cl,Z li,Z D5,Z e,V] w (.tuple #[Z 0,Z 14]) λf=>f=w:=by
 have M:=Gv x9;by_cases B:li<0
 ·exact kp
 ·have D:ln<=li:=U;exact kp
theorem Pf{l:List Int}{y u:Int}(e:l[j]?=some y):decide (u∈l.take (j+1))=(decide (u∈l.take j) || (y==u)):=by grind [List.take_add_one]
theorem fH(w:Aa)(x g n cap i k nl gB nb cb:Nat)(ab:Af)(D5 pr:Int)(V:Ad)(Ee:List Int)(hi:i<n)(hk:k<nl)(hnb:Ee.length=nb)(zh:nb<=9000000000000)(x1:w.cell? ⟨x,1,none⟩=some (.int .i64 (nl:Int)))(x9:w.cell? ⟨x,9,none⟩=some (.slice (some ⟨g,0,none⟩) n cap))(c1:w.cell? ⟨g,i*3+1,none⟩=some (.slice ab nb cb))(hB:∀(j:Nat) (y:Int),Ee[j]?=some y->ab=some ⟨gB,0,none⟩/\w.cell? ⟨gB,j,none⟩=some (.int .i64 y))(m:D5 ∉ Ee):
  Calls Tryz.prog 163 #[Ey x,.int .i64 (i:Int),.int .i64 (k:Int),.int .i64 D5,.int .i64 pr,V] w λe w'=>e=.returned (.tuple #[.int .i64 0,.int .i64 15])/\w'=w:=by
 have p0:(0:Int)<=i:=by omega
 have p1:(i:Int)<n:=by omega
 have p2:¬(i:Int)<0:=by omega
 have p3:¬(n:Int)<=i:=by omega
 have p4:¬(k:Int)<0:=by omega
 have p5:¬(nl:Int)<=k:=by omega
 have hx:=lt_of_cell x9;have hg:=lt_of_cell c1;have T:=Dx hB;clear hB;go_enter Tryz.func163,Tryz.ntmps163;go_wp2_with fail
 go_loopw [14,15] (λbv iv wr=>∃j:Nat,j<=nb/\iv=.int .i64 (j:Int)/\bv=.bool (decide (D5∈Ee.take j))/\wr=w) (λ_ iv _=>nb-(intOf iv).toNat)
 case atStart=>exact⟨0,AV _,rfl,by simp,rfl⟩
 case round=>
  obtain⟨j,hj,rfl,rfl,O⟩:=hrel;subst O;by_cases X:j<nb
  ·obtain⟨y,Q⟩:∃y,Ee[j]?=some y:=⟨_,Ah (by omega)⟩;have⟨M,cy⟩:=(Dw T) j y Q;subst M;have q0:(0:Int)<=j:=by omega
   have q1:(j:Int)<nb:=by omega
   have B:=Pf (u:=D5) Q;have f:decide (D5∈Ee.take j)=false:=by
    simp;exact λh=>m (CB h)
   have D:decide (D5∈Ee.take (j+1))=false:=by
    simp;exact λh=>m (CB h)
   have aa:(y==D5)=false:=by
    rw[f,D]at B;simpa using B.symm
   rw[f];clear B f;go_wp2_with fail
   go_roundw
   case rel=>exact⟨j+1,by omega,by go_num,by rw[D],BR⟩
   case measure=>simp[intOf];omega
  ·obtain rfl:j=nb:=by omega
   have f:decide (D5∈Ee.take j)=false:=by
    simp;exact λh=>m (CB h)
   rw[f];clear f;go_wp2_with fail
   go_returns;exact⟨rfl,rfl⟩
structure WE(w:Aa)(x g n cap i k nl gB nb cb gV nV cV lb u:Nat)(ab:Af)(Ee:List Int)(Dz rt tr:Int)(l:R.Ln):Prop where
 hi:i<n
 hk:k<nl
 hnb:Ee.length=nb
 zh:nb<=9000000000000
 x1:w.cell? (Y x 1)=some (Z nl)
 x2:w.cell? (Y x 2)=some (Z rt)
 x3:w.cell? (Y x 3)=some (Z tr)
 x7:w.cell? (Y x 7)=some (EJ gV nV cV)
 x9:w.cell? (Y x 9)=some (EJ g n cap)
 c1:w.cell? (Y g (i*3+1))=some (.slice ab nb cb)
 c2:w.cell? (Y g (i*3+2))=some (EJ lb nl nl)
 hB:∀(j:Nat) (y:Int),Ee[j]?=some y->ab=some (Y gB 0)/\w.cell? (Y gB j)=some (Z y)
 hu:u<nV
 hnV:nV<=255
 vk:w.cell? (Y gV (u*3))=some (Z Dz)
 ln:xX w lb k l
 z:∀o,w.frozen? (Y lb o)=false
 mem:((u:Int)+1)∈Ee
 ne:lb≠x/\lb≠g
theorem nu(w:Aa){lb:Nat}{Dz:Int}(hA:WE w x g n cap i k nl gB nb cb gV nV cV lb u ab Ee Dz rt tr l)(T:Int)(V:Ad)(e0:Int)(h0:(e0==0)=false)(A B:Ab)(e:Hid (∀w,D7 155 #[Z Dz,Z T] w (.tuple #[.string A,.string B,Z e0]) λO=>DY w O)):
  D7 163 #[Ey x,Z i,Z k,Z ((u:Int)+1),Z T,V] w (.tuple #[Z 0,Z e0]) λO=>DY w O:=by
 have⟨hi,hk,hnb,zh,x1,x2,x3,x7,x9,c1,c2,hB,hu,hnV,vk,Q,hz,m,ac⟩:=hA;obtain⟨p0,p1,p2,p3,p4,p5,p6,p7⟩:0<=(i:Int)/\(i:Int)<n/\¬(i:Int)<0/\¬(n:Int)<=i/\¬(k:Int)<0/\¬(nl:Int)<=k/\0<=(u:Int)/\(u:Int)<nV:=U;have eu:IntKind.i64.wrap ((u:Int)+1-1)=(u:Int):=Iz;have X:IntKind.i64.wrap (u:Int)=u:=Iz;have⟨hx,hg⟩:=KM x9 c1;have⟨HB,HL,HZ⟩:=Ll hB Q hz;clear hB Q hz;go_enter func163,ntmps163;go_wp2_with fail
 go_loopw [14,15] (λbv iv wr=>∃j:Nat,j<=nb/\iv=Z j/\bv=.bool (decide (((u:Int)+1)∈Ee.take j))/\wr=w) (λ_ iv _=>nb-(intOf iv).toNat)
 case atStart=>exact⟨0,AV _,rfl,Ev,rfl⟩
 case round=>
  obtain⟨j,hj,rfl,rfl,M⟩:=hrel;subst M;by_cases aa:j<nb
  ·exact adJ
  ·obtain rfl:j=nb:=U;have h:decide (((u:Int)+1)∈Ee.take j)=true:=by
    rw[A7 U];simpa using m
   rw[h];clear h;go_wp2_with fail
   refine cm (e _) λw2 f=>?_
   have D:=Dx f;clear f;go_wp2_with fail
   go_returns;exact⟨rfl,D⟩
theorem Q0(w:Aa){lb:Nat}{Dz:Int}(hA:WE w x g n cap i k nl gB nb cb gV nV cV lb u ab Ee Dz rt tr l)(pr:Int)(V:Ad)(e0:Int)(e:Bool)(A B:Ab)(h:Hid (∀w,D7 155 #[Z Dz,Z pr] w (.tuple #[.string A,.string B,Z 0]) λw'=>w'=w))(m:Hid (D7 207 #[.string A,V] w (.bool e) λw'=>DY w w'))(M:(e=false/\e0=4)\/(e=true/\l.DK=1/\e0=17)\/(e=true/\(l.DK==1)=false/\l.D4=999/\e0=11)):
  D7 163 #[Ey x,Z i,Z k,Z ((u:Int)+1),Z pr,V] w (.tuple #[Z 0,Z e0]) λw'=>DY w w':=by
 have⟨hi,hk,hnb,zh,x1,x2,x3,x7,x9,c1,c2,hB,hu,hnV,vk,hL,hz,T,an⟩:=hA;obtain⟨p0,p1,p2,p3,p4,p5,p6,p7⟩:0<=(i:Int)/\(i:Int)<n/\¬(i:Int)<0/\¬(n:Int)<=i/\¬(k:Int)<0/\¬(nl:Int)<=k/\0<=(u:Int)/\(u:Int)<nV:=U;have eu:IntKind.i64.wrap ((u:Int)+1-1)=(u:Int):=Iz;have ae:IntKind.i64.wrap (u:Int)=u:=Iz;have⟨hx,hg⟩:=KM x9 c1;have⟨HB,HL,HZ⟩:=Ll hB hL hz;clear hB hL hz;go_enter func163,ntmps163;go_wp2_with fail
 go_loopw [14,15] (λbv iv wr=>∃j:Nat,j<=nb/\iv=Z j/\bv=.bool (decide (((u:Int)+1)∈Ee.take j))/\wr=w) (λ_ iv _=>nb-(intOf iv).toNat)
 case atStart=>exact⟨0,AV _,rfl,Ev,rfl⟩
 case round=>
  obtain⟨j,hj,rfl,rfl,aa⟩:=hrel;subst aa;by_cases am:j<nb
  ·exact adJ
  ·obtain rfl:j=nb:=U;have Q:decide (((u:Int)+1)∈Ee.take j)=true:=by
    rw[A7 U];simpa using T
   rw[Q];clear Q;have q2:0<=(k:Int):=U;have q3:(k:Int)<nl:=U;go_wp2_with fail
   refine cm (h _) λw2 X=>?_
   rw[X];clear X h;go_wp2_with fail
   refine cm m λw3 f=>?_
   have y9:=(f.cell (p:=Y x 9) hx).trans x9;have y2:=(f.cell (p:=Y g _) hg).trans c2;have⟨l0,l1,⟨ra,rn,rc,l2⟩,l3,l4,l5,l6,l7,l8,l9,l10⟩:=HL.DG f;have⟨aq,ak,al⟩:=Va y9 y2 l0;have D:=Dx (show ∀o,Below _ _ (w3.alloc o) from λo=>f.alloc f.size o);clear f m x1 x2 x3 x7 x9 c1 c2 vk HB HL;rcases M with ⟨O,h2⟩|⟨O,h2,h3⟩|⟨O,h2,h3,h4⟩
   ·subst O h2;go_wp2_with fail
    go_returns;exact⟨rfl,D _⟩
   ·subst O h3;rw[h2]at l1;go_wp2_with fail
    go_returns;exact⟨rfl,D _⟩
   ·subst O h4;rw[h3]at l0;go_wp2_with fail
    go_returns;exact⟨rfl,D _⟩
theorem vu{a b:Aa}(h:DY a.drew b):DY a b:=⟨h.os,h.tape,h.output,h.size,h.block⟩
abbrev vz(W:Aa)(lb k:Nat)(l:R.Ln):World:=((((((((((W.setCell (Y lb (k*11)) (Z l.D4)).setCell (Y lb (k*11+1)) (Z l.DK)).setCell (Y lb (k*11+2)) (.slice none 0 0)).setCell (Y lb (k*11+3)) (Z l.D5)).setCell (Y lb (k*11+4)) (.string l.to)).setCell (Y lb (k*11+5)) (.string (str l.DC))).setCell (Y lb (k*11+6)) (Z l.Ea)).setCell (Y lb (k*11+7)) (.string (str l.EK))).setCell (Y lb (k*11+8)) (Z l.DT)).setCell (Y lb (k*11+9)) (Z l.El)).setCell (Y lb (k*11+10)) (Z l.DW)
theorem ny(w:Aa){lb:Nat}{Dz:Int}(hA:WE w x g n cap i k nl gB nb cb gV nV cV lb u ab Ee Dz rt tr l)(pr:Int)(V:Ad)(A B:Ab)(two out:Ac)(al:World->Prop)(cU:(l.DK==1)=false)(cT:(l.D4==999)=false)(cS:0<=l.D4/\l.D4<=999)(co:two.length+out.length<=100)
  (ac:Hid (∀w,D7 155 #[Z Dz,Z pr] w (.tuple #[.string A,.string B,Z 0]) λh=>h=w)) (ae:Hid (D7 207 #[.string A,V] w (.bool true) λh=>DY w h)) (ak:Hid (∀w,D7 219 #[Z pr] w (.string (str two)) λh=>DY w h)) (ah:Hid (∀W,DY w W->D7 208 #[.string A,V] W (.string (str out)) λh=>DY W h))
  (ad:Hid (∀W,DY w W->D7 165 #[Ey x,Z i,Z k,.bool false] (vz W lb k ⟨l.D4+1,1,[],(u:Int)+1,B,two++out,0,[],0,rt,tr⟩) Ep λh=>al h/\∀b,w.heap.size<=b->b<W.heap.size->h.heap[b]?=W.heap[b]?)):
  D7 163 #[Ey x,Z i,Z k,Z ((u:Int)+1),Z pr,V] w (.tuple #[Z (l.D4+1),Z 0]) λh=>al h:=by
 have⟨hi,hk,hnb,zh,x1,x2,x3,x7,x9,c1,c2,hB,hu,hnV,vk,hL,hz,b6,bV⟩:=hA;have⟨b7,ba⟩:=bV;have bW:=b7.symm;have bX:=ba.symm;have ci:=Gv hL.l0;obtain⟨p0,p1,p2,p3,p4,p5,p6,p7⟩:0<=(i:Int)/\(i:Int)<n/\¬(i:Int)<0/\¬(n:Int)<=i/\¬(k:Int)<0/\¬(nl:Int)<=k/\0<=(u:Int)/\(u:Int)<nV:=U;have eu:IntKind.i64.wrap ((u:Int)+1-1)=(u:Int):=Iz;have cD:IntKind.i64.wrap (u:Int)=u:=Iz;have⟨hx,hg⟩:=KM x9 c1;have⟨HB,HL,HZ⟩:=Ll hB hL hz;clear hB hL hz;go_enter func163,ntmps163;go_wp2_with fail
 go_loopw [14,15] (λbv iv wr=>∃j:Nat,j<=nb/\iv=Z j/\bv=.bool (decide (((u:Int)+1)∈Ee.take j))/\wr=w) (λ_ iv _=>nb-(intOf iv).toNat)
 case atStart=>exact⟨0,AV _,rfl,Ev,rfl⟩
 case round=>
  obtain⟨j,hj,rfl,rfl,c8⟩:=hrel;subst c8;by_cases cR:j<nb
  ·exact adJ
  ·obtain rfl:j=nb:=U;have b4:decide (((u:Int)+1)∈Ee.take j)=true:=by
    rw[A7 U];simpa using b6
   rw[b4];clear b4;have q2:0<=(k:Int):=U;have q3:(k:Int)<nl:=U;have es:IntKind.i64.wrap (l.D4+1)=l.D4+1:=Iz;go_wp2_with fail
   refine cm (ac _) λw2 bf=>?_
   rw[bf];clear bf ac;go_wp2_with fail
   refine cm ae λw3 M=>?_
   have y9:=(M.cell (p:=Y x 9) hx).trans x9;have y2:=(M.cell (p:=Y g _) hg).trans c2;have bz:=HL.DG M;have⟨l0,l1,⟨ra,rn,rc,l2⟩,l3,l4,l5,l6,l7,l8,l9,l10⟩:=bz;have⟨cX,cP,cQ⟩:=Va y9 y2 l0;obtain⟨W4,aa⟩:∃W4,w3.alloc (.cells #[Z l.D4,Z l.DK,.slice ra rn rc,Z l.D5,.string l.to,.string (str l.DC),Z l.Ea,.string (str l.EK),Z l.DT,Z l.El,Z l.DW] 259)=W4:=⟨_,rfl⟩;have O:DY wr W4:=by
    rw[<-aa];exact M.alloc M.size _
   have av:W4.heap[w3.heap.size]?=some (.cells #[Z l.D4,Z l.DK,.slice ra rn rc,Z l.D5,.string l.to,.string (str l.DC),Z l.Ea,.string (str l.EK),Z l.DT,Z l.El,Z l.DW] 259 (0,0)):=by
    rw[<-aa];exact AF w3 _
   have z9:=(O.cell (p:=Y x 9) hx).trans x9;have z2:=(O.cell (p:=Y g _) hg).trans c2;have zs:=EI av 0;have zr:=(O.cell (p:=Y x 2) hx).trans x2;have zt:=(O.cell (p:=Y x 3) hx).trans x3;have⟨aV,aN,bj⟩:=Ll aa O av;have⟨aw,bS,bb⟩:=Va z9 z2 zs;have ca:=M.size;have cp:lb≠w3.heap.size:=U;have c7:w3.heap.size≠lb:=U;clear M ae x1 x2 x3 x7 x9 c1 c2 vk HB aa O av;go_wp2_with fail
   rw[Dw aV];clear y9 y2 l0 l1 l2 l3 l4 l5 l6 l7 l8 l9 l10 aV;go_wp2_with fail
   have b3:∀w,(Op.stringOp .add (str two) (str out)).run prog w=.ok (.string (str (two++out))) w:=λw=>by
    rw[<-Qs];exact C6 w _ _ (by rw[Er,Er];omega)
   go_region_held3 (λh=>h.cell? (Y x 9)=some (EJ g n cap)/\h.cell? (Y g (i*3+2))=some (EJ lb nl nl)/\h.cell? (EN w3 0)=some (Z l.D4)/\h.cell? (Y x 2)=some (Z rt)/\h.cell? (Y x 3)=some (Z tr)) (go_keep) (first|(go_at_call 219;refine(ak _).mono ?_;clear ak;rintro e w5 ⟨rfl,am⟩;have m:=vu am;have a9:=(m.cell (p:=Y x 9) aw).trans z9;have a2:=(m.cell (p:=(Y g (i*3+2))) bS).trans z2;have aq:=(m.cell (p:=EN w3 0) bb).trans zs;have ar:=(m.cell (p:=Y x 2) aw).trans zr;have b1:=(m.cell (p:=Y x 3) aw).trans zt;have az:=Gv a9;have bT:=Gv a2;have be:=Gv aq;have ao:=Dx (aN.trans (m.mono aN.size));have aS:=Dx ((m.block _ bb).trans bj);clear m am)|(go_at_call 208;refine(ah _ ao).mono ?_;clear ah;rintro e w6 ⟨rfl,D⟩;have b9:=(D.cell (p:=Y x 9) az).trans a9;have b2:=(D.cell (p:=(Y g (i*3+2))) bT).trans a2;have bq:=(D.cell (p:=EN w3 0) be).trans aq;have br:=(D.cell (p:=Y x 2) az).trans ar;have bp:=(D.cell (p:=Y x 3) az).trans b1;have X:=Dx (ao.trans (D.mono ao.size));have T:=Dx ((D.block _ be).trans aS);have bL:=HL.DG (Dw X);have⟨l0,l1,⟨d6,d8,d7,l2⟩,l3,l4,l5,l6,l7,l8,l9,l10⟩:=bL;have f:∀o,w6.frozen? (Y lb o)=false:=λo=>(X.frozen (p:=Y lb o) (Gv HL.l0)).trans (HZ o);have f0:=f (k*11);have f1:=f (k*11+1);have f2:=f (k*11+2);have f3:=f (k*11+3);have f4:=f (k*11+4);have f5:=f (k*11+5);have f6:=f (k*11+6);have f7:=f (k*11+7);have f8:=f (k*11+8);have f9:=f (k*11+9);have bt:=f (k*11+10);clear D f))
   have Q:=Dx (ad w6 X);have bU:=Dv (Dw T);clear ad a9 a2 aq ar b1 b9 b2 bq br bp f0 f1 f2 f3 f4 f5 f6 f7 f8 f9 bt l0 l1 l2 l3 l4 l5 l6 l7 l8 l9 l10 z9 z2 zs zr zt HL HZ b3;go_wp2_with fail
   refine cm Q ?_;rintro w7 ⟨hP,b5⟩;have an:=(b5 w3.heap.size ca bU).trans (Dw T);have s7:=EI an 0;have HP:=Dx hP;clear hP b5 an Q T X;go_wp2_with fail
   go_returns;exact⟨rfl,HP⟩
theorem FL{lb:Nat}{l1:R.Ln}{u V V1:Ad}(f:w.heap[lb]?=some (.cells (tab Ui zl).toArray 259 (0,0)))(m:zl[k]?=some (l,V))(h:j<11)(e:Ui (l1,V1)=(Ui (l,V)).set j u):(w.setCell (Y lb (k*11+j)) u).heap[lb]?=some (.cells (tab Ui (zl.set k (l1,V1))).toArray 259 (0,0)):=by
 rw[<-J6 jO zl k j _ _ u m h e];exact Ek f u
theorem FK{b o:Nat}{v:Ad}:DF (λk=>k=b) w (w.setCell (Y b o) v):=by grind [DF.setCell,DF.refl]
theorem RW.sP(h:RW x v F G w)(hc:G.DI[i]?=some c)(f:Tk x v F G w i c g cap z zl)(hl:c.DV[k]?=some l)(B:l.DK=1)(hw:1<l.El):∃v' m,RW x v' m (R.EM G i k) (w.setCell (Y z.2.lb (k*11+9)) (Z (l.El-1)))/\D8 F m w (w.setCell (Y z.2.lb (k*11+9)) (Z (l.El-1))):=by
 have⟨M,D,_⟩:=f.DZ hl U;have e:=(h.wf.cl i c hc).DZ k l hl;have⟨O,Q,T,X,o5,o6⟩:=e.one B;have y:R.EM G i k=R.Eh G i k {l with El:=l.El-1}:=by grind [R.EM,R.FH]
 rw[y];exact h.Qk hc f (l':={l with El:=l.El-1}) ⟨e.D4,λ_=>⟨O,Q,T,X,by simp only;omega,o6⟩⟩ D (FK) (FL f.lb M U rfl)
theorem RW.timeout(h:RW x v F G w)(hc:G.DI[i]?=some c)(e:Tk x v F G w i c g cap z zl)(hl:c.DV[k]?=some l)(Q:l.DK=1)(X:¬1<l.El)(T:l.DW=0):∃O y,RW x O y (R.EM G i k) ((w.setCell (Y z.2.lb (k*11+9)) (Z (l.El-1))).setCell (Y z.2.lb (k*11+1)) (Z 3))/\D8 F y w ((w.setCell (Y z.2.lb (k*11+9)) (Z (l.El-1))).setCell (Y z.2.lb (k*11+1)) (Z 3)):=by
 have⟨B,M,_⟩:=e.DZ hl U;have f:=GG B;have m:=(h.wf.cl i c hc).DZ k l hl;have D:R.EM G i k=R.Eh G i k {l with El:=l.El-1,DK:=3}:=by grind [R.EM,R.FH]
 rw[D];refine h.Qk hc e (l':={l with El:=l.El-1,DK:=3}) ⟨m.D4,λq=>absurd (show (3:Int)=1 from q) Em⟩ M ((FK).trans (FK)) ?_;have s1:=FL (l1:={l with El:=l.El-1}) e.lb B (j:=9) (u:=Z (l.El-1)) U rfl;have s2:=FL (l:={l with El:=l.El-1}) (l1:={l with El:=l.El-1,DK:=3}) s1 (AO f) (j:=1) (u:=Z 3) U rfl;rw[A5]at s2;exact s2
theorem RW.Ga(h:RW x v F G w)(hc:G.DI[i]?=some c)(m:Tk x v F G w i c g cap z zl)(hl:c.DV[k]?=some l)(O:l.DK=1)(ht:¬l.DW=0){w':Aa}(B:w'=((w.setCell (Y z.2.lb (k*11+9)) (Z (l.El-1))).setCell (Y z.2.lb (k*11+10)) (Z (l.DW-1))).setCell (Y z.2.lb (k*11+9)) (Z G.c.Ew)):∃v' D,RW x v' D (R.Eh G i k {l with El:=G.c.Ew,DW:=l.DW-1}) w'/\D8 F D w w':=by
 have⟨M,Q,_⟩:=m.DZ hl U;have e:=GG M;have f:=(h.wf.cl i c hc).DZ k l hl;have⟨T,X,o3,o4,o5,o6⟩:=f.one O;have y:=h.wf.cf;unfold R.GA at y;rw[B];refine h.Qk hc m (l':={l with El:=G.c.Ew,DW:=l.DW-1}) ⟨f.D4,λ_=>⟨T,X,o3,o4,by simp only;omega,by simp only;omega⟩⟩ Q (((FK).trans (FK)).trans (FK)) ?_;have s1:=FL (l1:={l with El:=l.El-1}) m.lb M (j:=9) (u:=Z (l.El-1)) U rfl;have s2:=FL (l:={l with El:=l.El-1}) (l1:={l with El:=l.El-1,DW:=l.DW-1}) s1 (AO e) (j:=10) (u:=Z (l.DW-1)) U rfl;rw[A5]at s2;have s3:=FL (l:={l with El:=l.El-1,DW:=l.DW-1}) (l1:={l with El:=G.c.Ew,DW:=l.DW-1}) s2 (AO e) (j:=9) (u:=Z G.c.Ew) U rfl;rw[A5]at s3;exact s3
end Go.Proofs.YtblomippkddgiaaGreatDoor
