import Derived.Test.YtblomippkddgiaaGreatDoorJ23
set_option maxRecDepth 100000
set_option maxHeartbeats 4000000
namespace Go.Proofs.YtblomippkddgiaaGreatDoor
open Go.Proofs.Tryz
open Go.RowKit
variable {DR lv:Int}{ci ni s:Nat}{o0 o1 o2:Option Addr}{P:Pk}{w:World}
theorem vE(w:Aa)(s:Nat)(P:Pk):
  D7 138 #[pt s,.pointer none,pv P] w Ep λe=>DY w e:=by
 have HB:Hid (∀o,DY w (w.alloc o)):=λo=>F9
 go_enter func138,ntmps138;exact aaJ
theorem aam(w:Aa)(s b:Nat)(e st:Int)(P:Pk)(f:EB w b 3 (Z e))(j:EB w b 5 (Z st))(hn:¬e=P.D4\/¬st=2):
  D7 138 #[pt s,pt b,pv P] w Ep λg=>DY w g:=by
 have HB:Hid (∀o,DY w (w.alloc o)):=λo=>F9
 have hl:=Gv f;by_cases h:e=P.D4
 ·have e1:(e != P.D4)=false:=by simpa using h
  have e2:(st != 2)=true:=Fy;clear hn h;go_enter func138,ntmps138;exact aaJ
 ·have e1:(e != P.D4)=true:=by simpa using h
  clear hn h;go_enter func138,ntmps138;exact aaJ
theorem oI(w:Aa)(s b:Nat)(n at':Int)(S:Ab)(g:Bool)(P:Pk)(h:World->Prop)(h3:w.cell? (Y b 3)=some (Z P.D4))(h5:w.cell? (Y b 5)=some (Z 2))(h7:w.cell? (Y b 7)=some (.string S))(h8:w.cell? (Y b 8)=some (Z at'))(z8:w.frozen? (Y b 8)=false)(ah:0<=at'/\at'<=100)
  (H187:Hid (∀w,D7 187 #[.string S] w (Z n) λf=>f=w))
  (B:Hid (∀y,DY w y->D7 198 #[pt b] y (.bool g) λf=>f=y.drew))
  (M:Hid (¬P.off=n\/¬P.Ez=at'\/g=true->∀y,DY w y->h y))
  (Q:Hid (P.off=n->P.Ez=at'->g=false->∀y,Below w.heap.size (w.setCell (Y b 8) (Z (at'+1))) y->D7 137 #[pt s,pt b] y Ep λf=>h f)):
  D7 138 #[pt s,pt b,pv P] w Ep λf=>h f:=by
 have HB:Hid (∀o,DY w (w.alloc o)):=λo=>F9
 have hl:=Gv h3;have e1:(P.D4 != P.D4)=false:=Ev;have ew:IntKind.i64.wrap (at'+1)=at'+1:=Iz;have HF:Hid (∀m,E3 w w (Pq P) ((w.alloc (Pq P)).drewN m)):=λm=>⟨Ed (HB _) m,AF w _⟩
 have HC:Hid (∀W,E3 w w (Pq P) W->W.cell? (Y b 7)=some (.string S)/\W.cell? (Y b 8)=some (Z at')/\W.frozen? (Y b 8)=false/\Rx W w.heap.size P/\b<W.heap.size/\(∀V,DY w V->True)):=λW hW=>⟨(hW.1.cell (p:=Y b 7) hl).trans h7,(hW.1.cell (p:=Y b 8) hl).trans h8,(hW.1.frozen (p:=Y b 8) hl).trans z8,VF hW.2,Ai hl hW.1.size,λ_ _=>trivial⟩
 have HT:Hid (∀W,E3 w w (Pq P) W->Below w.heap.size (w.setCell (Y b 8) (Z (at'+1))) (W.setCell (Y b 8) (Z (at'+1))).drew.drew):=λW hW=>by
  refine⟨hW.1.os,hW.1.tape,hW.1.output,by simpa using hW.1.size,λj hj=>?_⟩;by_cases e:j=b
  ·subst e;show (W.setCell (Y j 8) (Z (at'+1))).heap[j]?=_;simp only[World.setCell,Cv,CQ];rw[hW.1.block j hj]
  ·show (W.setCell (Y b 8) (Z (at'+1))).heap[j]?=_;rw[AU _ _ _ _ e,AU _ _ _ _ e];exact hW.1.block j hj
 have⟨kd,cl,li,ln,ak,u,pa,o,pl,Ef⟩:=P;dsimp only[pv,cv,Pq]at *;by_cases D:o=n
 ·have n1:(o != n)=false:=by simpa using D
  by_cases O:pa=at'
  ·have n2:(pa != at')=false:=by simpa using O
   cases g with
   |true=>
    have HQ1:=Dx (M (Am (Am rfl)));clear M Q D O;go_enter func138,ntmps138;go_wp2_with fail
    go_quiet (fail);go_wp2_with fail
    refine EE _ (HF _) ?_;intro W hW;have⟨d7,d8,y8,⟨g0,g1,g2,g3,g4,g5,g6,g7,g8,g9⟩,hlW,_⟩:=HC W hW;have⟨T,HBW⟩:=FU (B W.drew hW.1.drew) hW.1.drew.drew;clear hW HF HC HT;go_region_held3 (λf=>f.cell? (Y b 7)=some (.string S)/\f.cell? (Y b 8)=some (Z at')/\f.cell? (EN w 6)=some (Z pa)/\f.cell? (EN w 7)=some (Z o)) (go_keep) (first|(go_at_call 187;refine cs (H187 _) ?_)|(go_at_call 198;refine cs T ?_))
    all_goals
     go_wp2;go_returns;exact⟨rfl,HQ1 _ (Dw HBW)⟩
   |false=>
    have HQ1:=Dx (Q D O rfl);clear M Q D O;go_enter func138,ntmps138;go_wp2_with fail
    go_quiet (fail);go_wp2_with fail
    refine EE _ (HF _) ?_;intro W hW;have⟨d7,d8,y8,⟨g0,g1,g2,g3,g4,g5,g6,g7,g8,g9⟩,hlW,_⟩:=HC W hW;have⟨T,X⟩:=FU (B W.drew hW.1.drew) (HT W hW);clear hW HF HC HT;go_region_held3 (λf=>f.cell? (Y b 7)=some (.string S)/\f.cell? (Y b 8)=some (Z at')/\f.cell? (EN w 6)=some (Z pa)/\f.cell? (EN w 7)=some (Z o)) (go_keep) (first|(go_at_call 187;refine cs (H187 _) ?_)|(go_at_call 198;refine cs T ?_))
    all_goals
     go_wp2_with (first|(go_at_call 137;refine cm (HQ1 _ X) λw3 aa=>?_))
     go_returns;exact⟨rfl,aa⟩
  ·have n2:(pa != at')=true:=by simpa using O
   have HQ1:=Dx (M (Am (Aj O)));clear M Q D O;exact aft
 ·have n1:(o != n)=true:=by simpa using D
  have HQ1:=Dx (M (Aj D));clear M Q D;exact aft
theorem oR(g:EB w s (7+ci) (Z lv))(e:P.DJ=(ci:Int))(y:ci<3)(f:P.DR<lv):
  D7 85 #[pt s,pv P] w Ep λm=>DY w m:=by
 have HB:Hid (∀o,DY w (w.alloc o)):=λo=>F9
 have hl:=Gv g;have⟨B,cl,h,ln,j,u,pa,o,D,Ef⟩:=P;dsimp only[pv]at *;subst e;have M:0<=(ci:Int):=U;have O:(ci:Int)<3:=U;have e1:decide (h<lv)=true:=by simpa using f
 go_enter func85,ntmps85;exact aaJ
theorem ig{old:Af}(e:World->Prop)(h7:EB w s (7+ci) (Z P.DR))(X:EB w s (10+ci*3+ni) (.pointer old))(O:P.DJ=(ci:Int))(Q:P.DZ=(ni:Int))(h3:ci<3)(aa:ni<3)
  (m:Hid (P.Dz=6->∀f,DY w f->D7 138 #[pt s,.pointer old,pv P] f Ep λD=>e D))
  (g:Hid (P.Dz=1\/P.Dz=3->∀f,DY w f->D7 139 #[pt s,.pointer old,pv P] f Ep λD=>e D))
  (y:Hid (¬(P.Dz=6\/P.Dz=1\/P.Dz=3)->∀f,DY w f->e f)):
  D7 85 #[pt s,pv P] w Ep λD=>e D:=by
 have HB:Hid (∀o n,DY w ((w.alloc o).drewN n)):=λo n=>Ed F9 n
 have hl:=Gv h7;have⟨j,cl,T,ln,ac,u,pa,o,pl,Ef⟩:=P;dsimp only[pv]at *;subst O Q;obtain⟨q1,q2,q3,q4⟩:0<=(ci:Int)/\(ci:Int)<3/\0<=(ni:Int)/\(ni:Int)<3:=U;have e1:decide (T<T)=false:=Ev;by_cases h:j=6
 ·have HQ:=Dx (m h);subst h;clear m g y;go_enter func85,ntmps85;go_wp2_with fail
  go_quiet (fail);go_wp2_with fail
  go_quiet (fail);go_wp2_with fail
  go_quiet (fail);go_wp2_with (first|(go_at_call 138;refine cm (HQ _ (HB _ _)) λw3 hw3=>?_))
  go_returns;exact⟨rfl,hw3⟩
 ·have n6:(j==6)=false:=by simpa using h
  by_cases B:j=1
  ·have HQ:=Dx (g (Aj B));subst B;clear m g y h;exact afL
  ·have n1:(j==1)=false:=by simpa using B
   by_cases M:j=3
   ·have HQ:=Dx (g (Am M));subst M;clear m g y h B;exact afL
   ·have n3:(j==3)=false:=by simpa using M
    have HQ:=Dx (y U);clear m g y h B M;go_enter func85,ntmps85;go_wp2_with fail
    go_quiet (fail);go_wp2_with fail
    go_quiet (fail);go_wp2_with fail
    go_quiet (fail);go_wp2;go_returns;exact⟨rfl,HQ _ (HB _ _)⟩
abbrev GF(w:Aa)(s ci:Nat)(DR:Int):World:=(((w.setCell (Y s (7+ci)) (Z DR)).setCell (Y s (10+ci*3)) (.pointer none)).setCell (Y s (10+ci*3+1)) (.pointer none)).setCell (Y s (10+ci*3+2)) (.pointer none)
theorem cY{o:Obj}{m:Nat}(f:s<w.heap.size):E3 w (GF w s ci DR) o (GF ((w.alloc o).drewN m) s ci DR).drew:=by
 have e:GF (w.alloc o) s ci DR=(GF w s ci DR).alloc o:=by
  unfold GF;rw[Ck o s _ _ f,Ck o s _ _ (by simpa using f),Ck o s _ _ (by simpa using f),Ck o s _ _ (by simpa using f)]
 have e2:(GF ((w.alloc o).drewN m) s ci DR).drew=(((GF w s ci DR).alloc o).drewN m).drew:=by
  rw[<-e];rfl
 rw[e2];refine⟨(Ed ((AA _ _).alloc Ev _) _).drew,?_⟩;have:=AF (GF w s ci DR) o;simpa using this
theorem dU(d0:EB w s (10+ci*3) (.pointer o0))(d1:EB w s (10+ci*3+1) (.pointer o1))(d2:EB w s (10+ci*3+2) (.pointer o2))(hn:ni<3):(GF w s ci DR).cell? (Y s (10+ci*3+ni))=some (.pointer none):=by
 have ne:∀{a b:Nat},a≠b->((Y s a):Addr)≠(Y s b):=λh q=>h (by cases q;rfl)
 grind [World.cell?_setCell_other,World.cell?_setCell_same]
theorem oQ(e:World->Prop)(h7:EB w s (7+ci) (Z lv))(d0:EB w s (10+ci*3) (.pointer o0))(d1:EB w s (10+ci*3+1) (.pointer o1))(d2:EB w s (10+ci*3+2) (.pointer o2))(z:∀j,w.frozen? (Y s j)=false)(X:P.DJ=(ci:Int))(ab:P.DZ=(ni:Int))(h3:ci<3)(T:ni<3)(aa:lv<P.DR)
  (B:Hid (P.Dz=6->∀f,Below w.heap.size (GF w s ci P.DR) f->D7 138 #[pt s,.pointer none,pv P] f Ep λO=>e O))
  (g:Hid (P.Dz=1\/P.Dz=3->∀f,Below w.heap.size (GF w s ci P.DR) f->D7 139 #[pt s,.pointer none,pv P] f Ep λO=>e O))
  (D:Hid (¬(P.Dz=6\/P.Dz=1\/P.Dz=3)->∀f,Below w.heap.size (GF w s ci P.DR) f->e f)):
  D7 85 #[pt s,pv P] w Ep λO=>e O:=by
 have hl:=Gv h7;have HBF:Hid (∀m,E3 w (GF w s ci P.DR) (Pq P) (GF ((w.alloc (Pq P)).drewN m) s ci P.DR).drew):=λm=>cY hl
 have HW:Hid (∀V,E3 w (GF w s ci P.DR) (Pq P) V->Rx V w.heap.size P/\EB V s (10+ci*3+ni) (.pointer none)/\∀m,Below w.heap.size (GF w s ci P.DR) (V.drewN m)):=λV hV=>⟨VF hV.2,(hV.1.cell (p:=(Y s (10+ci*3+ni))) hl).trans (dU d0 d1 d2 T),λm=>Ed hV.1 m⟩
 have⟨y,cl,li,ln,ae,u,pa,o,pl,Ef⟩:=P;dsimp only[pv,Pq,GF]at *;subst X ab;obtain⟨q1,q2,q3,q4⟩:0<=(ci:Int)/\(ci:Int)<3/\0<=(ni:Int)/\(ni:Int)<3:=U;have e1:decide (li<lv)=false:=Fy;have e2:decide (lv<li)=true:=by simpa using aa
 by_cases h:y=6
 ·have HQ:=Dx (B h);subst h;clear B g D;go_enter func85,ntmps85;go_wp2_with fail
  go_quiet (fail);go_wp2_with fail
  go_quiet (fail);go_wp2_with fail
  go_region
  go_wp2_with fail
  go_region
  refine EE _ (HBF _) ?_;intro V hV;have hw2:=HW V hV;have⟨⟨g0,g1,g2,g3,g4,g5,g6,g7,g8,g9⟩,f1,f2⟩:=hw2;have HB:=Dx f2;clear hV f2 HW HBF;go_wp2_with fail
  go_quiet (fail);go_wp2_with (first|(go_at_call 138;refine cm (HQ _ (HB _)) λw3 hw3=>?_))
  go_returns;exact⟨rfl,hw3⟩
 ·have n6:(y==6)=false:=by simpa using h
  by_cases M:y=1
  ·have HQ:=Dx (g (Aj M));subst M;clear B g D h;exact afq
  ·have n1:(y==1)=false:=by simpa using M
   by_cases Q:y=3
   ·have HQ:=Dx (g (Am Q));subst Q;clear B g D h M;exact afq
   ·have n3:(y==3)=false:=by simpa using Q
    have HQ:=Dx (D U);clear B g D h M Q;go_enter func85,ntmps85;go_wp2_with fail
    go_quiet (fail);go_wp2_with fail
    go_quiet (fail);go_wp2_with fail
    go_region
    go_wp2_with fail
    go_region
    refine EE _ (HBF _) ?_;intro V hV;have hw2:=HW V hV;have⟨⟨g0,g1,g2,g3,g4,g5,g6,g7,g8,g9⟩,f1,f2⟩:=hw2;have HB:=Dx f2;clear hV f2 HW HBF;go_wp2_with fail
    go_quiet (fail);go_wp2;go_returns;exact⟨rfl,HQ _ (HB _)⟩
end Go.Proofs.YtblomippkddgiaaGreatDoor
namespace Go.Proofs.YtblomippkddgiaaGreatDoor.R
open Go.Proofs.Tryz
theorem Inv.S7{M:Bk}{G:Wd}(h:Inv M G){p:Pk}{d:Cd}{i:Nat}(ha:Lm M G p d i){r:Sn}(Q:G.DN[i]?=some r)(T:¬r.D4=p.D4)(w:¬p.D4<r.D4)(hal:Jt G.Dy p.D5=true):Inv M (R.EA G i {Ic with D4:=p.D4,D5:=p.D5,DK:=1}):=by
 have⟨_,_,_,_,O,_,B,D,_⟩:=ha.right;have f:=ha.key;have g:=(h.bk _ d ha.Gw).1;have y:=SX g;have Lp:=h.wf.sv;have⟨_,_,j,_,_,m,_⟩:=ha.right;have u:=h.EA (r':={Ic with D4:=p.D4,D5:=p.D5,DK:=1}) Q (by simp only;omega) ⟨λe=>by simp only at e;omega,by simp only;omega,λ_=>⟨by rw[<-ha.DR];exact j.1,m,Ev⟩,by simp[Ic],Ev,Ev,by simp[Ic]⟩ (λ_=>⟨d,by rw[<-f];exact ha.Gw,ha.D5,λ_=>⟨by simp[Ic],by simp only[Ic];omega⟩,Ev,λ_=>?_,Ev⟩)
 ·exact u
 exact afN
end Go.Proofs.YtblomippkddgiaaGreatDoor.R
namespace Go.Proofs.YtblomippkddgiaaGreatDoor
open Go.Proofs.Tryz
open Go.RowKit
variable {F F':D9}{N N' b i k:Nat}{P:Pk}{p:Pl}{M:R.Bk}{d:R.Cd}{G G':R.Wd}{t:Tw}{w w1 w2:World}
def Ks(P:Pk):R.Sn:={R.Ic with D4:=P.D4,D5:=P.D5,DK:=1}
def adm(P:Pk):PR:=⟨P.DJ,P.DR,P.DZ,P.D4,P.D5,0,[],[],0,0,0⟩
theorem LW.tq{W:Aa}(h:LW p F G w)(B:R.Lm M G P d i)(g:Made w p.s (IW p.n p.nm p.t G.c G.DX G.DN) i P b W):
  LW {p with t:=p.t.put i b} (λk=>F k\/k=b) (R.EA G i (Ks P)) W/\Yd {p with t:=p.t.put i b} (R.EA G i (Ks P)) W i (Ks P) (adm P)/\D8 F (λk=>F k\/k=b) w W:=by
 have y:=B.lt;have f:=B.key;simp only[R.JD,R.Key.mk.injEq]at f;have⟨_,_,D,_,aa,Q,_⟩:=B.right;have j:(Ks P).D4≠0:=by show P.D4≠0;omega
 have hrel:PT i (G.DX.getD (i / 3) 0) (Ks P) (adm P):=⟨f.1,f.2.1,f.2.2.1,rfl,rfl,rfl,λ_=>rfl,λe=>by simp[Ks]at e,rfl,λe=>by simp[Ks,R.Ic]at e⟩;have O:R.Tm (G.DX.getD (i / 3) 0) (Ks P):=⟨λe=>absurd e j,by show 0<=P.D4/\P.D4<=999;omega,λ_=>⟨by rw[<-B.DR];exact D.1,Q,by simp[Ks]⟩,by simp[Ks,R.Ic],by simp[Ks],by simp[Ks],by simp[Ks,R.Ic]⟩;have m:W.heap[b]?=some (.cells (adm P).cells.toArray 147 (0,0)):=g.DZ;have hs:=h.Hd.S7 h.lt h.GQ.sl y j g.ge g.keep g.cells m hrel;have X:=GD.one h.Hd.bs Em;have T:=NF h.GQ O;have q:=h.OW hs g.keep X (λ_ r=>Aj r) (λk hk=>by
  rcases hk with hk|rfl
  ·exact Ai (h.lt k hk) g.keep.size
  ·exact(AB.1 g.DZ).1) (PN h.wf i (Ks P)) T (λi c _ u=>rfl)
 refine⟨q,⟨?_,j,?_,hrel⟩,g.keep.mono (λk _ e=>by rw[e];exact h.Hd.Fw.1),λk hk=>?_⟩
 ·show (G.DN.set i (Ks P))[i]?=_;rw[Bf,Ay rfl,Ay (by rw[h.GQ.sl];exact y)]
 ·show W.heap[(p.t.put i b).ql i]?=_;simp only[SP.put,CQ];exact m
 ·rcases hk with hk|rfl
  ·exact Aj hk
  ·exact Am g.ge
theorem Ox(t:SP)(DN:List R.Sn)(n nm:Nat)(c:R.Cf)(DX:List Int)(hi:i<9):(IW n nm t c DX DN)[10+i]?=some (Gh t DN i):=by
 exact abw
theorem M8(t:SP)(DN:List R.Sn)(i:Nat):∃o,Gh t DN i=.pointer o:=by
 unfold Gh;split;all_goals grind
theorem zi{DN:List R.Sn}(hl:DN.length=9)(f:∀r∈DN,0<=r.D4):(idx DN).length=R.cnt DN:=by
 obtain⟨a0,a1,a2,a3,a4,a5,a6,a7,a8,rfl⟩:∃a0 a1 a2 a3 a4 a5 a6 a7 a8,DN=[a0,a1,a2,a3,a4,a5,a6,a7,a8]:=by
  match DN,hl with
  |[a0,a1,a2,a3,a4,a5,a6,a7,a8],_=>exact⟨a0,a1,a2,a3,a4,a5,a6,a7,a8,rfl⟩
 have q:∀x:R.Sn,0<=x.D4->decide (x.D4≠0)=decide (0<x.D4):=λx g=>by
  grind
 have e:(idx [a0,a1,a2,a3,a4,a5,a6,a7,a8]).map (λi=>([a0,a1,a2,a3,a4,a5,a6,a7,a8][i]?).getD R.Ic)=[a0,a1,a2,a3,a4,a5,a6,a7,a8].filter λx=>decide (x.D4≠0):=by
  have:[a0,a1,a2,a3,a4,a5,a6,a7,a8]=(List.range 9).map (λi=>([a0,a1,a2,a3,a4,a5,a6,a7,a8][i]?).getD R.Ic):=rfl;conv=>rhs;rw[this]
  rw[List.filter_map];rfl
 grind [R.cnt,List.filter_congr]
theorem LW.agh(h:LW p F G w):ET 71 #[ptr p.s] w λe g=>∃a cap,e=.returned (.slice a (R.FE G) cap)/\DY w g:=by
 refine h.Hd.rem.mono ?_;rintro e g ⟨O,rfl,f,m⟩;rw[UB,AX]at f;rw[zi h.GQ.sl (λr u=>by
  have⟨k,hk⟩:=Bp.1 u;exact(h.GQ.sn k r hk).D4.1)]at f
 have⟨a,c,j⟩:=Fa f;subst j;exact⟨a,c,rfl,m⟩
theorem mr(w:Aa)(b:Nat)(s:Ac)(a:Int)(m:s.length<=1000)(h:w.cell? (Y b 7)=some (.string (str s)))(j:w.cell? (Y b 8)=some (Z a)):
  D7 198 #[ptr b] w (.bool (decide (a=R.DL s-1))) λe=>e=w.drew:=by
 have g:=Dx (λw=>IC s w U);have hn:0<=R.DL s/\R.DL s<=1000:=by unfold R.DL;omega
 generalize str s=SM at *;generalize R.DL s=N at *;have f:IntKind.i64.wrap (N-1)=N-1:=Iz;go_enter func198,ntmps198;go_wp2_with fail
 go_region_held3 (λe=>e.cell? (Y b 7)=some (.string SM)/\e.cell? (Y b 8)=some (Z a)) (go_keep) (first
  |(go_at_call 187;refine cs (g _) ?_))
 all_goals
  go_wp2
  go_ret
  exact⟨by
   have:(a==N-1)=decide (a=N-1):=by rw[BH];simp
   rw[this];rfl,rfl⟩
def NM(p:Pl)(F:D9)(w:Aa)(G:R.Wd)(w':Aa):Prop:=∃t F',LW {p with t:=t} F' G w'/\D8 F F' w w'
theorem NM.of{w':Aa}(h:LW p F' G w')(e:D8 F F' w w'):NM p F w G w':=⟨p.t,F',h,e⟩
def Zm(G:R.Wd)(i:Nat)(r:R.Sn)(P:Pk):R.Wd:=if R.Js G P.D5=false then R.G8 G P 7 0 2 else if P.Dz=3\/P.Ez≠0 then G else if r.D4=0/\G.c.FF<=(R.FE G:Int) then R.G8 G P 7 1 2 else R.Hl (R.EA G i (Ks P)) i P
theorem LW.aeX(h:LW p F G w)(hI:R.Inv M G)(ae:R.EP G){r:R.Sn}(hr:G.DN[i]?=some r)(B:R.Lm M G P d i)(hk:(P.Dz=1/\P.off=R.DL d.J9/\P.Ef=R.EY d.J9 P.Ez)\/P.Dz=3)(hs:¬r.D4=P.D4)(ad:¬P.D4<r.D4):
  D7 199 #[ptr p.s,Gh p.t G.DN i,pv P] w Ep λw'=>NM p F w (Zm G i r P) w':=by
 have ar:=B.lt;have ah:=B.right;have⟨_,aq,_,av,_⟩:=ah;have⟨o,aw⟩:=M8 p.t G.DN i;have hL:Gh p.t G.DN i=.pointer none\/∃b,Gh p.t G.DN i=pt b:=by grind [Gh]
 have y:Gh p.t G.DN i=if r.D4=0 then .pointer none else ptr (p.t.ql i):=by
  unfold Gh;rw[hr];rfl
 have D:∀g,DY w g->D7 233 #[pt p.s,Z P.D5] g (.bool (R.Js G P.D5)) λw'=>w'=g:=λg hb=>(h.DG hb).Fj P.D5
 unfold Zm;cases hal:R.Js G P.D5 with
 |false=>
  rw[Ay rfl];rw[hal]at D;refine tX w p.s _ hL P _ D (λg hb=>?_);refine cm ((h.DG hb).XG B.right (Aj rfl)) ?_;exact wJ
 |true=>
  rw[Ao Ev];rw[hal]at D;by_cases f:P.Dz=3\/P.Ez≠0
  ·rw[Ay f];exact tZ w p.s _ hL P _ f D (λg hb=>NM.of (h.DG hb) (D8.D6 F hb))
  ·rw[Ao f];have u:¬P.Dz=3:=λq=>f (Aj q)
   have O:P.Ez=0:=by grind
   have s4:=h.Hd.cell 4 _ rfl;have T:P.DJ=(P.DJ.toNat:Int):=U;have X:P.DZ=(P.DZ.toNat:Int):=U;have ac:=B.i.symm;have j:(IW p.n p.nm p.t G.c G.DX G.DN)[10+(3*P.DJ.toNat+P.DZ.toNat)]?=some (.pointer o):=by grind [Ox]
   have hG:∀Q W,Made w p.s (IW p.n p.nm p.t G.c G.DX G.DN) (3*P.DJ.toNat+P.DZ.toNat) P Q W->D7 236 #[pt p.s,pt Q,pv P] W Ep λw'=>NM p F w (R.Hl (R.EA G i (Ks P)) i P) w':=λQ W hm=>by
    rw[ac]at hm;have⟨q1,q2,q3⟩:=h.tq B hm;have aa:=hI.S7 B hr hs ad (by simpa [R.Js,R.Jt] using hal);have e1:ptr (({p with t:=p.t.put i Q}:Pl).t.ql i)=pt Q:=by simp[SP.put]
    rcases hk with ⟨k1,k2,k3⟩|k1
    ·have q4:=q1.jF aa q2 rfl (B.yE rfl) k1 k2 k3 rfl;rw[e1]at q4;refine cm q4 ?_;rintro w' ⟨F',m1,m2⟩;refine⟨rfl,p.t.put i Q,F',?_,q3.trans m2⟩
     grind [R.EA,Ks,R.F7,R.EP.DN,R.Hl]
    ·exact absurd k1 u
   by_cases h0:r.D4=0
   ·rw[y,Ay h0];have hM:∀g,DY w g->ET 71 #[pt p.s] g λe w'=>∃a cap,e=.returned (.slice a (R.FE G) cap)/\DY g w':=λg hb=>(h.DG hb).agh
    by_cases m:G.c.FF<=(R.FE G:Int)
    ·rw[Ay ⟨h0,m⟩];have ab:(R.FE G:Int)=G.c.FF:=by grind [R.FE,R.cnt,R.EP]
     refine tY w p.s (R.FE G) G.c.FF P _ s4 ab u O D hM (λg hb=>?_);refine cm ((h.DG hb).XG B.right (Am rfl)) ?_;exact wJ
    ·rw[Ao (λq=>m q.2)];exact ug w p.s (R.FE G) P.DJ.toNat P.DZ.toNat G.c.FF _ P _ h.Hd.bs o j T X U U u O s4 U hM D hG
   ·rw[y,Ao h0,Ao (λq=>h0 q.1)];exact uf w p.s (p.t.ql i) P.DJ.toNat P.DZ.toNat _ P _ h.Hd.bs o j T X U U u O D hG
theorem LW.aeK(h:LW p F G w){r:R.Sn}(hr:G.DN[i]?=some r)(ak:1<=P.D4):
  D7 138 #[ptr p.s,Gh p.t G.DN i,pv P] w Ep λT=>NM p F w (if r.D4=P.D4/\r.DK=3/\P.off=R.DL r.DU/\P.Ez=r.at'/\r.at'<R.DL r.DU-1 then R.JF (R.EA G i {r with at':=r.at'+1}) i else G) T:=by
 have O:Gh p.t G.DN i=if r.D4=0 then .pointer none else ptr (p.t.ql i):=by
  unfold Gh;rw[hr];rfl
 rw[O];by_cases h0:r.D4=0
 ·rw[Ay h0,Ao U];refine cm (vE w p.s P) λT hb=>?_
  exact xf
 ·rw[Ao h0];obtain⟨y,u,_⟩:=h.q hr h0;have f:=u.rel;have g:=h.GQ.sn i r hr;obtain⟨_,_,_,c3,_,c5,_,Q,X,_⟩:=X8 u.blk;rw[f.D4]at c3;rw[f.DK]at c5;by_cases m:¬r.D4=P.D4\/¬r.DK-1=2
  ·rw[Ao U];refine cm (aam w p.s (p.t.ql i) r.D4 (r.DK-1) P c3 c5 m) λT hb=>?_
   exact xf
  ·have e1:=Decidable.byContradiction λq=>m (Aj q)
   have e3:r.DK=3:=by
    have:r.DK-1=2:=Decidable.byContradiction λq=>m (Am q)
    omega
   obtain⟨b1,b2,b3,b4⟩:=g.MY e3;obtain⟨B,Hg⟩:=f.MY e3;rw[B]at Q;rw[Hg]at X;rw[e1]at c3;rw[e3]at c5;have D:=Gv Q;have ah:=R.IV (s:=r.DU) U;refine oI w p.s (p.t.ql i) (R.DL r.DU) r.at' (str r.DU) (decide (r.at'=R.DL r.DU-1)) P _ c3 c5 Q X (Eb u.blk) U (λw=>IC r.DU w U) (λwa hb=>?_) (λq wa hb=>?_) (λq1 q2 q3 wa hb=>?_)
   ·exact mr wa _ r.DU r.at' U ((hb.cell (p:=⟨p.t.ql i,7,none⟩) D).trans Q) ((hb.cell (p:=⟨p.t.ql i,8,none⟩) D).trans X)
   ·rw[Ao (by
     rintro ⟨_,_,x3,x4,x5⟩;rcases q with q|q|q
     ·exact q x3
     ·exact q x4
     ·have:=Cs q;omega)]
    exact NM.of (h.DG hb) (D8.D6 F hb)
   ·have ae:=of_decide_eq_false q3;rw[Ay ⟨e1,e3,q1,q2,U⟩];obtain⟨m1,m0,m2⟩:=h.Oy (r':={r with at':=r.at'+1}) (y':={y with at':=r.at'+1}) u u.ne (Eg _) (Kj (j:=8) (v:=Z (r.at'+1)) u.blk rfl) ⟨f.DJ,f.DR,f.DZ,f.D4,f.D5,f.DK,f.Gn,λ_=>⟨B,rfl⟩,f.El,f.DW⟩ ⟨λe=>absurd e u.ne,g.D4,g.some,g.Lu,g.El,λ_=>⟨b1,b2,by simp only;omega,by simp only;omega⟩,g.E1⟩;have aa:(w.setCell ⟨p.t.ql i,8,none⟩ (Z (r.at'+1))).heap.size=w.heap.size:=Ev;rw[<-aa]at hb;refine cm ((m1.DG hb).tell (m0.DG hb) e3) ?_;rintro T ⟨F',k1,k2⟩;exact⟨rfl,NM.of k1 ((m2.trans (D8.D6 F hb)).trans k2)⟩
abbrev Tw.val(t:Tw):Value:=.agg #[ptr t.p.x,Ey t.x]
theorem Bn.le(h:Bn N G)(e:N<=N'):Bn N' G:=λc hc=>Br (h c hc) e
theorem Bn.sm(h:Bn N G)(g:R.Sm G G'):Bn N G':=λc hc=>by
 have⟨i,hi⟩:=Bp.1 hc;have⟨c0,e,_,f,_⟩:=g.cl.each i c hi;rw[f];exact h c0 (Ap e)
theorem Bn.Eh(h:Bn N G)(i k:Int)(l:R.Ln):Bn N (R.Eh G i k l):=λc hc=>by
 have⟨j,e⟩:=Bp.1 hc;unfold R.Eh at e;simp only[Df]at e;cases hq:G.DI[j]? with
 |none=>rw[hq]at e;cases e
 |some c0=>
  rw[hq]at e;have f:=h c0 (Ap hq);obtain rfl:=Option.some.inj e;split<;>exact f
theorem Bn.call(h:Bn N G)(cl li D5 e:Int)(arg:List R.It):Bn N (R.Gc G cl li D5 e arg).2:=by
 unfold R.Gc;split
 ·exact h
 split
 ·exact h
 split
 ·exact h
 split
 ·exact h
 split
 ·exact h
 simp only;split
 ·exact h
 split
 ·exact h
 exact(h.Eh _ _ _).sm (R.Sm.piece _ _ _ _)
theorem Bn.export(h:Bn N G)(name:Ac)(Dz:Int):Bn N (R.E4 G name Dz).2:=by
 unfold R.E4;split
 ·exact h
 split
 ·exact h
 split
 ·split
  ·exact h
  split<;>exact h
 ·split<;>exact h
theorem Bn.Iy(h:Bn N G)(name:Ac):Bn N (R.Fb G name).2:=by
 unfold R.Fb;split<;>exact h
theorem Bn.import(h:Bn N G)(cl:Int)(name:Ac):Bn (N+1) (R.FV G cl name).2:=by
 unfold R.FV;split
 ·exact h.le U
 split
 ·exact h.le U
 ·intro c hc;have⟨j,e⟩:=Bp.1 hc
  grind [Bn]
theorem Bn.drop(h:Bn N G)(i:Int):Bn N (R.JM G i).2:=by
 unfold R.JM;split<;>exact h
theorem Bn.copy(h:Bn N G)(i:Int):Bn N (R.JA G i).2:=by grind [Bn,R.JA]
theorem Bn.Sf(h:Bn N G)(i a b:Int):Bn N (R.Jz G i a b).2:=by grind [Bn,R.Jz]
theorem Bd.tick(h:Bd N G):Bd N (R.Ni G):=⟨h.b.sm (R.Sm.tick G),h.iv.imp λ_ q=>q.tick,h.rm.tick⟩
theorem Bd.serve(h:Bd N G):Bd N (R.FQ G).2:=by
 have⟨M,q⟩:=h.iv;exact⟨h.b.sm (R.Sm.serve q),⟨M,q.FQ⟩,h.rm.serve⟩
theorem Bd.Ki(h:Bd N G)(i:Int):Bd N (R.Fv G i).2:=⟨h.b.sm (R.Sm.Ki G i),h.iv.imp λ_ q=>q.Ki i,by obtain⟨M,q⟩:=h.iv;exact h.rm.Ki q i⟩
theorem Bd.call(h:Bd N G)(cl li D5 e:Int)(arg:List R.It):Bd N (R.Gc G cl li D5 e arg).2:=⟨h.b.call _ _ _ _ _,by
 have⟨M,q⟩:=h.iv;have⟨f,_,g⟩:=q.call cl li D5 e arg;exact⟨f,g⟩,h.rm.call _ _ _ _ _⟩
theorem Bd.export(h:Bd N G)(name:Ac)(Dz:Int):Bd N (R.E4 G name Dz).2:=⟨h.b.export _ _,h.iv.imp λ_ q=>q.export _ _,h.rm.export _ _⟩
theorem Bd.Iy(h:Bd N G)(name:Ac):Bd N (R.Fb G name).2:=⟨h.b.Iy _,h.iv.imp λ_ q=>q.Iy _,h.rm.Iy _⟩
theorem Bd.import(h:Bd N G)(cl:Int)(name:Ac):Bd (N+1) (R.FV G cl name).2:=⟨h.b.import _ _,h.iv.imp λ_ q=>q.imports _ _,h.rm.imports _ _⟩
theorem Bd.drop(h:Bd N G)(i:Int):Bd N (R.JM G i).2:=⟨h.b.drop _,h.iv.imp λ_ q=>q.drop _,h.rm.drop _⟩
theorem Bd.copy(h:Bd N G)(i:Int):Bd N (R.JA G i).2:=⟨h.b.copy _,h.iv.imp λ_ q=>q.copy _,h.rm.copy _⟩
theorem Bd.Sf(h:Bd N G)(i a b:Int):Bd N (R.Jz G i a b).2:=⟨h.b.Sf _ _ _,h.iv.imp λ_ q=>q.Sf _ _ _,h.rm.Sf _ _ _⟩
def KA(N:Nat)(t:Tw)(G':R.Wd)(w w':Aa):Prop:=∃t',Ii N t' w'/\D8 t.Fw t'.Fw w w'/\t'.p.x=t.p.x/\t'.x=t.x/\t'.G=G'
structure Mid(N:Nat)(t:Tw)(G':R.Wd)(w w1:Aa):Prop where
 MP:Ii N t w
 l:∃p' F',LW p' F' G' w1/\D8 t.F F' w w1/\p'.x=t.p.x
theorem Mid.r(h:Mid N t G' w w1):RW t.x t.v t.E t.G w1:=by
 have⟨e,F',_,g,_⟩:=h.l;exact h.MP.left g
theorem Mid.stays(h:Mid N t G' w w1){o:Obj}(hk:w.heap[k]?=some o)(hn:¬t.Fw k):w1.heap[k]?=some o:=by
 have⟨e,F',_,g,_⟩:=h.l;exact g.E0.at hk (λf=>hn (Aj f))
theorem Mid.DG(h:Mid N t G' w w1)(f:DY w1 w2):Mid N t G' w w2:=by
 have⟨j,F',l,g,e⟩:=h.l;exact⟨h.MP,j,F',l.DG f,g.trans (D8.D6 F' f),e⟩
theorem Mid.done(h:Mid N t G' w w1)(m:∃j f,RW t.x j f G' w2/\D8 t.E f w1 w2)(u:Bd N' G'):KA N' t G' w w2:=by
 have⟨D,F',l,g,e⟩:=h.l;have⟨j,f,r,g2⟩:=m;have⟨y,B⟩:=h.MP.both l g r g2 u;exact⟨_,y,B,e,rfl,rfl⟩
theorem Ii.mid(h:Ii N t w)(hl:NM t.p t.F w G' w1):Mid N t G' w w1:=by grind [NM,Mid]
theorem Ii.tH(h:Ii N t w)(l:LW t.p F' G' w1)(g:D8 t.F F' w w1):Mid N t G' w w1:=⟨h,_,F',l,g,rfl⟩
theorem Ii.adh(h:Ii N t w)(e:DY w w1):Mid N t t.G w w1:=⟨h,_,t.F,h.l.DG e,D8.D6 _ e,rfl⟩
theorem Mid.rD(h:Mid N t t.G w w1)(e:DY w1 w2):KA N t t.G w w2:=h.done ⟨_,_,h.r.DG e,D8.D6 _ e⟩ h.MP.bd
theorem KA.ahead(m:DY w w1)(h:KA N t G' w1 w2):KA N t G' w w2:=by
 have⟨u,e,f,g,j⟩:=h;exact⟨u,e,(D8.D6 _ m).trans f,g,j⟩
theorem KA.le(h:KA N t G' w w1)(m:N<=N'):KA N' t G' w w1:=by
 have⟨u,e,f,g,j⟩:=h;exact⟨u,⟨e.l,e.r,e.ap,Bd.le e.bd m⟩,f,g,j⟩
theorem Ii.off(h:Ii N t w)(hk:w.heap.size<=k):¬t.Fw k:=λq=>by have:=h.lt k q;omega
theorem WO(w:Aa)(t:Tw)(o:LD):DY w ((w.alloc (.cells #[ptr t.p.x,Ey t.x] 109)).alloc (.cells o.cells 72))/\((w.alloc (.cells #[ptr t.p.x,Ey t.x] 109)).alloc (.cells o.cells 72)).heap[w.heap.size]?=some (.cells #[ptr t.p.x,Ey t.x] 109 (0,0))/\((w.alloc (.cells #[ptr t.p.x,Ey t.x] 109)).alloc (.cells o.cells 72)).heap[w.heap.size+1]?=some (.cells o.cells 72 (0,0)):=by
 have e:(w.alloc (.cells #[ptr t.p.x,Ey t.x] 109)).heap.size=w.heap.size+1:=Ev;refine⟨F9.alloc U _,?_,?_⟩
 ·rw[AL _ _ _ U];exact AF w _
 ·have:=AF (w.alloc (.cells #[ptr t.p.x,Ey t.x] 109)) (.cells o.cells 72);rw[e]at this;exact this
theorem OM(n:Int)(w:Aa):D7 88 #[Z n] w (Z n) λe=>e=w:=by
 go_enter func88,ntmps88;go_wp2;go_returns;exact⟨rfl,rfl⟩
structure Bx(b:Nat)(t:Tw)(o:LD)(w:Aa):Prop where
 t:w.heap[b]?=some (.cells #[ptr t.p.x,Ey t.x] 109 (0,0))
 o:w.heap[b+1]?=some (.cells o.cells 72 (0,0))
theorem Bx.stays{o:LD}(h:Bx b t o w)(f:Mid N t G' w w1)(e:∀k,b<=k->¬t.Fw k):Bx b t o w1:=by grind [Bx,Mid.stays]
theorem Jc(h:Ii N t w)(o:LD):∃f,(w.alloc (.cells #[ptr t.p.x,Ey t.x] 109)).alloc (.cells o.cells 72)=f/\DY w f/\Bx w.heap.size t o f/\Ii N t f/\∀k,w.heap.size<=k->¬t.Fw k:=by
 have⟨e,g,j⟩:=WO w t o;exact⟨_,rfl,e,⟨g,j⟩,h.DG e,λk hk=>h.off hk⟩
end Go.Proofs.YtblomippkddgiaaGreatDoor
namespace Go.Proofs.YtblomippkddgiaaGreatDoor.V
open Go.Proofs.Tryz
open Go.RowKit
variable {E:D9}{w w':World}
theorem Y9{F:D9}{u v:Aa}(h:Go.Proofs.YtblomippkddgiaaGreatDoor.DF F u v)(n:Nat):Go.Proofs.YtblomippkddgiaaGreatDoor.DF F u (v.drewN n):=⟨h.os,h.tape,h.output,h.size,h.block⟩
theorem Ff.keep{V:Ad}{v:List It}(h:Ff w V v)(hk:Go.Proofs.YtblomippkddgiaaGreatDoor.DF E w w')(hn:v≠[]->∀b off n c,V=.slice (some (Y b off)) n c->¬E b):Ff w' V v:=by grind [Ff,Go.Proofs.YtblomippkddgiaaGreatDoor.DF,World.cell?_of_block]
theorem I9.keep{G m k:Nat}{l:List It}(h:I9 w G m k l)(hk:Go.Proofs.YtblomippkddgiaaGreatDoor.DF E w w')(hn:¬E G):I9 w' G m k l:=by grind [I9,Go.Proofs.YtblomippkddgiaaGreatDoor.DF]
theorem dW(w:Aa)(D:Addr)(cap G:Nat)(v:List It)(hn:v.length<=9000000000000)(hI:Ff w (.slice (some D) v.length cap) v)(hG:v≠[]->D.block≠G)(B:I9 w G (v.length+6) 0 (v++List.replicate 6 Iu)):
  D7 150 #[EJ G v.length (v.length+6),.slice (some D) v.length cap] w (.bool true) λw'=>Go.Proofs.YtblomippkddgiaaGreatDoor.DF (λk=>k=G) w w':=by
 obtain⟨n,j⟩:∃n,n=v.length:=⟨_,rfl⟩;have al:=notNil D n cap;have⟨HB,HI⟩:=FU Tx hI;rw[<-j]at HI B;rw[<-j];have y:=Dx j;have aN:n<=9000000000000:=U;have HL:=Dx B;clear j hn hI B;go_enter func150,ntmps150;go_wp2;go_loopw [7,8] (λok iv wr=>ok=.bool true/\∃i:Nat,i<=n+6/\iv=Z i/\I9 wr G (n+6) i (v++List.replicate 6 Iu)/\Go.Proofs.YtblomippkddgiaaGreatDoor.DF (λk=>k=G) w wr) (λ_ iv _=>n+6-(intOf iv).toNat)
 case atStart=>exact⟨rfl,0,U,rfl,HL,Go.Proofs.YtblomippkddgiaaGreatDoor.DF.refl _ w⟩
 case round=>
  obtain⟨rfl,i,az,rfl,B,O⟩:=hrel;by_cases X:i<n+6
  ·have Q:=Dx B;have u:=Dx O;clear B O;go_wp2_with fail
   refine cm (HB _) λw1 g=>?_
   have f:=Q.DG g;have h:=u.trans (Go.Proofs.YtblomippkddgiaaGreatDoor.DF.D6 g _);obtain⟨x,m⟩:∃x,(v++List.replicate 6 Iu)[i]?=some x:=⟨_,Ah (by rw[AJ,BN,<-Dw y];exact X)⟩;have⟨c0,c1⟩:=f.at (Ar _) m;have z0:=f.thaw (i*2);have z1:=f.thaw (i*2+1);have av:=f.lt;have aw:¬w1.heap.size=G:=U;have ak:¬G=w1.heap.size:=U;have⟨HL1,HBT⟩:=FU f h;by_cases T:i<n
   ·have M:v[i]?=some x:=by rwa [A6 (by rw[<-Dw y];exact T)]at m
    have⟨b,off,ac,hV,aq,d0,d1⟩:=(HI.keep h (λhv b off n c e=>by injection e with e1;injection e1 with e1;rw[<-show D.block=b by rw[e1]];exact hG hv)).at M;obtain rfl:D=(Y b off):=by
     injection hV with h1;injection h1
    have ar:¬w1.heap.size=b:=U;have ah:¬b=w1.heap.size:=U;clear f h m M g hV;exact afG
   ·have aa:x=Iu:=by
     rw[Bq (by rw[<-Dw y];omega),Be]at m;split at m
     ·cases m;rfl
     ·cases m
    subst aa;clear f h m g;exact afG
  ·clear B;have u:=Dx O;clear O;go_wp2
   go_ret
   exact⟨rfl,u⟩
end Go.Proofs.YtblomippkddgiaaGreatDoor.V
namespace Go.Proofs.YtblomippkddgiaaGreatDoor
open Go.Proofs.Tryz
open Go.RowKit
variable {xs:List Value}{n size x:Nat}{e t:TypeId}{K:Value}{W w wz:World}
theorem Kd{cs:Array Value}(h:w.heap[x]?=some (.cells cs t (0,0)))(f:w.ownsRow 0 e size K n xs)(g:e≠t)(j:DY w W)(u:W.grownBy wz K.ownBlock):wz.heap[x]?=some (.cells cs t (0,0)):=by
 have hl:=(AB.1 h).1;rw[u.block x (Ai hl j.size) (λm=>Fg f h g m.symm),j.block x hl];exact h
theorem OQ{o:Nat}{cs:Ae}{K':Ad}{D j0:Nat}{M:Ae}(X:w.heap[x]?=some (.cells cs.toArray t (0,0)))(u:w.ownsRow 0 e size K n xs)(g:e≠t)(B:DY w W)(T:W.grownBy wz K.ownBlock)(f:wz.ownsRow 0 e size K' D M)(Q:K'.ownBlock=K.ownBlock\/K'.ownBlock=some j0)(hj:w.heap.size<=j0):
  (wz.setCell (Y x o) K').ownsRow 0 e size K' D M/\(wz.setCell (Y x o) K').heap[x]?=some (.cells (cs.set o K').toArray t (0,0))/\DF (λk=>k=x\/K.ownBlock=some k) w (wz.setCell (Y x o) K')/\∀j,K'.ownBlock=some j->K.ownBlock=some j\/w.heap.size<=j:=by
 have h:=Kd X u g B T;have y:(wz.setCell (Y x o) K').heap[x]?=some (.cells (cs.set o K').toArray t (0,0)):=Ek h K';refine⟨?_,y,?_,λj m=>?_⟩
 ·have hk:=DF.setCell (F:=λk=>k=x) (DF.refl _ wz) (p:=Y x o) (Aj rfl) K';exact hk.row f (λj m O=>Fg f h g (O ▸ m))
 ·have h1:DF (λk=>k=x\/K.ownBlock=some k) w W:=DF.D6 B _
  grind [DF.grown,DF.setCell]
 grind
theorem Jx{α:Type}{f:α->List Value}(m:∀x,(f x).length=size)(X:0<size){xs:List α}(h:w.ownsRow 0 e size K n (tab f xs)){i:Nat}{y:α}(D:xs[i]?=some y):∃g cap,K=EJ g n cap/\g<w.heap.size/\(∀j u,j<size->(f y)[j]?=some u->w.cell? (Y g (i*size+j))=some u)/\∀o,w.frozen? (Y g o)=false:=by
 have hi:=GG D;have hl:=h.1;rw[F8 m]at hl;rcases h.2 with ⟨_,O⟩|⟨g,cap,M,rfl,_,B,hc,_,aa,ab⟩
 ·subst O;exfalso;have Q:size*xs.length=0:=by simpa using hl
  have:=Nat.mul_pos X (Nat.lt_of_le_of_lt (AV i) hi);omega
 ·refine⟨g,cap,rfl,(AB.1 B).1,λj u T hu=>?_,λo=>Eb B⟩;have hn:i*size+j<n*size:=by
   have:size*xs.length=n*size:=hl;have Q:(i+1)*size<=xs.length*size:=BL _ hi
   grind
  have:=Jh m xs i j y D T
  grind [World.cell?]
end Go.Proofs.YtblomippkddgiaaGreatDoor
