import Derived.Test.YtblomippkddgiaaGreatDoorK45
set_option maxRecDepth 100000
set_option maxHeartbeats 900000
namespace Go.Proofs.YtblomippkddgiaaGreatDoor
open Go.RowKit
structure Beside(w0:World)(mb:Nat)(mo:Obj)(q:RP)(p:Pl)(c:R.Cf)(s:RS)(G:R.Wd)(w:World):Prop where
 run:∃t E F,RI q c s E w/\LW {p with t:=t} F G w/\(∀k,E k->¬F k)/\(∀k,E k\/F k->w0.heap.size<=k)/\¬E mb/\¬F mb
 x:q.x=p.x
 t0:DU w
 below:Below w0.heap.size w0 w
 pos:0<w0.heap.size
 mem:w.heap[mb]?=some mo
variable {mb:Nat} {mo:Obj}
theorem Beside.both{w0:World}{q:RP}{p:Pl}{c:R.Cf}{s:RS}{G:R.Wd}{w:World}(h:Beside w0 mb mo q p c s G w):A9 w0 q p c s G w:=by
 obtain⟨t,E,F,h1,h2,h3,h4,_⟩:=h.run;exact⟨⟨t,E,F,h1,h2,h3,h4⟩,h.x,h.t0,h.below,h.pos⟩
theorem A9.beside{w0:World}{q:RP}{p:Pl}{c:R.Cf}{s:RS}{G:R.Wd}{w w':World}(h:A9 w0 q p c s G w)(hb:Below w.heap.size w w')(hm:w'.heap[mb]?=some mo)(hl:w.heap.size<=mb):Beside w0 mb mo q p c s G w':=by
 obtain⟨t,E,F,h1,h2,h3,h4⟩:=h.run;have h':=h.still hb;refine⟨⟨t,E,F,h1.below hb,h2.below hb,h3,h4,fun q=>?_,fun q=>?_⟩,h'.x,h'.t0,h'.below,h'.pos,hm⟩
 ·have:=h1.lt mb q;omega
 ·have:=h2.lt mb q;omega
theorem Beside.cells{w0:World}{q:RP}{p:Pl}{c:R.Cf}{s:RS}{G:R.Wd}{w:World}(h:Beside w0 mb mo q p c s G w):ZZ q s w:=h.both.cells
theorem Beside.Qq{w0:World}{q:RP}{p:Pl}{c:R.Cf}{s:RS}{G:R.Wd}{w:World}(h:Beside w0 mb mo q p c s G w){M:R.Bk}(hA:Agree c s M G){i k:Nat}{cl:R.Cl}{l:R.Ln}(hc:G.Ad[i]?=some cl)(hl:cl.lines[k]?=some l):
  Calls Tryz.prog 16 #[ptr q.x,.int .i64 (i:Int),.int .i64 (k:Int)] w fun e w'=>(∃oa on oc,e=.returned (.tuple #[.agg #[.int .i64 l.state,.int .i64 l.seq,.slice oa on oc],.int .i64 0])/\V.Items w' (.slice oa on oc) l.result)/\Below w.heap.size w w':=h.both.Qq hA hc hl
theorem Beside.world{w0:World}{q:RP}{p:Pl}{c:R.Cf}{s:RS}{G G':R.Wd}{w w':World}{E F F':Aq}{t:SP}(h:Beside w0 mb mo q p c s G w)(hr:RI q c s E w)(hd:∀k,E k->¬F k)(hlo:(∀k,E k\/F k->w0.heap.size<=k)/\¬E mb/\¬F mb)(hw':LW {p with t:=t} F' G' w')(hwt:Ay F F' w w'):Beside w0 mb mo q p c s G' w':=by
 have hb:=hwt.keeps.below (B:=w0.heap.size) h.below.size (fun k hk=>hlo.1 k (Or.inr hk));have hml:mb<w.heap.size:=(Array.getElem?_eq_some_iff.1 h.mem).1;refine⟨⟨t,E,F',hr.elsewhere hwt.keeps hd,hw',fun k he hf=>?_,fun k hk=>?_,hlo.2.1,fun hf=>?_⟩,h.x,h.t0.keeps hwt.keeps (fun h0=>by have:=hlo.1 0 (Or.inr h0);have:=h.pos;omega),h.below.trans hb,h.pos,hwt.keeps.at h.mem hlo.2.2⟩
 ·rcases hwt.fresh k hf with f|f
  ·exact hd k he f
  ·have:=hr.lt k he;omega
 ·rcases hk with hk|hk
  ·exact hlo.1 k (Or.inl hk)
  ·rcases hwt.fresh k hk with f|f
   ·exact hlo.1 k (Or.inr f)
   ·have:=h.below.size;omega
 ·rcases hwt.fresh mb hf with f|f
  ·exact hlo.2.2 f
  ·omega
theorem Beside.still{w0:World}{q:RP}{p:Pl}{c:R.Cf}{s:RS}{G:R.Wd}{w w':World}(h:Beside w0 mb mo q p c s G w)(hb:Below w.heap.size w w'):Beside w0 mb mo q p c s G w':=by
 obtain⟨tp,E,F,hr,hw,hd,hlo⟩:=h.run;exact h.world hr hd hlo (hw.below hb) (Ay.Aj F hb)
theorem Beside.own{w0:World}{q:RP}{p:Pl}{c:R.Cf}{s s':RS}{G:R.Wd}{w w':World}{E E' F:Aq}{t:SP}(h:Beside w0 mb mo q p c s G w)(hw:LW {p with t:=t} F G w)(hd:∀k,E k->¬F k)(hlo:(∀k,E k\/F k->w0.heap.size<=k)/\¬E mb/\¬F mb)(hr':RI q c s' E' w')(hwt:Ay E E' w w'):Beside w0 mb mo q p c s' G w':=by
 have hb:=hwt.keeps.below (B:=w0.heap.size) h.below.size (fun k hk=>hlo.1 k (Or.inl hk));have hml:mb<w.heap.size:=(Array.getElem?_eq_some_iff.1 h.mem).1;refine⟨⟨t,E',F,hr',hw.elsewhere hwt.keeps (fun k hf he=>hd k he hf),fun k he hf=>?_,fun k hk=>?_,fun hf=>?_,hlo.2.2⟩,h.x,h.t0.keeps hwt.keeps (fun h0=>by have:=hlo.1 0 (Or.inl h0);have:=h.pos;omega),h.below.trans hb,h.pos,hwt.keeps.at h.mem hlo.2.1⟩
 ·rcases hwt.fresh k he with f|f
  ·exact hd k f hf
  ·have:=hw.lt k hf;omega
 ·rcases hk with hk|hk
  ·rcases hwt.fresh k hk with f|f
   ·exact hlo.1 k (Or.inl f)
   ·have:=h.below.size;omega
  ·exact hlo.1 k (Or.inr hk)
 ·rcases hwt.fresh mb hf with f|f
  ·exact hlo.2.1 f
  ·omega
theorem Beside.aci{w0:World}{q:RP}{p:Pl}{c:R.Cf}{s:RS}{G:R.Wd}{w:World}(h:Beside w0 mb mo q p c s G w)(k:Nat)(v:Int):Beside w0 mb mo q p c {s with seq:=s.seq.set k v} G (w.setCell ⟨q.sq,k,none⟩ (.int .i64 v)):=by
 obtain⟨tp,E,F,hr,hw,hd,hlo⟩:=h.run;have sz:(w.setCell ⟨q.sq,k,none⟩ (.int .i64 v)).heap.size=w.heap.size:=by simp[World.setCell]
 have oth:∀{b:Nat} {o:Obj},w.heap[b]?=some o->b≠q.sq->(w.setCell ⟨q.sq,k,none⟩ (.int .i64 v)).heap[b]?=some o:=fun hb ht=>by
  rw[Below.heap_setCell _ _ _ _ ht];exact hb
 refine h.own (s':={s with seq:=s.seq.set k v}) hw hd hlo (E':=E) ⟨?_,oth hr.lf hr.ne.1,?_,oth hr.ud hr.ne.2.2.symm,?_,?_,?_,?_,hr.BM,hr.rows,hr.ne,hr.nD,hr.nK,hr.YB,fun k hk=>by rw[sz];exact hr.lt k hk⟩ ⟨NZ hr.BM.2.2.1 _,fun _ e=>Or.inl e⟩
 ·have:=oth hr.cell (Bi hr.cell hr.sq (by decide));simpa [FG] using this
 ·rw[Ak hr.sq,ints_set]
 ·exact A8 hr.M (A6 hr.M hr.sq (by decide)) _
 ·exact A8 hr.D hr.nD.2.1 _
 ·exact A8 hr.K hr.nK.2.1 _
 ·exact EW hr.args hr.sq (by decide) _
theorem Beside.aaa{w0:World}{q:RP}{p:Pl}{c:R.Cf}{s:RS}{G:R.Wd}{wB w wz:World}{o:Obj}(h:Beside w0 mb mo q p c s G wB)(hb:Below wB.heap.size wB w){M' X:Value}{m:Mk}(hX:BD w (fun k=>wB.heap.size<=k) X m.arg)(hown:wz.ownsRow 0 55 7 M' (s.made.length+1) (tab DF s.made++DF (m,X)))(hg:(w.alloc o).grownBy wz s.M.ownBlock)(hat:GY s.M w M'):Beside w0 mb mo q p c {s with M:=M',made:=s.made++[(m,X)]} G (wz.setCell ⟨q.r,9,none⟩ M'):=by
 obtain⟨tp,E,F,hr0,hw0,hd,hlo⟩:=h.run;have hr:=hr0.below hb;have hw:=hw0.below hb;have h':=h.still hb;have hsb:=hb.size;have hMb:∀{b:Nat} {ys:Array Value} {t:TypeId} {f:Nat×Nat},w.heap[b]?=some (.cells ys t f)->t≠55->s.M.ownBlock≠some b:=fun hb ht=>A6 hr.M hb (fun e=>ht e.symm)
 have hM'r:=hat.ne (lt_of_block hr.cell) (hMb hr.cell (by decide));have hK:Af E w (wz.setCell ⟨q.r,9,none⟩ M'):=Af.setCell (F:=E) (((Af.refl _ w).alloc o).grown hg (fun k hk=>Or.inl (hr.rows k (Or.inl hk)))) (p:=⟨q.r,9,none⟩) (Or.inl hr.BM.1) _;have sz:=hK.size;have hcz:=DC hg hr.cell (hMb hr.cell (by decide));have nb:∀{b:Nat} {ys:Array Value} {t:TypeId} {f:Nat×Nat},w.heap[b]?=some (.cells ys t f)->t≠55->t≠38->(wz.setCell ⟨q.r,9,none⟩ M').heap[b]?=some (.cells ys t f):=fun hb h1 h2=>by
  rw[Below.heap_setCell _ _ _ _ (Bi hb hr.cell h2)];exact DC hg hb (hMb hb h1)
 have rows':∀{v:Value} {n:Nat} {xs:List Value},w.ownsRow 0 3 1 v n xs->(wz.setCell ⟨q.r,9,none⟩ M').ownsRow 0 3 1 v n xs:=fun hx=>by
  refine A8 (Hg hg hx (fun j hj e=>?_)) (A6 hx hr.cell (by decide)) _;rcases hx.2 with ⟨hv,_⟩|⟨g,cap,cur,hv,_,hgb,_⟩
  ·rw[hv]at hj;cases hj
  ·rw[hv]at hj;cases hj;exact hMb hgb (by decide) e
 have hb0:=hK.below (B:=w0.heap.size) h'.below.size (fun k hk=>hlo.1 k (Or.inl hk));refine⟨⟨tp,fun k=>E k\/(wB.heap.size<=k/\k<(wz.setCell ⟨q.r,9,none⟩ M').heap.size),F,⟨?_,nb hr.lf (by decide) (by decide),nb hr.sq (by decide) (by decide),nb hr.ud (by decide) (by decide),?_,rows' hr.D,rows' hr.K,?_,⟨Or.inl hr.BM.1,Or.inl hr.BM.2.1,Or.inl hr.BM.2.2.1,Or.inl hr.BM.2.2.2⟩,?_,hr.ne,hr.nD,hr.nK,hr.YB,?_⟩,hw.elsewhere hK (fun k hf he=>hd k he hf),?_,?_,fun e=>?_,hlo.2.2⟩,h.x,h'.t0.keeps hK (fun h0=>by have:=hlo.1 0 (Or.inl h0);have:=h.pos;omega),h'.below.trans hb0,h.pos,hK.at h'.mem hlo.2.1⟩
 ·exact Ak (cs:=(FG q c s).toList) (off:=9) hcz _
 ·have:=A8 hown hM'r M' (off:=9);simpa [Fa] using this
 ·refine EW ?_ hcz (by decide) _;intro z hz;rcases List.mem_append.1 hz with hz|hz
  ·exact JO hg hr.M (by decide) hr.args (fun _ q=>Or.inl q) z hz
  ·obtain rfl:z=(m,X):=by simpa using hz
   have hlX:BD w (fun k=>wB.heap.size<=k/\k<w.heap.size) X m.arg:=by
    rcases hX with hX|⟨b,off,cap,cur,q0,q1,q2,q3,q4,q5⟩
    ·exact Or.inl hX
    ·exact Or.inr ⟨b,off,cap,cur,q0,q1,q2,⟨q3,lt_of_block q4⟩,q4,q5⟩
   exact hlX.keep (E:=fun k=>s.M.ownBlock=some k) (((Af.refl _ w).alloc o).grown hg (fun k hk=>Or.inl hk)) (fun k cur _ hc e=>A6 hr.M hc (by decide) e) (fun k hk=>Or.inr ⟨hk.1,Nat.lt_of_lt_of_le hk.2 sz⟩)
 ·rintro j (e|e|e)
  ·rcases hat.at e with f|f
   ·exact Or.inl (hr.rows j (Or.inl f))
   ·exact Or.inr ⟨by omega,(World.ownsRow.lt (A8 hown hM'r M' (off:=9)) j e).2⟩
  ·exact Or.inl (hr.rows j (Or.inr (Or.inl e)))
  ·exact Or.inl (hr.rows j (Or.inr (Or.inr e)))
 ·rintro k (e|e)
  ·exact Nat.lt_of_lt_of_le (hr.lt k e) sz
  ·exact e.2
 ·rintro k (e|e) hf
  ·exact hd k e hf
  ·have:=hw0.lt k hf;omega
 ·rintro k ((e|e)|e)
  ·exact hlo.1 k (Or.inl e)
  ·have:=h.below.size;omega
  ·exact hlo.1 k (Or.inr e)
 ·rcases e with e|e
  ·exact hlo.2.1 e
  ·have:=(Array.getElem?_eq_some_iff.1 h.mem).1;omega
variable {mb:Nat} {mo:Obj}
theorem QW(w0:World)(q:RP)(p:Pl)(c:R.Cf)(s:RS)(G G':R.Wd)(w:World)(ci li kk k pr0:Nat)(a b prv sq st u lf0:Int)(v:List V.It)(h:Beside w0 mb mo q p c s G w)(hk:k<3)(hul:s.uid.length=3)(hu:s.uid[k]?=some u)(hsq:s.seq[kk]?=some sq)(hlf:s.Ag[ci]?=some lf0)(_:s.made.length<=3000000)
  (e3:IntKind.i64.wrap (3*(ci:Int))=3*(ci:Int)) (e4:IntKind.i64.wrap (3*(ci:Int)+(li:Int))=(kk:Int))
  (H10:Hid (∀w,Calls Tryz.prog 11 #[.int .i64 b,.int .i64 2] w fun e w'=>e=.returned (.int .i64 (pr0:Int))/\w'=w)) (hcase:((((k:Int)==2)=true)/\prv=0)\/((((k:Int)==2)=false)/\prv=(pr0:Int)))
  (H22:Hid (∀w,Calls Tryz.prog 30 #[.int .i64 (k:Int),.int .i64 prv,.int .i64 a,.int .i64 b] w (CY v w)))
  (H15:Hid (∀w',Below w.heap.size w w'->Calls Tryz.prog 16 #[ptr q.x,.int .i64 (ci:Int),.int .i64 (li:Int)] w' fun e w''=>(∃oa on oc,e=.returned (.tuple #[.agg #[.int .i64 st,.int .i64 sq,.slice oa on oc],.int .i64 0]))/\Below w'.heap.size w' w''))
  (H23:Hid (∀w' W X,Below w.heap.size w w'->Below w'.heap.size w' W->BD W (fun k=>w.heap.size<=k) X v->Calls Tryz.prog 31 #[ptr q.x,.int .i64 (ci:Int),.int .i64 (li:Int),.int .i64 u,.int .i64 prv,X] W fun e w''=>e=.returned (.tuple #[.int .i64 0,.int .i64 17])/\Beside w0 mb mo q p c s G' w''/\∀b,w'.heap.size<=b->b<W.heap.size->w''.heap[b]?=W.heap[b]?)) (hst:st=1):
  Calls Tryz.prog 12 #[ptr q.r,.int .i64 (ci:Int),.int .i64 (li:Int),.int .i64 (k:Int),.int .i64 a,.int .i64 b] w fun e w'=>e=.returned (.bool true)/\Beside w0 mb mo q p c s G' w':=by
 have HH:=Ab h;have hkn:(k:Int)<3:=by omega
 have hkl2:=(List.getElem?_eq_some_iff.1 hsq).1;have hkl:(kk:Int)<(s.seq.length:Int):=by omega
 have hcl:ci<s.Ag.length:=(List.getElem?_eq_some_iff.1 hlf).1;have hcl2:(ci:Int)<(s.Ag.length:Int):=by omega
 have c0:=h.cells.a0;have hst1:(st==1)=true:=by simpa using hst
 clear hst;clear h;rcases hcase with ⟨e2,hp0⟩|⟨e2,hp0⟩
 ·subst hp0;go_enter Tryz.func12,Tryz.ntmps12;go_wp2_with (first|(go_at_call 11;refine((Aa H10) _).mono ?_;clear H10;rintro e w1 ⟨rfl,hw1⟩;rw[hw1];clear hw1))
  refine((Aa H22) _).mono ?_;rintro e w1 ⟨X,rfl,hI,hb1⟩;have d0:w1.cell? ⟨q.r,0,none⟩=some (ptr q.x):=((Aa HH).still hb1).cells.a0;have HB1:=Ab hb1;have HI:=Ab hI;clear hb1 hI;go_wp2_with fail
  refine((Aa H15) _ (Aa HB1)).mono ?_;rintro e w2 ⟨⟨oa,on,oc,rfl⟩,hb2⟩;have hb12:=(Aa HB1).trans (hb2.mono (Aa HB1).size);have HI2:=Ab (Dc (Aa HI) hb2);have HB12:=Ab hb12;clear hb2 hb12;obtain⟨W2,hW2⟩:∃W2,w2.alloc (.cells #[.int .i64 st,.int .i64 sq,.slice oa on oc] 46)=W2:=⟨_,rfl⟩;have hbW:Below w2.heap.size w2 W2:=by
   rw[<-hW2];exact(Below.refl _ _).alloc (Nat.le_refl _) _
  have hsW:W2.heap.size=w2.heap.size+1:=by rw[<-hW2];simp
  have hBW:=((Aa HH).still (Aa HB12)).still hbW;have x0:=hBW.cells.a0;have x8:=hBW.cells.a8;rw[hul]at x8;have xu:=hBW.cells.u k _ hu;have HC:=Ab ((Aa H23) w2 W2.drew X (Aa HB12) hbW.drew (Dc (Aa HI2) hbW.drew));have hbox:W2.heap[w2.heap.size]?=some (.cells #[.int .i64 st,.int .i64 sq,.slice oa on oc] 46 (0,0)):=by
   rw[<-hW2];exact heap_alloc_new w2 _
  have HBOX:=Ab hbox;have HW2:=Ab hW2;have HSW:=Ab hsW;clear H23 HH H15 HI HB1 d0 c0 hbW hBW hW2 hbox hsW HI2;go_wp2_with fail
  rw[Aa HW2];go_region_held3 (fun w'=>w'.cell? ⟨q.r,0,none⟩=some (ptr q.x)/\w'.cell? ⟨q.r,8,none⟩=some (.slice (some ⟨q.ud,0,none⟩) 3 3)/\w'.cell? ⟨q.ud,k,none⟩=some (.int .i64 u)) (go_keep) ((go_at_call 31;refine(Aa HC).mono ?_;rintro e w3 ⟨rfl,hB3,hkp⟩;have HKP:=Ab hkp;have y0:=hB3.cells.a0;have y8:=hB3.cells.a8;have yu:=hB3.cells.u k _ hu;rw[hul]at y8;have HB3:=Ab hB3;clear hkp hB3))
  have hbx3:w3.heap[w2.heap.size]?=some (.cells #[.int .i64 st,.int .i64 sq,.slice oa on oc] 46 (0,0)):=((Aa HKP) w2.heap.size (Nat.le_refl _) (by have:=Aa HSW;simp;omega)).trans (Aa HBOX);have b0:w3.cell? ⟨w2.heap.size,0,none⟩=some (.int .i64 st):=cell_of hbx3 0 _ rfl;have b1:w3.cell? ⟨w2.heap.size,1,none⟩=some (.int .i64 sq):=cell_of hbx3 1 _ rfl;have y7:=(Aa HB3).cells.a7;have ys:=(Aa HB3).cells.sq kk _ hsq;have yz:=(Aa HB3).cells.zs kk;clear hbx3 HKP HBOX HC x0 x8 xu;have HBR:=Ab (fun n=>(Aa HB3).still (JX n));clear HB3;go_wp2_with fail
  go_quiet (fail);go_wp2_with fail
  go_returns;exact⟨rfl,(Aa HBR) _⟩
 ·subst hp0;go_enter Tryz.func12,Tryz.ntmps12;go_wp2_with (first|(go_at_call 11;refine((Aa H10) _).mono ?_;clear H10;rintro e w1 ⟨rfl,hw1⟩;rw[hw1];clear hw1))
  refine((Aa H22) _).mono ?_;rintro e w1 ⟨X,rfl,hI,hb1⟩;have d0:w1.cell? ⟨q.r,0,none⟩=some (ptr q.x):=((Aa HH).still hb1).cells.a0;have HB1:=Ab hb1;have HI:=Ab hI;clear hb1 hI;go_wp2_with fail
  refine((Aa H15) _ (Aa HB1)).mono ?_;rintro e w2 ⟨⟨oa,on,oc,rfl⟩,hb2⟩;have hb12:=(Aa HB1).trans (hb2.mono (Aa HB1).size);have HI2:=Ab (Dc (Aa HI) hb2);have HB12:=Ab hb12;clear hb2 hb12;obtain⟨W2,hW2⟩:∃W2,w2.alloc (.cells #[.int .i64 st,.int .i64 sq,.slice oa on oc] 46)=W2:=⟨_,rfl⟩;have hbW:Below w2.heap.size w2 W2:=by
   rw[<-hW2];exact(Below.refl _ _).alloc (Nat.le_refl _) _
  have hsW:W2.heap.size=w2.heap.size+1:=by rw[<-hW2];simp
  have hBW:=((Aa HH).still (Aa HB12)).still hbW;have x0:=hBW.cells.a0;have x8:=hBW.cells.a8;rw[hul]at x8;have xu:=hBW.cells.u k _ hu;have HC:=Ab ((Aa H23) w2 W2.drew X (Aa HB12) hbW.drew (Dc (Aa HI2) hbW.drew));have hbox:W2.heap[w2.heap.size]?=some (.cells #[.int .i64 st,.int .i64 sq,.slice oa on oc] 46 (0,0)):=by
   rw[<-hW2];exact heap_alloc_new w2 _
  have HBOX:=Ab hbox;have HW2:=Ab hW2;have HSW:=Ab hsW;clear H23 HH H15 HI HB1 d0 c0 hbW hBW hW2 hbox hsW HI2;go_wp2_with fail
  rw[Aa HW2];go_region_held3 (fun w'=>w'.cell? ⟨q.r,0,none⟩=some (ptr q.x)/\w'.cell? ⟨q.r,8,none⟩=some (.slice (some ⟨q.ud,0,none⟩) 3 3)/\w'.cell? ⟨q.ud,k,none⟩=some (.int .i64 u)) (go_keep) ((go_at_call 31;refine(Aa HC).mono ?_;rintro e w3 ⟨rfl,hB3,hkp⟩;have HKP:=Ab hkp;have y0:=hB3.cells.a0;have y8:=hB3.cells.a8;have yu:=hB3.cells.u k _ hu;rw[hul]at y8;have HB3:=Ab hB3;clear hkp hB3))
  have hbx3:w3.heap[w2.heap.size]?=some (.cells #[.int .i64 st,.int .i64 sq,.slice oa on oc] 46 (0,0)):=((Aa HKP) w2.heap.size (Nat.le_refl _) (by have:=Aa HSW;simp;omega)).trans (Aa HBOX);have b0:w3.cell? ⟨w2.heap.size,0,none⟩=some (.int .i64 st):=cell_of hbx3 0 _ rfl;have b1:w3.cell? ⟨w2.heap.size,1,none⟩=some (.int .i64 sq):=cell_of hbx3 1 _ rfl;have y7:=(Aa HB3).cells.a7;have ys:=(Aa HB3).cells.sq kk _ hsq;have yz:=(Aa HB3).cells.zs kk;clear hbx3 HKP HBOX HC x0 x8 xu;have HBR:=Ab (fun n=>(Aa HB3).still (JX n));clear HB3;go_wp2_with fail
  go_quiet (fail);go_wp2_with fail
  go_returns;exact⟨rfl,(Aa HBR) _⟩
theorem OE(w0:World)(q:RP)(p:Pl)(c:R.Cf)(s:RS)(G G':R.Wd)(w:World)(ci li kk k pr0:Nat)(a b prv sq st u lf0:Int)(v:List V.It)(h:Beside w0 mb mo q p c s G w)(hk:k<3)(hul:s.uid.length=3)(hu:s.uid[k]?=some u)(hsq:s.seq[kk]?=some sq)(hlf:s.Ag[ci]?=some lf0)(_:s.made.length<=3000000)
  (e3:IntKind.i64.wrap (3*(ci:Int))=3*(ci:Int)) (e4:IntKind.i64.wrap (3*(ci:Int)+(li:Int))=(kk:Int))
  (H10:Hid (∀w,Calls Tryz.prog 11 #[.int .i64 b,.int .i64 2] w fun e w'=>e=.returned (.int .i64 (pr0:Int))/\w'=w)) (hcase:((((k:Int)==2)=true)/\prv=0)\/((((k:Int)==2)=false)/\prv=(pr0:Int)))
  (H22:Hid (∀w,Calls Tryz.prog 30 #[.int .i64 (k:Int),.int .i64 prv,.int .i64 a,.int .i64 b] w (CY v w)))
  (H15:Hid (∀w',Below w.heap.size w w'->Calls Tryz.prog 16 #[ptr q.x,.int .i64 (ci:Int),.int .i64 (li:Int)] w' fun e w''=>(∃oa on oc,e=.returned (.tuple #[.agg #[.int .i64 st,.int .i64 sq,.slice oa on oc],.int .i64 0]))/\Below w'.heap.size w' w''))
  (H23:Hid (∀w' W X,Below w.heap.size w w'->Below w'.heap.size w' W->BD W (fun k=>w.heap.size<=k) X v->Calls Tryz.prog 31 #[ptr q.x,.int .i64 (ci:Int),.int .i64 (li:Int),.int .i64 u,.int .i64 prv,X] W fun e w''=>e=.returned (.tuple #[.int .i64 0,.int .i64 11])/\Beside w0 mb mo q p c s G' w''/\∀b,w'.heap.size<=b->b<W.heap.size->w''.heap[b]?=W.heap[b]?)) (hst:¬st=1) (h9:sq=999):
  Calls Tryz.prog 12 #[ptr q.r,.int .i64 (ci:Int),.int .i64 (li:Int),.int .i64 (k:Int),.int .i64 a,.int .i64 b] w fun e w'=>e=.returned (.bool true)/\Beside w0 mb mo q p c s G' w':=by
 have HH:=Ab h;have hkn:(k:Int)<3:=by omega
 have hkl2:=(List.getElem?_eq_some_iff.1 hsq).1;have hkl:(kk:Int)<(s.seq.length:Int):=by omega
 have hcl:ci<s.Ag.length:=(List.getElem?_eq_some_iff.1 hlf).1;have hcl2:(ci:Int)<(s.Ag.length:Int):=by omega
 have c0:=h.cells.a0;have hs9:(sq==999)=true:=by simpa using h9
 have hst1:(st==1)=false:=by simpa using hst
 clear h9;clear h;rcases hcase with ⟨e2,hp0⟩|⟨e2,hp0⟩
 ·subst hp0;go_enter Tryz.func12,Tryz.ntmps12;go_wp2_with (first|(go_at_call 11;refine((Aa H10) _).mono ?_;clear H10;rintro e w1 ⟨rfl,hw1⟩;rw[hw1];clear hw1))
  refine((Aa H22) _).mono ?_;rintro e w1 ⟨X,rfl,hI,hb1⟩;have d0:w1.cell? ⟨q.r,0,none⟩=some (ptr q.x):=((Aa HH).still hb1).cells.a0;have HB1:=Ab hb1;have HI:=Ab hI;clear hb1 hI;go_wp2_with fail
  refine((Aa H15) _ (Aa HB1)).mono ?_;rintro e w2 ⟨⟨oa,on,oc,rfl⟩,hb2⟩;have hb12:=(Aa HB1).trans (hb2.mono (Aa HB1).size);have HI2:=Ab (Dc (Aa HI) hb2);have HB12:=Ab hb12;clear hb2 hb12;obtain⟨W2,hW2⟩:∃W2,w2.alloc (.cells #[.int .i64 st,.int .i64 sq,.slice oa on oc] 46)=W2:=⟨_,rfl⟩;have hbW:Below w2.heap.size w2 W2:=by
   rw[<-hW2];exact(Below.refl _ _).alloc (Nat.le_refl _) _
  have hsW:W2.heap.size=w2.heap.size+1:=by rw[<-hW2];simp
  have hBW:=((Aa HH).still (Aa HB12)).still hbW;have x0:=hBW.cells.a0;have x8:=hBW.cells.a8;rw[hul]at x8;have xu:=hBW.cells.u k _ hu;have HC:=Ab ((Aa H23) w2 W2.drew X (Aa HB12) hbW.drew (Dc (Aa HI2) hbW.drew));have hbox:W2.heap[w2.heap.size]?=some (.cells #[.int .i64 st,.int .i64 sq,.slice oa on oc] 46 (0,0)):=by
   rw[<-hW2];exact heap_alloc_new w2 _
  have HBOX:=Ab hbox;have HW2:=Ab hW2;have HSW:=Ab hsW;clear H23 HH H15 HI HB1 d0 c0 hbW hBW hW2 hbox hsW HI2;go_wp2_with fail
  rw[Aa HW2];go_region_held3 (fun w'=>w'.cell? ⟨q.r,0,none⟩=some (ptr q.x)/\w'.cell? ⟨q.r,8,none⟩=some (.slice (some ⟨q.ud,0,none⟩) 3 3)/\w'.cell? ⟨q.ud,k,none⟩=some (.int .i64 u)) (go_keep) ((go_at_call 31;refine(Aa HC).mono ?_;rintro e w3 ⟨rfl,hB3,hkp⟩;have HKP:=Ab hkp;have y0:=hB3.cells.a0;have y8:=hB3.cells.a8;have yu:=hB3.cells.u k _ hu;rw[hul]at y8;have HB3:=Ab hB3;clear hkp hB3))
  have hbx3:w3.heap[w2.heap.size]?=some (.cells #[.int .i64 st,.int .i64 sq,.slice oa on oc] 46 (0,0)):=((Aa HKP) w2.heap.size (Nat.le_refl _) (by have:=Aa HSW;simp;omega)).trans (Aa HBOX);have b0:w3.cell? ⟨w2.heap.size,0,none⟩=some (.int .i64 st):=cell_of hbx3 0 _ rfl;have b1:w3.cell? ⟨w2.heap.size,1,none⟩=some (.int .i64 sq):=cell_of hbx3 1 _ rfl;have y7:=(Aa HB3).cells.a7;have ys:=(Aa HB3).cells.sq kk _ hsq;have yz:=(Aa HB3).cells.zs kk;clear hbx3 HKP HBOX HC x0 x8 xu;have HBR:=Ab (fun n=>(Aa HB3).still (JX n));clear HB3;go_wp2_with fail
  go_quiet (fail);go_wp2_with fail
  go_returns;exact⟨rfl,(Aa HBR) _⟩
 ·subst hp0;go_enter Tryz.func12,Tryz.ntmps12;go_wp2_with (first|(go_at_call 11;refine((Aa H10) _).mono ?_;clear H10;rintro e w1 ⟨rfl,hw1⟩;rw[hw1];clear hw1))
  refine((Aa H22) _).mono ?_;rintro e w1 ⟨X,rfl,hI,hb1⟩;have d0:w1.cell? ⟨q.r,0,none⟩=some (ptr q.x):=((Aa HH).still hb1).cells.a0;have HB1:=Ab hb1;have HI:=Ab hI;clear hb1 hI;go_wp2_with fail
  refine((Aa H15) _ (Aa HB1)).mono ?_;rintro e w2 ⟨⟨oa,on,oc,rfl⟩,hb2⟩;have hb12:=(Aa HB1).trans (hb2.mono (Aa HB1).size);have HI2:=Ab (Dc (Aa HI) hb2);have HB12:=Ab hb12;clear hb2 hb12;obtain⟨W2,hW2⟩:∃W2,w2.alloc (.cells #[.int .i64 st,.int .i64 sq,.slice oa on oc] 46)=W2:=⟨_,rfl⟩;have hbW:Below w2.heap.size w2 W2:=by
   rw[<-hW2];exact(Below.refl _ _).alloc (Nat.le_refl _) _
  have hsW:W2.heap.size=w2.heap.size+1:=by rw[<-hW2];simp
  have hBW:=((Aa HH).still (Aa HB12)).still hbW;have x0:=hBW.cells.a0;have x8:=hBW.cells.a8;rw[hul]at x8;have xu:=hBW.cells.u k _ hu;have HC:=Ab ((Aa H23) w2 W2.drew X (Aa HB12) hbW.drew (Dc (Aa HI2) hbW.drew));have hbox:W2.heap[w2.heap.size]?=some (.cells #[.int .i64 st,.int .i64 sq,.slice oa on oc] 46 (0,0)):=by
   rw[<-hW2];exact heap_alloc_new w2 _
  have HBOX:=Ab hbox;have HW2:=Ab hW2;have HSW:=Ab hsW;clear H23 HH H15 HI HB1 d0 c0 hbW hBW hW2 hbox hsW HI2;go_wp2_with fail
  rw[Aa HW2];go_region_held3 (fun w'=>w'.cell? ⟨q.r,0,none⟩=some (ptr q.x)/\w'.cell? ⟨q.r,8,none⟩=some (.slice (some ⟨q.ud,0,none⟩) 3 3)/\w'.cell? ⟨q.ud,k,none⟩=some (.int .i64 u)) (go_keep) ((go_at_call 31;refine(Aa HC).mono ?_;rintro e w3 ⟨rfl,hB3,hkp⟩;have HKP:=Ab hkp;have y0:=hB3.cells.a0;have y8:=hB3.cells.a8;have yu:=hB3.cells.u k _ hu;rw[hul]at y8;have HB3:=Ab hB3;clear hkp hB3))
  have hbx3:w3.heap[w2.heap.size]?=some (.cells #[.int .i64 st,.int .i64 sq,.slice oa on oc] 46 (0,0)):=((Aa HKP) w2.heap.size (Nat.le_refl _) (by have:=Aa HSW;simp;omega)).trans (Aa HBOX);have b0:w3.cell? ⟨w2.heap.size,0,none⟩=some (.int .i64 st):=cell_of hbx3 0 _ rfl;have b1:w3.cell? ⟨w2.heap.size,1,none⟩=some (.int .i64 sq):=cell_of hbx3 1 _ rfl;have y7:=(Aa HB3).cells.a7;have ys:=(Aa HB3).cells.sq kk _ hsq;have yz:=(Aa HB3).cells.zs kk;clear hbx3 HKP HBOX HC x0 x8 xu;have HBR:=Ab (fun n=>(Aa HB3).still (JX n));clear HB3;go_wp2_with fail
  go_quiet (fail);go_wp2_with fail
  go_returns;exact⟨rfl,(Aa HBR) _⟩
end Go.Proofs.YtblomippkddgiaaGreatDoor
