import Derived.Test.YtblomippkddgiaaGreatDoorK47
set_option maxRecDepth 100000
set_option maxHeartbeats 900000
namespace Go.Proofs.YtblomippkddgiaaGreatDoor
open Go.RowKit
variable {mb:Nat} {mo:Obj}
theorem OG(w0:World)(q:RP)(p:Pl)(c:R.Cf)(s:RS)(G G':R.Wd)(w:World)(ci li kk k pr0:Nat)(a b prv sq st u lf0:Int)(v:List V.It)(h:Beside w0 mb mo q p c s G w)(hk:k<3)(hul:s.uid.length=3)(hu:s.uid[k]?=some u)(hsq:s.seq[kk]?=some sq)(hlf:s.Ag[ci]?=some lf0)(hml:s.made.length<=3000000)
  (e3:IntKind.i64.wrap (3*(ci:Int))=3*(ci:Int)) (e4:IntKind.i64.wrap (3*(ci:Int)+(li:Int))=(kk:Int))
  (H10:Hid (∀w,Calls Tryz.prog 11 #[.int .i64 b,.int .i64 2] w fun e w'=>e=.returned (.int .i64 (pr0:Int))/\w'=w)) (hcase:((((k:Int)==2)=true)/\prv=0)\/((((k:Int)==2)=false)/\prv=(pr0:Int)))
  (H22:Hid (∀w,Calls Tryz.prog 30 #[.int .i64 (k:Int),.int .i64 prv,.int .i64 a,.int .i64 b] w (CY v w)))
  (H15:Hid (∀w',Below w.heap.size w w'->Calls Tryz.prog 16 #[ptr q.x,.int .i64 (ci:Int),.int .i64 (li:Int)] w' fun e w''=>(∃oa on oc,e=.returned (.tuple #[.agg #[.int .i64 st,.int .i64 sq,.slice oa on oc],.int .i64 0]))/\Below w'.heap.size w' w''))
  (H23:Hid (∀w' W X,Below w.heap.size w w'->Below w'.heap.size w' W->BD W (fun k=>w.heap.size<=k) X v->Calls Tryz.prog 31 #[ptr q.x,.int .i64 (ci:Int),.int .i64 (li:Int),.int .i64 u,.int .i64 prv,X] W fun e w''=>e=.returned (.tuple #[.int .i64 (sq+1),.int .i64 0])/\Beside w0 mb mo q p c s G' w''/\∀b,w'.heap.size<=b->b<W.heap.size->w''.heap[b]?=W.heap[b]?)) (hst:¬st=1) (hsr:0<=sq/\sq<999):
  Calls Tryz.prog 12 #[ptr q.r,.int .i64 (ci:Int),.int .i64 (li:Int),.int .i64 (k:Int),.int .i64 a,.int .i64 b] w fun e w'=>e=.returned (.bool true)/\∃X M,Beside w0 mb mo q p c {s with seq:=s.seq.set kk (sq+1),M:=M,made:=s.made++[(⟨ci,lf0,li,sq+1,u,prv,v⟩,X)]} G' w':=by
 have HH:=Ab h;have hkn:(k:Int)<3:=by omega
 have hkl2:=(List.getElem?_eq_some_iff.1 hsq).1;have hkl:(kk:Int)<(s.seq.length:Int):=by omega
 have hcl:ci<s.Ag.length:=(List.getElem?_eq_some_iff.1 hlf).1;have hcl2:(ci:Int)<(s.Ag.length:Int):=by omega
 have c0:=h.cells.a0;have hst1:(st==1)=false:=by simpa using hst
 have hs9:(sq==999)=false:=by simp;omega
 have hwr:IntKind.i64.wrap (sq+1)=sq+1:=by rw[IntKind.wrap_i64];omega
 clear h;rcases hcase with ⟨e2,hp0⟩|⟨e2,hp0⟩
 ·subst hp0;go_enter Tryz.func12,Tryz.ntmps12;go_wp2_with (first|(go_at_call 11;refine((Aa H10) _).mono ?_;clear H10;rintro e w1 ⟨rfl,hw1⟩;rw[hw1];clear hw1))
  refine((Aa H22) _).mono ?_;rintro e w1 ⟨X,rfl,hI,hb1⟩;have d0:w1.cell? ⟨q.r,0,none⟩=some (ptr q.x):=((Aa HH).still hb1).cells.a0;have HB1:=Ab hb1;have HI:=Ab hI;clear hb1 hI;go_wp2_with fail
  refine((Aa H15) _ (Aa HB1)).mono ?_;rintro e w2 ⟨⟨oa,on,oc,rfl⟩,hb2⟩;have hb12:=(Aa HB1).trans (hb2.mono (Aa HB1).size);have HI2:=Ab (Dc (Aa HI) hb2);have HB12:=Ab hb12;clear hb2 hb12;obtain⟨W2,hW2⟩:∃W2,w2.alloc (.cells #[.int .i64 st,.int .i64 sq,.slice oa on oc] 46)=W2:=⟨_,rfl⟩;have hbW:Below w2.heap.size w2 W2:=by
   rw[<-hW2];exact(Below.refl _ _).alloc (Nat.le_refl _) _
  have hsW:W2.heap.size=w2.heap.size+1:=by rw[<-hW2];simp
  have hBW:=((Aa HH).still (Aa HB12)).still hbW;have x0:=hBW.cells.a0;have x8:=hBW.cells.a8;rw[hul]at x8;have xu:=hBW.cells.u k _ hu;have HC:=Ab ((Aa H23) w2 W2.drew X (Aa HB12) hbW.drew (Dc (Aa HI2) hbW.drew));have hbox:W2.heap[w2.heap.size]?=some (.cells #[.int .i64 st,.int .i64 sq,.slice oa on oc] 46 (0,0)):=by
   rw[<-hW2];exact heap_alloc_new w2 _
  have HBOX:=Ab hbox;have HW2:=Ab hW2;have HSW:=Ab hsW;clear H23 HH H15 HI HB1 d0 c0 hbW hBW hW2 hbox hsW HI2;go_wp2_with fail
  rw[Aa HW2];go_region_held3 (fun w'=>w'.cell? ⟨q.r,0,none⟩=some (ptr q.x)/\w'.cell? ⟨q.r,8,none⟩=some (.slice (some ⟨q.ud,0,none⟩) 3 3)/\w'.cell? ⟨q.ud,k,none⟩=some (.int .i64 u)) (go_keep) ((go_at_call 31;refine(Aa HC).mono ?_;rintro e w3 ⟨rfl,hB3,hkp⟩;have HKP:=Ab hkp;have y0:=hB3.cells.a0;have y8:=hB3.cells.a8;have yu:=hB3.cells.u k _ hu;rw[hul]at y8;have HB3:=Ab hB3;clear hkp hB3))
  have hbx3:w3.heap[w2.heap.size]?=some (.cells #[.int .i64 st,.int .i64 sq,.slice oa on oc] 46 (0,0)):=((Aa HKP) w2.heap.size (Nat.le_refl _) (by have:=Aa HSW;simp;omega)).trans (Aa HBOX);have b0:w3.cell? ⟨w2.heap.size,0,none⟩=some (.int .i64 st):=cell_of hbx3 0 _ rfl;have b1:w3.cell? ⟨w2.heap.size,1,none⟩=some (.int .i64 sq):=cell_of hbx3 1 _ rfl;have y7:=(Aa HB3).cells.a7;have ys:=(Aa HB3).cells.sq kk _ hsq;have yz:=(Aa HB3).cells.zs kk;clear hbx3 HKP HBOX HC x0 x8 xu;go_wp2_with fail
  go_quiet (fail);have HB4:=Ab (fun n=>((Aa HB3).still (JX n)).aci kk (sq+1));clear HB3;go_wp2_with fail
  refine D7 (fun W=>Beside w0 mb mo q p c {s with seq:=s.seq.set kk (sq+1)} G' W) ?_ ?_
  ·exact(Aa HB4) _
  ·clear HB4 y0 y8 yu b0 b1 y7 ys yz HW2 HSW;intro W4 hB4;have z6:=hB4.cells.a6;have z8:=hB4.cells.a8;have z9:=hB4.cells.a9;have zl:=hB4.cells.lf ci lf0 hlf;have zu:=hB4.cells.u k _ hu;have zr:=hB4.cells.RN;simp only at z6 z8 z9;rw[hul]at z8;have hrun:=hB4.run;obtain⟨tp,E,F,hr,hEF⟩:=hrun;have hxs:=hr.M;have hsl:=Bg hxs;obtain⟨ma,mc,hMs⟩:=hsl;simp only at hMs hxs;rw[hMs]at z9 hxs;have HXS:=Ab hxs;have HMS:=Ab hMs;have HBT:=Ab (hB4.still (Below.refl _ _).drew);have H22':=Ab ((Aa H22) W4.drew);obtain⟨i0,hi,hz0,hz1,hz2⟩:=info_parts Ww;have HGR:Hid (∀w5 wz o,Beside w0 mb mo q p c {s with seq:=s.seq.set kk (sq+1)} G' w5->(w5.alloc o).grownBy wz (Value.slice ma s.made.length mc).ownBlock->wz.cell? ⟨q.r,6,none⟩=some (.slice (some ⟨q.lf,0,none⟩) s.Ag.length s.Ag.length)/\wz.cell? ⟨q.lf,ci,none⟩=some (.int .i64 lf0)/\wz.cell? ⟨q.r,8,none⟩=some (.slice (some ⟨q.ud,0,none⟩) 3 3)/\wz.cell? ⟨q.ud,k,none⟩=some (.int .i64 u)/\wz.cell? ⟨q.r,9,none⟩=some (.slice ma s.made.length mc)/\wz.frozen? ⟨q.r,9,none⟩=false):=fun w5 wz o hB hg=>by
    obtain⟨tp,E,F,hr5,_⟩:=hB.run;have hys:=hr5.M;simp only at hys;rw[Aa HMS]at hys;have e1:=DC hg hr5.cell (A6 hys hr5.cell (by decide));have e2:=DC hg hr5.lf (A6 hys hr5.lf (by decide));have e3:=DC hg hr5.ud (A6 hys hr5.ud (by decide));refine⟨cell_of e1 6 _ rfl,AY e2 (EB hlf),?_,AY e3 (EB hu),?_,open_list e1⟩
    ·have h8:wz.cell? ⟨q.r,8,none⟩=some (.slice (some ⟨q.ud,0,none⟩) s.uid.length s.uid.length):=cell_of e1 8 _ rfl;rw[hul]at h8;exact h8
    ·have h9:wz.cell? ⟨q.r,9,none⟩=some s.M:=cell_of e1 9 _ rfl;rw[Aa HMS]at h9;exact h9
   clear hr hEF hxs hMs hB4 H22;refine WK.begin (S:=(fun w'=>w'.cell? ⟨q.r,6,none⟩=some (.slice (some ⟨q.lf,0,none⟩) s.Ag.length s.Ag.length)/\w'.cell? ⟨q.lf,ci,none⟩=some (.int .i64 lf0)/\w'.cell? ⟨q.r,8,none⟩=some (.slice (some ⟨q.ud,0,none⟩) 3 3)/\w'.cell? ⟨q.ud,k,none⟩=some (.int .i64 u))) (T:=(fun w'=>w'.cell? ⟨q.r,9,none⟩=some (.slice ma s.made.length mc))) (k:=33) (by kernel_rfl) ?_ ?_ ?_
   ·exact⟨z6,zl,z8,zu⟩
   ·exact z9
   refine WK.take (i:=0) (v:=?_) rfl (by kernel_rfl) (by kernel_rfl) (by kernel_rfl) rfl (fun _ _ _ h=>h) (Or.inl ⟨by rfl,?_⟩) ?_;rotate_left
   ·intro w hSw;try dsimp only at hSw
    go_simp;try with_reducible rfl
   try simp only[Act.put,List.setIfInBounds_toArray,List.set_cons_zero,List.set_cons_succ,List.getElem_toArray,List.getElem_cons_zero]
   refine WK.take (i:=1) (v:=?_) rfl (by kernel_rfl) (by kernel_rfl) (by kernel_rfl) rfl (fun _ _ _ h=>h) (Or.inl ⟨by rfl,?_⟩) ?_;rotate_left
   ·intro w hSw;try dsimp only at hSw
    go_simp;try with_reducible rfl
   try simp only[Act.put,List.setIfInBounds_toArray,List.set_cons_zero,List.set_cons_succ,List.getElem_toArray,List.getElem_cons_zero,List.getElem_cons_succ]
   refine WK.take (i:=2) (v:=?_) rfl (by kernel_rfl) (by kernel_rfl) (by kernel_rfl) rfl (fun _ _ _ h=>h) (Or.inl ⟨by rfl,?_⟩) ?_;rotate_left
   ·intro w hSw;try dsimp only at hSw
    go_simp;try with_reducible rfl
   try simp only[Act.put,List.setIfInBounds_toArray,List.set_cons_zero,List.set_cons_succ,List.getElem_toArray,List.getElem_cons_zero,List.getElem_cons_succ]
   refine WK.take (i:=3) (v:=?_) rfl (by kernel_rfl) (by kernel_rfl) (by kernel_rfl) rfl (fun _ _ _ h=>h) (Or.inl ⟨by rfl,?_⟩) ?_;rotate_left
   ·intro w hSw;try dsimp only at hSw
    go_simp;try with_reducible rfl
   try simp only[Act.put,List.setIfInBounds_toArray,List.set_cons_zero,List.set_cons_succ,List.getElem_toArray,List.getElem_cons_zero,List.getElem_cons_succ]
   refine WK.take2 (i:=4) (v:=?_) rfl (by kernel_rfl) (by kernel_rfl) (by kernel_rfl) rfl (.more (j:=30) (.of (by kernel_rfl)) (.of (by kernel_rfl))) (fun _ _ _ h=>h) (Or.inl ⟨by rfl,?_⟩) ?_;rotate_left
   ·intro w hSw;try dsimp only at hSw
    go_simp;try with_reducible rfl
   try simp only[Act.put,List.setIfInBounds_toArray,List.set_cons_zero,List.set_cons_succ,List.getElem_toArray,List.getElem_cons_zero,List.getElem_cons_succ]
   refine WK.take (i:=5) (v:=?_) rfl (by kernel_rfl) (by kernel_rfl) (by kernel_rfl) rfl (fun _ _ _ h=>h) (Or.inl ⟨by rfl,?_⟩) ?_;rotate_left
   ·intro w hSw;try dsimp only at hSw
    go_simp;try with_reducible rfl
   try simp only[Act.put,List.setIfInBounds_toArray,List.set_cons_zero,List.set_cons_succ,List.getElem_toArray,List.getElem_cons_zero,List.getElem_cons_succ]
   refine WK.take (i:=6) (v:=?_) rfl (by kernel_rfl) (by kernel_rfl) (by kernel_rfl) rfl (fun _ _ _ h=>h) (Or.inl ⟨by rfl,?_⟩) ?_;rotate_left
   ·intro w hSw;try dsimp only at hSw
    go_simp;try with_reducible rfl
   try simp only[Act.put,List.setIfInBounds_toArray,List.set_cons_zero,List.set_cons_succ,List.getElem_toArray,List.getElem_cons_zero,List.getElem_cons_succ]
   refine WK.take (i:=7) (v:=?_) rfl (by kernel_rfl) (by kernel_rfl) (by kernel_rfl) rfl (fun _ _ _ h=>h) (Or.inl ⟨by rfl,?_⟩) ?_;rotate_left
   ·intro w hSw;try dsimp only at hSw
    go_simp;try with_reducible rfl
   try simp only[Act.put,List.setIfInBounds_toArray,List.set_cons_zero,List.set_cons_succ,List.getElem_toArray,List.getElem_cons_zero,List.getElem_cons_succ]
   refine WK.take (i:=8) (v:=?_) rfl (by kernel_rfl) (by kernel_rfl) (by kernel_rfl) rfl (fun _ _ _ h=>h) (Or.inl ⟨by rfl,?_⟩) ?_;rotate_left
   ·intro w hSw;try dsimp only at hSw
    go_simp;try with_reducible rfl
   try simp only[Act.put,List.setIfInBounds_toArray,List.set_cons_zero,List.set_cons_succ,List.getElem_toArray,List.getElem_cons_zero,List.getElem_cons_succ]
   refine WK.take (i:=9) (v:=?_) rfl (by kernel_rfl) (by kernel_rfl) (by kernel_rfl) rfl (fun _ _ _ h=>h) (Or.inl ⟨by rfl,?_⟩) ?_;rotate_left
   ·intro w hSw;try dsimp only at hSw
    go_simp;try with_reducible rfl
   try simp only[Act.put,List.setIfInBounds_toArray,List.set_cons_zero,List.set_cons_succ,List.getElem_toArray,List.getElem_cons_zero,List.getElem_cons_succ]
   refine WK.take (i:=10) (v:=?_) rfl (by kernel_rfl) (by kernel_rfl) (by kernel_rfl) rfl (fun _ _ _ h=>h) (Or.inl ⟨by rfl,?_⟩) ?_;rotate_left
   ·intro w hSw;try dsimp only at hSw
    go_simp;try with_reducible rfl
   try simp only[Act.put,List.setIfInBounds_toArray,List.set_cons_zero,List.set_cons_succ,List.getElem_toArray,List.getElem_cons_zero,List.getElem_cons_succ]
   refine WK.take (i:=11) (v:=?_) rfl (by kernel_rfl) (by kernel_rfl) (by kernel_rfl) rfl (fun _ _ _ h=>h) (Or.inl ⟨by rfl,?_⟩) ?_;rotate_left
   ·intro w hSw;try dsimp only at hSw
    go_simp;try with_reducible rfl
   try simp only[Act.put,List.setIfInBounds_toArray,List.set_cons_zero,List.set_cons_succ,List.getElem_toArray,List.getElem_cons_zero,List.getElem_cons_succ]
   refine WK.take (i:=12) (v:=?_) rfl (by kernel_rfl) (by kernel_rfl) (by kernel_rfl) rfl (fun _ _ _ h=>h) (Or.inl ⟨by rfl,?_⟩) ?_;rotate_left
   ·intro w hSw;try dsimp only at hSw
    go_simp;try with_reducible rfl
   try simp only[Act.put,List.setIfInBounds_toArray,List.set_cons_zero,List.set_cons_succ,List.getElem_toArray,List.getElem_cons_zero,List.getElem_cons_succ]
   refine WK.take (i:=13) (v:=?_) rfl (by kernel_rfl) (by kernel_rfl) (by kernel_rfl) rfl (fun _ _ _ h=>h) (Or.inl ⟨by rfl,?_⟩) ?_;rotate_left
   ·intro w hSw;try dsimp only at hSw
    go_simp;try with_reducible rfl
   try simp only[Act.put,List.setIfInBounds_toArray,List.set_cons_zero,List.set_cons_succ,List.getElem_toArray,List.getElem_cons_zero,List.getElem_cons_succ]
   refine WK.take (i:=14) (v:=?_) rfl (by kernel_rfl) (by kernel_rfl) (by kernel_rfl) rfl (fun _ _ _ h=>h) (Or.inl ⟨by rfl,?_⟩) ?_;rotate_left
   ·intro w hSw;try dsimp only at hSw
    go_simp;try with_reducible rfl
   try simp only[Act.put,List.setIfInBounds_toArray,List.set_cons_zero,List.set_cons_succ,List.getElem_toArray,List.getElem_cons_zero,List.getElem_cons_succ]
   refine WK.take (i:=15) (v:=?_) rfl (by kernel_rfl) (by kernel_rfl) (by kernel_rfl) rfl (fun _ _ _ h=>h) (Or.inl ⟨by rfl,?_⟩) ?_;rotate_left
   ·intro w hSw;try dsimp only at hSw
    go_simp;try with_reducible rfl
   try simp only[Act.put,List.setIfInBounds_toArray,List.set_cons_zero,List.set_cons_succ,List.getElem_toArray,List.getElem_cons_zero,List.getElem_cons_succ]
   refine WK.take (i:=16) (v:=?_) rfl (by kernel_rfl) (by kernel_rfl) (by kernel_rfl) rfl (fun _ _ _ h=>h) (Or.inl ⟨by rfl,?_⟩) ?_;rotate_left
   ·intro w hSw;try dsimp only at hSw
    go_simp;try with_reducible rfl
   try simp only[Act.put,List.setIfInBounds_toArray,List.set_cons_zero,List.set_cons_succ,List.getElem_toArray,List.getElem_cons_zero,List.getElem_cons_succ]
   refine WK.take (i:=17) (v:=?_) rfl (by kernel_rfl) (by kernel_rfl) (by kernel_rfl) rfl (fun _ _ _ h=>h) (Or.inl ⟨by rfl,?_⟩) ?_;rotate_left
   ·intro w hSw;try dsimp only at hSw
    go_simp;try with_reducible rfl
   try simp only[Act.put,List.setIfInBounds_toArray,List.set_cons_zero,List.set_cons_succ,List.getElem_toArray,List.getElem_cons_zero,List.getElem_cons_succ]
   refine WK.take (i:=18) (v:=?_) rfl (by kernel_rfl) (by kernel_rfl) (by kernel_rfl) rfl (fun _ _ _ h=>h) (Or.inl ⟨by rfl,?_⟩) ?_;rotate_left
   ·intro w hSw;try dsimp only at hSw
    go_simp;try with_reducible rfl
   try simp only[Act.put,List.setIfInBounds_toArray,List.set_cons_zero,List.set_cons_succ,List.getElem_toArray,List.getElem_cons_zero,List.getElem_cons_succ]
   refine WK.take (i:=19) (v:=?_) rfl (by kernel_rfl) (by kernel_rfl) (by kernel_rfl) rfl (fun _ _ _ h=>h) (Or.inl ⟨by rfl,?_⟩) ?_;rotate_left
   ·intro w hSw;try dsimp only at hSw
    go_simp;try with_reducible rfl
   try simp only[Act.put,List.setIfInBounds_toArray,List.set_cons_zero,List.set_cons_succ,List.getElem_toArray,List.getElem_cons_zero,List.getElem_cons_succ]
   refine WK.take (i:=20) (v:=?_) rfl (by kernel_rfl) (by kernel_rfl) (by kernel_rfl) rfl (fun _ _ _ h=>h) (Or.inl ⟨by rfl,?_⟩) ?_;rotate_left
   ·intro w hSw;try dsimp only at hSw
    go_simp;try with_reducible rfl
   try simp only[Act.put,List.setIfInBounds_toArray,List.set_cons_zero,List.set_cons_succ,List.getElem_toArray,List.getElem_cons_zero,List.getElem_cons_succ]
   refine WK.take (i:=21) (v:=?_) rfl (by kernel_rfl) (by kernel_rfl) (by kernel_rfl) rfl (fun _ _ _ h=>h) (Or.inl ⟨by rfl,?_⟩) ?_;rotate_left
   ·intro w hSw;try dsimp only at hSw
    go_simp;try with_reducible rfl
   try simp only[Act.put,List.setIfInBounds_toArray,List.set_cons_zero,List.set_cons_succ,List.getElem_toArray,List.getElem_cons_zero,List.getElem_cons_succ]
   refine WK.take (i:=22) (v:=?_) rfl (by kernel_rfl) (by kernel_rfl) (by kernel_rfl) rfl (fun _ _ _ h=>h) (Or.inl ⟨by rfl,?_⟩) ?_;rotate_left
   ·intro w hSw;try dsimp only at hSw
    go_simp;try with_reducible rfl
   try simp only[Act.put,List.setIfInBounds_toArray,List.set_cons_zero,List.set_cons_succ,List.getElem_toArray,List.getElem_cons_zero,List.getElem_cons_succ]
   refine WK.take (i:=23) (v:=?_) rfl (by kernel_rfl) (by kernel_rfl) (by kernel_rfl) rfl (fun _ _ _ h=>h) (Or.inl ⟨by rfl,?_⟩) ?_;rotate_left
   ·intro w hSw;try dsimp only at hSw
    go_simp;try with_reducible rfl
   try simp only[Act.put,List.setIfInBounds_toArray,List.set_cons_zero,List.set_cons_succ,List.getElem_toArray,List.getElem_cons_zero,List.getElem_cons_succ]
   refine WK.take (i:=24) (v:=?_) rfl (by kernel_rfl) (by kernel_rfl) (by kernel_rfl) rfl (fun _ _ _ h=>h) (Or.inl ⟨by rfl,?_⟩) ?_;rotate_left
   ·intro w hSw;try dsimp only at hSw
    go_simp;try with_reducible rfl
   try simp only[Act.put,List.setIfInBounds_toArray,List.set_cons_zero,List.set_cons_succ,List.getElem_toArray,List.getElem_cons_zero,List.getElem_cons_succ]
   refine WK.take (i:=25) (v:=?_) rfl (by kernel_rfl) (by kernel_rfl) (by kernel_rfl) rfl (fun _ _ _ h=>h) (Or.inl ⟨by rfl,?_⟩) ?_;rotate_left
   ·intro w hSw;try dsimp only at hSw
    go_simp;try with_reducible rfl
   try simp only[Act.put,List.setIfInBounds_toArray,List.set_cons_zero,List.set_cons_succ,List.getElem_toArray,List.getElem_cons_zero,List.getElem_cons_succ]
   refine WK.take (i:=26) (v:=?_) rfl (by kernel_rfl) (by kernel_rfl) (by kernel_rfl) rfl (fun _ _ _ h=>h) (Or.inl ⟨by rfl,?_⟩) ?_;rotate_left
   ·intro w hSw;try dsimp only at hSw
    go_simp;try with_reducible rfl
   try simp only[Act.put,List.setIfInBounds_toArray,List.set_cons_zero,List.set_cons_succ,List.getElem_toArray,List.getElem_cons_zero,List.getElem_cons_succ]
   refine WK.one (i:=27) (by kernel_rfl) rfl (fun K hK=>?_);go_simp
   (go_at_call 30;refine(Aa H22').mono ?_;clear H22';rintro e w5 ⟨X2,rfl,hI5,hb5⟩;have hB5:=(Aa HBT).still hb5;have s6:=hB5.cells.a6;have s8:=hB5.cells.a8;have s9:=hB5.cells.a9;have s9z:=hB5.cells.z 9;have sl:=hB5.cells.lf ci lf0 hlf;have su:=hB5.cells.u k _ hu;have sr:=hB5.cells.RN;simp only at s6 s8 s9;rw[hul]at s8;rw[Aa HMS]at s9;obtain⟨xa,xn,xc,hX⟩:=WC hI5;subst hX;have HI5:=Ab hI5;have Hb5:=Ab hb5;have HB5:=Ab hB5;have HX5:=Ab (Bu (Aa HXS) (D6 hb5));clear hI5 hB5 hb5)
   go_wp2_with fail
   refine hK.out _ _ ⟨s6,sl,s8,su⟩ s9 ?_;clear hK K;try simp only[Act.put,List.setIfInBounds_toArray,List.set_cons_zero,List.set_cons_succ,List.getElem_toArray,List.getElem_cons_zero,List.getElem_cons_succ]
   refine WK.take (i:=28) (v:=?_) rfl (by kernel_rfl) (by kernel_rfl) (by kernel_rfl) rfl (fun _ _ _ h=>h) (Or.inl ⟨by rfl,?_⟩) ?_;rotate_left
   ·intro w hSw;try dsimp only at hSw
    go_simp;try with_reducible rfl
   try simp only[Act.put,List.setIfInBounds_toArray,List.set_cons_zero,List.set_cons_succ,List.getElem_toArray,List.getElem_cons_zero,List.getElem_cons_succ]
   refine WK.one (i:=29) (by kernel_rfl) rfl (fun K hK=>?_);go_simp;refine hK.out _ _ (by go_keep) (by go_keep) ?_;clear hK K;try simp only[Act.put,List.setIfInBounds_toArray,List.set_cons_zero,List.set_cons_succ,List.getElem_toArray,List.getElem_cons_zero,List.getElem_cons_succ]
   refine WK.one (i:=30) (by kernel_rfl) rfl (fun K hK=>?_)
   (refine Bs rfl (.tmp 112) (.tmp 137) 36 rfl 0 55 i0 (.agg #[.int .i64 0,.int .i64 0,.int .i64 0,.int .i64 0,.int .i64 0,.int .i64 0,.slice none 0 0]) 7 72 Tryz.underlying36 hi hz0 hz1 hz2 rfl (by decide) (.slice ma s.made.length mc) s.made.length (tab DF s.made) rfl (by exact(Aa HX5).alloc _) ⟨w5.heap.size,0,none⟩ 1 1 (DF (⟨ci,lf0,li,sq+1,u,0,v⟩,.slice xa xn xc)) rfl rfl (by exact Xw w5 _) (by simp[Value.oneCell',DF]) (by unfold maxLen;omega) (by omega) (by omega) ?_;intro v' wz hown hgrow hat;obtain⟨va,vn,vc,hvs⟩:=Ar hown;subst hvs;have hB6:=(Aa HBT).aaa (Aa Hb5) (M':=.slice va vn vc) (m:=⟨ci,lf0,li,sq+1,u,0,v⟩) (Aa HI5) hown (by rw[show _=(Value.slice ma s.made.length mc) from Aa HMS];exact hgrow) (by rw[show _=(Value.slice ma s.made.length mc) from Aa HMS];exact NQ (by simpa using hat));have t6:=hB6.cells.a6;have t8:=hB6.cells.a8;have tl:=hB6.cells.lf ci lf0 hlf;have tu:=hB6.cells.u k _ hu;simp only at t6 t8;rw[hul]at t8;have HB6:=Ab hB6;have hgr:=(Aa HGR) _ _ _ (Aa HB5) hgrow;obtain⟨g6,gl,g8,gu,g9,g9z⟩:=hgr;clear hB6 hown hgrow hat)
   refine hK.out _ _ ⟨g6,gl,g8,gu⟩ g9 ?_;clear hK K;try simp only[Act.put,List.setIfInBounds_toArray,List.set_cons_zero,List.set_cons_succ,List.getElem_toArray,List.getElem_cons_zero,List.getElem_cons_succ]
   refine WK.take (i:=31) (v:=?_) rfl (by kernel_rfl) (by kernel_rfl) (by kernel_rfl) rfl (fun _ _ _ h=>h) (Or.inl ⟨by rfl,?_⟩) ?_;rotate_left
   ·intro w hSw;try dsimp only at hSw
    go_simp;try with_reducible rfl
   try simp only[Act.put,List.setIfInBounds_toArray,List.set_cons_zero,List.set_cons_succ,List.getElem_toArray,List.getElem_cons_zero,List.getElem_cons_succ]
   refine WK.take (i:=32) (v:=?_) rfl (by kernel_rfl) (by kernel_rfl) (by kernel_rfl) rfl (fun _ _ _ h=>h) (Or.inl ⟨by rfl,?_⟩) ?_;rotate_left
   ·intro w hSw;try dsimp only at hSw
    go_simp;try with_reducible rfl
   try simp only[Act.put,List.setIfInBounds_toArray,List.set_cons_zero,List.set_cons_succ,List.getElem_toArray,List.getElem_cons_zero,List.getElem_cons_succ]
   refine WK.store (by kernel_rfl) rfl (fun K hK=>?_);go_simp;refine hK.out _ _ (by go_keep) ?_;clear hK K;try simp only[Act.put,List.setIfInBounds_toArray,List.set_cons_zero,List.set_cons_succ,List.getElem_toArray,List.getElem_cons_zero,List.getElem_cons_succ]
   refine WK.done (by kernel_rfl) ?_;have t7:=(Aa HB6).cells.a7;have ts:=(Aa HB6).cells.sq kk (sq+1) (by simp[hkl2]);simp only[List.length_set]at t7;go_wp2_with fail
   go_returns;exact⟨rfl,_,_,Aa HB6⟩
 ·subst hp0;go_enter Tryz.func12,Tryz.ntmps12;go_wp2_with (first|(go_at_call 11;refine((Aa H10) _).mono ?_;clear H10;rintro e w1 ⟨rfl,hw1⟩;rw[hw1];clear hw1))
  refine((Aa H22) _).mono ?_;rintro e w1 ⟨X,rfl,hI,hb1⟩;have d0:w1.cell? ⟨q.r,0,none⟩=some (ptr q.x):=((Aa HH).still hb1).cells.a0;have HB1:=Ab hb1;have HI:=Ab hI;clear hb1 hI;go_wp2_with fail
  refine((Aa H15) _ (Aa HB1)).mono ?_;rintro e w2 ⟨⟨oa,on,oc,rfl⟩,hb2⟩;have hb12:=(Aa HB1).trans (hb2.mono (Aa HB1).size);have HI2:=Ab (Dc (Aa HI) hb2);have HB12:=Ab hb12;clear hb2 hb12;obtain⟨W2,hW2⟩:∃W2,w2.alloc (.cells #[.int .i64 st,.int .i64 sq,.slice oa on oc] 46)=W2:=⟨_,rfl⟩;have hbW:Below w2.heap.size w2 W2:=by
   rw[<-hW2];exact(Below.refl _ _).alloc (Nat.le_refl _) _
  have hsW:W2.heap.size=w2.heap.size+1:=by rw[<-hW2];simp
  have hBW:=((Aa HH).still (Aa HB12)).still hbW;have x0:=hBW.cells.a0;have x8:=hBW.cells.a8;rw[hul]at x8;have xu:=hBW.cells.u k _ hu;have HC:=Ab ((Aa H23) w2 W2.drew X (Aa HB12) hbW.drew (Dc (Aa HI2) hbW.drew));have hbox:W2.heap[w2.heap.size]?=some (.cells #[.int .i64 st,.int .i64 sq,.slice oa on oc] 46 (0,0)):=by
   rw[<-hW2];exact heap_alloc_new w2 _
  have HBOX:=Ab hbox;have HW2:=Ab hW2;have HSW:=Ab hsW;clear H23 HH H15 HI HB1 d0 c0 hbW hBW hW2 hbox hsW HI2;go_wp2_with fail
  rw[Aa HW2];go_region_held3 (fun w'=>w'.cell? ⟨q.r,0,none⟩=some (ptr q.x)/\w'.cell? ⟨q.r,8,none⟩=some (.slice (some ⟨q.ud,0,none⟩) 3 3)/\w'.cell? ⟨q.ud,k,none⟩=some (.int .i64 u)) (go_keep) ((go_at_call 31;refine(Aa HC).mono ?_;rintro e w3 ⟨rfl,hB3,hkp⟩;have HKP:=Ab hkp;have y0:=hB3.cells.a0;have y8:=hB3.cells.a8;have yu:=hB3.cells.u k _ hu;rw[hul]at y8;have HB3:=Ab hB3;clear hkp hB3))
  have hbx3:w3.heap[w2.heap.size]?=some (.cells #[.int .i64 st,.int .i64 sq,.slice oa on oc] 46 (0,0)):=((Aa HKP) w2.heap.size (Nat.le_refl _) (by have:=Aa HSW;simp;omega)).trans (Aa HBOX);have b0:w3.cell? ⟨w2.heap.size,0,none⟩=some (.int .i64 st):=cell_of hbx3 0 _ rfl;have b1:w3.cell? ⟨w2.heap.size,1,none⟩=some (.int .i64 sq):=cell_of hbx3 1 _ rfl;have y7:=(Aa HB3).cells.a7;have ys:=(Aa HB3).cells.sq kk _ hsq;have yz:=(Aa HB3).cells.zs kk;clear hbx3 HKP HBOX HC x0 x8 xu;go_wp2_with fail
  go_quiet (fail);have HB4:=Ab (fun n=>((Aa HB3).still (JX n)).aci kk (sq+1));clear HB3;go_wp2_with fail
  refine D7 (fun W=>Beside w0 mb mo q p c {s with seq:=s.seq.set kk (sq+1)} G' W) ?_ ?_
  ·exact(Aa HB4) _
  ·clear HB4 y0 y8 yu b0 b1 y7 ys yz HW2 HSW;intro W4 hB4;have z6:=hB4.cells.a6;have z8:=hB4.cells.a8;have z9:=hB4.cells.a9;have zl:=hB4.cells.lf ci lf0 hlf;have zu:=hB4.cells.u k _ hu;have zr:=hB4.cells.RN;simp only at z6 z8 z9;rw[hul]at z8;have hrun:=hB4.run;obtain⟨tp,E,F,hr,hEF⟩:=hrun;have hxs:=hr.M;have hsl:=Bg hxs;obtain⟨ma,mc,hMs⟩:=hsl;simp only at hMs hxs;rw[hMs]at z9 hxs;have HXS:=Ab hxs;have HMS:=Ab hMs;have HBT:=Ab (hB4.still (Below.refl _ _).drew);have H22':=Ab ((Aa H22) W4.drew);obtain⟨i0,hi,hz0,hz1,hz2⟩:=info_parts Ww;have HGR:Hid (∀w5 wz o,Beside w0 mb mo q p c {s with seq:=s.seq.set kk (sq+1)} G' w5->(w5.alloc o).grownBy wz (Value.slice ma s.made.length mc).ownBlock->wz.cell? ⟨q.r,6,none⟩=some (.slice (some ⟨q.lf,0,none⟩) s.Ag.length s.Ag.length)/\wz.cell? ⟨q.lf,ci,none⟩=some (.int .i64 lf0)/\wz.cell? ⟨q.r,8,none⟩=some (.slice (some ⟨q.ud,0,none⟩) 3 3)/\wz.cell? ⟨q.ud,k,none⟩=some (.int .i64 u)/\wz.cell? ⟨q.r,9,none⟩=some (.slice ma s.made.length mc)/\wz.frozen? ⟨q.r,9,none⟩=false):=fun w5 wz o hB hg=>by
    obtain⟨tp,E,F,hr5,_⟩:=hB.run;have hys:=hr5.M;simp only at hys;rw[Aa HMS]at hys;have e1:=DC hg hr5.cell (A6 hys hr5.cell (by decide));have e2:=DC hg hr5.lf (A6 hys hr5.lf (by decide));have e3:=DC hg hr5.ud (A6 hys hr5.ud (by decide));refine⟨cell_of e1 6 _ rfl,AY e2 (EB hlf),?_,AY e3 (EB hu),?_,open_list e1⟩
    ·have h8:wz.cell? ⟨q.r,8,none⟩=some (.slice (some ⟨q.ud,0,none⟩) s.uid.length s.uid.length):=cell_of e1 8 _ rfl;rw[hul]at h8;exact h8
    ·have h9:wz.cell? ⟨q.r,9,none⟩=some s.M:=cell_of e1 9 _ rfl;rw[Aa HMS]at h9;exact h9
   clear hr hEF hxs hMs hB4 H22;refine WK.begin (S:=(fun w'=>w'.cell? ⟨q.r,6,none⟩=some (.slice (some ⟨q.lf,0,none⟩) s.Ag.length s.Ag.length)/\w'.cell? ⟨q.lf,ci,none⟩=some (.int .i64 lf0)/\w'.cell? ⟨q.r,8,none⟩=some (.slice (some ⟨q.ud,0,none⟩) 3 3)/\w'.cell? ⟨q.ud,k,none⟩=some (.int .i64 u))) (T:=(fun w'=>w'.cell? ⟨q.r,9,none⟩=some (.slice ma s.made.length mc))) (k:=33) (by kernel_rfl) ?_ ?_ ?_
   ·exact⟨z6,zl,z8,zu⟩
   ·exact z9
   refine WK.take (i:=0) (v:=?_) rfl (by kernel_rfl) (by kernel_rfl) (by kernel_rfl) rfl (fun _ _ _ h=>h) (Or.inl ⟨by rfl,?_⟩) ?_;rotate_left
   ·intro w hSw;try dsimp only at hSw
    go_simp;try with_reducible rfl
   try simp only[Act.put,List.setIfInBounds_toArray,List.set_cons_zero,List.set_cons_succ,List.getElem_toArray,List.getElem_cons_zero]
   refine WK.take (i:=1) (v:=?_) rfl (by kernel_rfl) (by kernel_rfl) (by kernel_rfl) rfl (fun _ _ _ h=>h) (Or.inl ⟨by rfl,?_⟩) ?_;rotate_left
   ·intro w hSw;try dsimp only at hSw
    go_simp;try with_reducible rfl
   try simp only[Act.put,List.setIfInBounds_toArray,List.set_cons_zero,List.set_cons_succ,List.getElem_toArray,List.getElem_cons_zero,List.getElem_cons_succ]
   refine WK.take (i:=2) (v:=?_) rfl (by kernel_rfl) (by kernel_rfl) (by kernel_rfl) rfl (fun _ _ _ h=>h) (Or.inl ⟨by rfl,?_⟩) ?_;rotate_left
   ·intro w hSw;try dsimp only at hSw
    go_simp;try with_reducible rfl
   try simp only[Act.put,List.setIfInBounds_toArray,List.set_cons_zero,List.set_cons_succ,List.getElem_toArray,List.getElem_cons_zero,List.getElem_cons_succ]
   refine WK.take (i:=3) (v:=?_) rfl (by kernel_rfl) (by kernel_rfl) (by kernel_rfl) rfl (fun _ _ _ h=>h) (Or.inl ⟨by rfl,?_⟩) ?_;rotate_left
   ·intro w hSw;try dsimp only at hSw
    go_simp;try with_reducible rfl
   try simp only[Act.put,List.setIfInBounds_toArray,List.set_cons_zero,List.set_cons_succ,List.getElem_toArray,List.getElem_cons_zero,List.getElem_cons_succ]
   refine WK.take2 (i:=4) (v:=?_) rfl (by kernel_rfl) (by kernel_rfl) (by kernel_rfl) rfl (.more (j:=30) (.of (by kernel_rfl)) (.of (by kernel_rfl))) (fun _ _ _ h=>h) (Or.inl ⟨by rfl,?_⟩) ?_;rotate_left
   ·intro w hSw;try dsimp only at hSw
    go_simp;try with_reducible rfl
   try simp only[Act.put,List.setIfInBounds_toArray,List.set_cons_zero,List.set_cons_succ,List.getElem_toArray,List.getElem_cons_zero,List.getElem_cons_succ]
   refine WK.take (i:=5) (v:=?_) rfl (by kernel_rfl) (by kernel_rfl) (by kernel_rfl) rfl (fun _ _ _ h=>h) (Or.inl ⟨by rfl,?_⟩) ?_;rotate_left
   ·intro w hSw;try dsimp only at hSw
    go_simp;try with_reducible rfl
   try simp only[Act.put,List.setIfInBounds_toArray,List.set_cons_zero,List.set_cons_succ,List.getElem_toArray,List.getElem_cons_zero,List.getElem_cons_succ]
   refine WK.take (i:=6) (v:=?_) rfl (by kernel_rfl) (by kernel_rfl) (by kernel_rfl) rfl (fun _ _ _ h=>h) (Or.inl ⟨by rfl,?_⟩) ?_;rotate_left
   ·intro w hSw;try dsimp only at hSw
    go_simp;try with_reducible rfl
   try simp only[Act.put,List.setIfInBounds_toArray,List.set_cons_zero,List.set_cons_succ,List.getElem_toArray,List.getElem_cons_zero,List.getElem_cons_succ]
   refine WK.take (i:=7) (v:=?_) rfl (by kernel_rfl) (by kernel_rfl) (by kernel_rfl) rfl (fun _ _ _ h=>h) (Or.inl ⟨by rfl,?_⟩) ?_;rotate_left
   ·intro w hSw;try dsimp only at hSw
    go_simp;try with_reducible rfl
   try simp only[Act.put,List.setIfInBounds_toArray,List.set_cons_zero,List.set_cons_succ,List.getElem_toArray,List.getElem_cons_zero,List.getElem_cons_succ]
   refine WK.take (i:=8) (v:=?_) rfl (by kernel_rfl) (by kernel_rfl) (by kernel_rfl) rfl (fun _ _ _ h=>h) (Or.inl ⟨by rfl,?_⟩) ?_;rotate_left
   ·intro w hSw;try dsimp only at hSw
    go_simp;try with_reducible rfl
   try simp only[Act.put,List.setIfInBounds_toArray,List.set_cons_zero,List.set_cons_succ,List.getElem_toArray,List.getElem_cons_zero,List.getElem_cons_succ]
   refine WK.take (i:=9) (v:=?_) rfl (by kernel_rfl) (by kernel_rfl) (by kernel_rfl) rfl (fun _ _ _ h=>h) (Or.inl ⟨by rfl,?_⟩) ?_;rotate_left
   ·intro w hSw;try dsimp only at hSw
    go_simp;try with_reducible rfl
   try simp only[Act.put,List.setIfInBounds_toArray,List.set_cons_zero,List.set_cons_succ,List.getElem_toArray,List.getElem_cons_zero,List.getElem_cons_succ]
   refine WK.take (i:=10) (v:=?_) rfl (by kernel_rfl) (by kernel_rfl) (by kernel_rfl) rfl (fun _ _ _ h=>h) (Or.inl ⟨by rfl,?_⟩) ?_;rotate_left
   ·intro w hSw;try dsimp only at hSw
    go_simp;try with_reducible rfl
   try simp only[Act.put,List.setIfInBounds_toArray,List.set_cons_zero,List.set_cons_succ,List.getElem_toArray,List.getElem_cons_zero,List.getElem_cons_succ]
   refine WK.take (i:=11) (v:=?_) rfl (by kernel_rfl) (by kernel_rfl) (by kernel_rfl) rfl (fun _ _ _ h=>h) (Or.inl ⟨by rfl,?_⟩) ?_;rotate_left
   ·intro w hSw;try dsimp only at hSw
    go_simp;try with_reducible rfl
   try simp only[Act.put,List.setIfInBounds_toArray,List.set_cons_zero,List.set_cons_succ,List.getElem_toArray,List.getElem_cons_zero,List.getElem_cons_succ]
   refine WK.take (i:=12) (v:=?_) rfl (by kernel_rfl) (by kernel_rfl) (by kernel_rfl) rfl (fun _ _ _ h=>h) (Or.inl ⟨by rfl,?_⟩) ?_;rotate_left
   ·intro w hSw;try dsimp only at hSw
    go_simp;try with_reducible rfl
   try simp only[Act.put,List.setIfInBounds_toArray,List.set_cons_zero,List.set_cons_succ,List.getElem_toArray,List.getElem_cons_zero,List.getElem_cons_succ]
   refine WK.take (i:=13) (v:=?_) rfl (by kernel_rfl) (by kernel_rfl) (by kernel_rfl) rfl (fun _ _ _ h=>h) (Or.inl ⟨by rfl,?_⟩) ?_;rotate_left
   ·intro w hSw;try dsimp only at hSw
    go_simp;try with_reducible rfl
   try simp only[Act.put,List.setIfInBounds_toArray,List.set_cons_zero,List.set_cons_succ,List.getElem_toArray,List.getElem_cons_zero,List.getElem_cons_succ]
   refine WK.take (i:=14) (v:=?_) rfl (by kernel_rfl) (by kernel_rfl) (by kernel_rfl) rfl (fun _ _ _ h=>h) (Or.inl ⟨by rfl,?_⟩) ?_;rotate_left
   ·intro w hSw;try dsimp only at hSw
    go_simp;try with_reducible rfl
   try simp only[Act.put,List.setIfInBounds_toArray,List.set_cons_zero,List.set_cons_succ,List.getElem_toArray,List.getElem_cons_zero,List.getElem_cons_succ]
   refine WK.take (i:=15) (v:=?_) rfl (by kernel_rfl) (by kernel_rfl) (by kernel_rfl) rfl (fun _ _ _ h=>h) (Or.inl ⟨by rfl,?_⟩) ?_;rotate_left
   ·intro w hSw;try dsimp only at hSw
    go_simp;try with_reducible rfl
   try simp only[Act.put,List.setIfInBounds_toArray,List.set_cons_zero,List.set_cons_succ,List.getElem_toArray,List.getElem_cons_zero,List.getElem_cons_succ]
   refine WK.take (i:=16) (v:=?_) rfl (by kernel_rfl) (by kernel_rfl) (by kernel_rfl) rfl (fun _ _ _ h=>h) (Or.inl ⟨by rfl,?_⟩) ?_;rotate_left
   ·intro w hSw;try dsimp only at hSw
    go_simp;try with_reducible rfl
   try simp only[Act.put,List.setIfInBounds_toArray,List.set_cons_zero,List.set_cons_succ,List.getElem_toArray,List.getElem_cons_zero,List.getElem_cons_succ]
   refine WK.take (i:=17) (v:=?_) rfl (by kernel_rfl) (by kernel_rfl) (by kernel_rfl) rfl (fun _ _ _ h=>h) (Or.inl ⟨by rfl,?_⟩) ?_;rotate_left
   ·intro w hSw;try dsimp only at hSw
    go_simp;try with_reducible rfl
   try simp only[Act.put,List.setIfInBounds_toArray,List.set_cons_zero,List.set_cons_succ,List.getElem_toArray,List.getElem_cons_zero,List.getElem_cons_succ]
   refine WK.take (i:=18) (v:=?_) rfl (by kernel_rfl) (by kernel_rfl) (by kernel_rfl) rfl (fun _ _ _ h=>h) (Or.inl ⟨by rfl,?_⟩) ?_;rotate_left
   ·intro w hSw;try dsimp only at hSw
    go_simp;try with_reducible rfl
   try simp only[Act.put,List.setIfInBounds_toArray,List.set_cons_zero,List.set_cons_succ,List.getElem_toArray,List.getElem_cons_zero,List.getElem_cons_succ]
   refine WK.take (i:=19) (v:=?_) rfl (by kernel_rfl) (by kernel_rfl) (by kernel_rfl) rfl (fun _ _ _ h=>h) (Or.inl ⟨by rfl,?_⟩) ?_;rotate_left
   ·intro w hSw;try dsimp only at hSw
    go_simp;try with_reducible rfl
   try simp only[Act.put,List.setIfInBounds_toArray,List.set_cons_zero,List.set_cons_succ,List.getElem_toArray,List.getElem_cons_zero,List.getElem_cons_succ]
   refine WK.take (i:=20) (v:=?_) rfl (by kernel_rfl) (by kernel_rfl) (by kernel_rfl) rfl (fun _ _ _ h=>h) (Or.inl ⟨by rfl,?_⟩) ?_;rotate_left
   ·intro w hSw;try dsimp only at hSw
    go_simp;try with_reducible rfl
   try simp only[Act.put,List.setIfInBounds_toArray,List.set_cons_zero,List.set_cons_succ,List.getElem_toArray,List.getElem_cons_zero,List.getElem_cons_succ]
   refine WK.take (i:=21) (v:=?_) rfl (by kernel_rfl) (by kernel_rfl) (by kernel_rfl) rfl (fun _ _ _ h=>h) (Or.inl ⟨by rfl,?_⟩) ?_;rotate_left
   ·intro w hSw;try dsimp only at hSw
    go_simp;try with_reducible rfl
   try simp only[Act.put,List.setIfInBounds_toArray,List.set_cons_zero,List.set_cons_succ,List.getElem_toArray,List.getElem_cons_zero,List.getElem_cons_succ]
   refine WK.take (i:=22) (v:=?_) rfl (by kernel_rfl) (by kernel_rfl) (by kernel_rfl) rfl (fun _ _ _ h=>h) (Or.inl ⟨by rfl,?_⟩) ?_;rotate_left
   ·intro w hSw;try dsimp only at hSw
    go_simp;try with_reducible rfl
   try simp only[Act.put,List.setIfInBounds_toArray,List.set_cons_zero,List.set_cons_succ,List.getElem_toArray,List.getElem_cons_zero,List.getElem_cons_succ]
   refine WK.take (i:=23) (v:=?_) rfl (by kernel_rfl) (by kernel_rfl) (by kernel_rfl) rfl (fun _ _ _ h=>h) (Or.inl ⟨by rfl,?_⟩) ?_;rotate_left
   ·intro w hSw;try dsimp only at hSw
    go_simp;try with_reducible rfl
   try simp only[Act.put,List.setIfInBounds_toArray,List.set_cons_zero,List.set_cons_succ,List.getElem_toArray,List.getElem_cons_zero,List.getElem_cons_succ]
   refine WK.take (i:=24) (v:=?_) rfl (by kernel_rfl) (by kernel_rfl) (by kernel_rfl) rfl (fun _ _ _ h=>h) (Or.inl ⟨by rfl,?_⟩) ?_;rotate_left
   ·intro w hSw;try dsimp only at hSw
    go_simp;try with_reducible rfl
   try simp only[Act.put,List.setIfInBounds_toArray,List.set_cons_zero,List.set_cons_succ,List.getElem_toArray,List.getElem_cons_zero,List.getElem_cons_succ]
   refine WK.take (i:=25) (v:=?_) rfl (by kernel_rfl) (by kernel_rfl) (by kernel_rfl) rfl (fun _ _ _ h=>h) (Or.inl ⟨by rfl,?_⟩) ?_;rotate_left
   ·intro w hSw;try dsimp only at hSw
    go_simp;try with_reducible rfl
   try simp only[Act.put,List.setIfInBounds_toArray,List.set_cons_zero,List.set_cons_succ,List.getElem_toArray,List.getElem_cons_zero,List.getElem_cons_succ]
   refine WK.take (i:=26) (v:=?_) rfl (by kernel_rfl) (by kernel_rfl) (by kernel_rfl) rfl (fun _ _ _ h=>h) (Or.inl ⟨by rfl,?_⟩) ?_;rotate_left
   ·intro w hSw;try dsimp only at hSw
    go_simp;try with_reducible rfl
   try simp only[Act.put,List.setIfInBounds_toArray,List.set_cons_zero,List.set_cons_succ,List.getElem_toArray,List.getElem_cons_zero,List.getElem_cons_succ]
   refine WK.one (i:=27) (by kernel_rfl) rfl (fun K hK=>?_);go_simp
   (go_at_call 30;refine(Aa H22').mono ?_;clear H22';rintro e w5 ⟨X2,rfl,hI5,hb5⟩;have hB5:=(Aa HBT).still hb5;have s6:=hB5.cells.a6;have s8:=hB5.cells.a8;have s9:=hB5.cells.a9;have s9z:=hB5.cells.z 9;have sl:=hB5.cells.lf ci lf0 hlf;have su:=hB5.cells.u k _ hu;have sr:=hB5.cells.RN;simp only at s6 s8 s9;rw[hul]at s8;rw[Aa HMS]at s9;obtain⟨xa,xn,xc,hX⟩:=WC hI5;subst hX;have HI5:=Ab hI5;have Hb5:=Ab hb5;have HB5:=Ab hB5;have HX5:=Ab (Bu (Aa HXS) (D6 hb5));clear hI5 hB5 hb5)
   go_wp2_with fail
   refine hK.out _ _ ⟨s6,sl,s8,su⟩ s9 ?_;clear hK K;try simp only[Act.put,List.setIfInBounds_toArray,List.set_cons_zero,List.set_cons_succ,List.getElem_toArray,List.getElem_cons_zero,List.getElem_cons_succ]
   refine WK.take (i:=28) (v:=?_) rfl (by kernel_rfl) (by kernel_rfl) (by kernel_rfl) rfl (fun _ _ _ h=>h) (Or.inl ⟨by rfl,?_⟩) ?_;rotate_left
   ·intro w hSw;try dsimp only at hSw
    go_simp;try with_reducible rfl
   try simp only[Act.put,List.setIfInBounds_toArray,List.set_cons_zero,List.set_cons_succ,List.getElem_toArray,List.getElem_cons_zero,List.getElem_cons_succ]
   refine WK.one (i:=29) (by kernel_rfl) rfl (fun K hK=>?_);go_simp;refine hK.out _ _ (by go_keep) (by go_keep) ?_;clear hK K;try simp only[Act.put,List.setIfInBounds_toArray,List.set_cons_zero,List.set_cons_succ,List.getElem_toArray,List.getElem_cons_zero,List.getElem_cons_succ]
   refine WK.one (i:=30) (by kernel_rfl) rfl (fun K hK=>?_)
   (refine Bs rfl (.tmp 112) (.tmp 137) 36 rfl 0 55 i0 (.agg #[.int .i64 0,.int .i64 0,.int .i64 0,.int .i64 0,.int .i64 0,.int .i64 0,.slice none 0 0]) 7 72 Tryz.underlying36 hi hz0 hz1 hz2 rfl (by decide) (.slice ma s.made.length mc) s.made.length (tab DF s.made) rfl (by exact(Aa HX5).alloc _) ⟨w5.heap.size,0,none⟩ 1 1 (DF (⟨ci,lf0,li,sq+1,u,(pr0:Int),v⟩,.slice xa xn xc)) rfl rfl (by exact Xw w5 _) (by simp[Value.oneCell',DF]) (by unfold maxLen;omega) (by omega) (by omega) ?_;intro v' wz hown hgrow hat;obtain⟨va,vn,vc,hvs⟩:=Ar hown;subst hvs;have hB6:=(Aa HBT).aaa (Aa Hb5) (M':=.slice va vn vc) (m:=⟨ci,lf0,li,sq+1,u,(pr0:Int),v⟩) (Aa HI5) hown (by rw[show _=(Value.slice ma s.made.length mc) from Aa HMS];exact hgrow) (by rw[show _=(Value.slice ma s.made.length mc) from Aa HMS];exact NQ (by simpa using hat));have t6:=hB6.cells.a6;have t8:=hB6.cells.a8;have tl:=hB6.cells.lf ci lf0 hlf;have tu:=hB6.cells.u k _ hu;simp only at t6 t8;rw[hul]at t8;have HB6:=Ab hB6;have hgr:=(Aa HGR) _ _ _ (Aa HB5) hgrow;obtain⟨g6,gl,g8,gu,g9,g9z⟩:=hgr;clear hB6 hown hgrow hat)
   refine hK.out _ _ ⟨g6,gl,g8,gu⟩ g9 ?_;clear hK K;try simp only[Act.put,List.setIfInBounds_toArray,List.set_cons_zero,List.set_cons_succ,List.getElem_toArray,List.getElem_cons_zero,List.getElem_cons_succ]
   refine WK.take (i:=31) (v:=?_) rfl (by kernel_rfl) (by kernel_rfl) (by kernel_rfl) rfl (fun _ _ _ h=>h) (Or.inl ⟨by rfl,?_⟩) ?_;rotate_left
   ·intro w hSw;try dsimp only at hSw
    go_simp;try with_reducible rfl
   try simp only[Act.put,List.setIfInBounds_toArray,List.set_cons_zero,List.set_cons_succ,List.getElem_toArray,List.getElem_cons_zero,List.getElem_cons_succ]
   refine WK.take (i:=32) (v:=?_) rfl (by kernel_rfl) (by kernel_rfl) (by kernel_rfl) rfl (fun _ _ _ h=>h) (Or.inl ⟨by rfl,?_⟩) ?_;rotate_left
   ·intro w hSw;try dsimp only at hSw
    go_simp;try with_reducible rfl
   try simp only[Act.put,List.setIfInBounds_toArray,List.set_cons_zero,List.set_cons_succ,List.getElem_toArray,List.getElem_cons_zero,List.getElem_cons_succ]
   refine WK.store (by kernel_rfl) rfl (fun K hK=>?_);go_simp;refine hK.out _ _ (by go_keep) ?_;clear hK K;try simp only[Act.put,List.setIfInBounds_toArray,List.set_cons_zero,List.set_cons_succ,List.getElem_toArray,List.getElem_cons_zero,List.getElem_cons_succ]
   refine WK.done (by kernel_rfl) ?_;have t7:=(Aa HB6).cells.a7;have ts:=(Aa HB6).cells.sq kk (sq+1) (by simp[hkl2]);simp only[List.length_set]at t7;go_wp2_with fail
   go_returns;exact⟨rfl,_,_,Aa HB6⟩
end Go.Proofs.YtblomippkddgiaaGreatDoor
