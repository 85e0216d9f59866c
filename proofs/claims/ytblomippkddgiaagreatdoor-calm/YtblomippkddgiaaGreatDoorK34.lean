import Derived.Test.YtblomippkddgiaaGreatDoorK33
set_option maxRecDepth 100000
set_option maxHeartbeats 4000000
namespace Go.Proofs.YtblomippkddgiaaGreatDoor
open Go.RowKit
abbrev IJ(P:Pk):Obj:=.cells #[.int .i64 P.kind,.int .i64 P.client,.int .i64 P.Ag,.int .i64 P.line,.int .i64 P.seq,.int .i64 P.uid,.int .i64 P.part,.int .i64 P.off,.bool P.please,.string (str P.body)] 41
structure J6(W:World)(b:Nat)(P:Pk):Prop where
 g0:W.cell? ⟨b,0,none⟩=some (.int .i64 P.kind)
 g1:W.cell? ⟨b,1,none⟩=some (.int .i64 P.client)
 g2:W.cell? ⟨b,2,none⟩=some (.int .i64 P.Ag)
 g3:W.cell? ⟨b,3,none⟩=some (.int .i64 P.line)
 g4:W.cell? ⟨b,4,none⟩=some (.int .i64 P.seq)
 g5:W.cell? ⟨b,5,none⟩=some (.int .i64 P.uid)
 g6:W.cell? ⟨b,6,none⟩=some (.int .i64 P.part)
 g7:W.cell? ⟨b,7,none⟩=some (.int .i64 P.off)
 g8:W.cell? ⟨b,8,none⟩=some (.bool P.please)
 g9:W.cell? ⟨b,9,none⟩=some (.string (str P.body))
theorem KT{W:World}{b:Nat}{P:Pk}(h:W.heap[b]?=some (IJ P)):J6 W b P:=⟨cell_of h 0 _ rfl,cell_of h 1 _ rfl,cell_of h 2 _ rfl,cell_of h 3 _ rfl,cell_of h 4 _ rfl,cell_of h 5 _ rfl,cell_of h 6 _ rfl,cell_of h 7 _ rfl,cell_of h 8 _ rfl,cell_of h 9 _ rfl⟩
theorem Xe(w:World)(s:Nat)(L:Value)(hL:L=.pointer none\/∃b,L=pt b)(P:Pk)(Post:World->Prop)
  (HV:Hid (∀wa,Below w.heap.size w wa->Calls Tryz.prog 233 #[pt s,.int .i64 P.uid] wa fun e w'=>e=.returned (.bool false)/\w'=wa))
  (HQ:Hid (∀wa,Below w.heap.size w wa->Calls Tryz.prog 234 #[pt s,pv P,.int .i64 0] wa fun e w'=>e=.returned (.tuple #[])/\Post w')):
  Calls Tryz.prog 199 #[pt s,L,pv P] w fun e w'=>e=.returned (.tuple #[])/\Post w':=by
 have HB:Hid (∀o,Below w.heap.size w (w.alloc o)):=fun o=>(Below.refl _ _).alloc (Nat.le_refl _) _
 have hL':∃a,L=.pointer a:=by
  rcases hL with rfl|⟨b,rfl⟩
  ·exact⟨_,rfl⟩
  ·exact⟨_,rfl⟩
 obtain⟨a,rfl⟩:=hL';clear hL;go_enter Tryz.func199,Tryz.ntmps199;go_wp2_with (first|(go_at_call 233;refine((Aa HV) _ ((Aa HB) _)).mono ?_;rintro e w1 ⟨rfl,hw1⟩;rw[hw1];clear hw1)|(go_at_call 234;refine((Aa HQ) _ ((Aa HB) _)).mono ?_;rintro e w3 ⟨rfl,hw3⟩))
 go_returns;exact⟨rfl,hw3⟩
theorem Xg(w:World)(s:Nat)(L:Value)(hL:L=.pointer none\/∃b,L=pt b)(P:Pk)(Post:World->Prop)(hk:P.kind=3\/¬P.part=0)
  (HV:Hid (∀wa,Below w.heap.size w wa->Calls Tryz.prog 233 #[pt s,.int .i64 P.uid] wa fun e w'=>e=.returned (.bool true)/\w'=wa))
  (HQ:Hid (∀wa,Below w.heap.size w wa->Post wa)):
  Calls Tryz.prog 199 #[pt s,L,pv P] w fun e w'=>e=.returned (.tuple #[])/\Post w':=by
 have HB:Hid (∀o,Below w.heap.size w (w.alloc o)):=fun o=>(Below.refl _ _).alloc (Nat.le_refl _) _
 have hL':∃a,L=.pointer a:=by
  rcases hL with rfl|⟨b,rfl⟩
  ·exact⟨_,rfl⟩
  ·exact⟨_,rfl⟩
 obtain⟨a,rfl⟩:=hL';clear hL;by_cases h3:P.kind=3
 ·have e1:(P.kind==3)=true:=by simpa using h3
  clear h3 hk;go_enter Tryz.func199,Tryz.ntmps199;go_wp2_with (first|(go_at_call 233;refine((Aa HV) _ ((Aa HB) _)).mono ?_;rintro e w1 ⟨rfl,hw1⟩;rw[hw1];clear hw1))
  go_returns;exact⟨rfl,(Aa HQ) _ ((Aa HB) _)⟩
 ·have e1:(P.kind==3)=false:=by simpa using h3
  have e2:(P.part != 0)=true:=by simp;omega
  clear h3 hk;go_enter Tryz.func199,Tryz.ntmps199;go_wp2_with (first|(go_at_call 233;refine((Aa HV) _ ((Aa HB) _)).mono ?_;rintro e w1 ⟨rfl,hw1⟩;rw[hw1];clear hw1))
  go_returns;exact⟨rfl,(Aa HQ) _ ((Aa HB) _)⟩
theorem Xf(w:World)(s n:Nat)(tb:Int)(P:Pk)(Post:World->Prop)(s4:w.cell? ⟨s,4,none⟩=some (.int .i64 tb))(hn:(n:Int)=tb)(hk:¬P.kind=3)(hpa:P.part=0)
  (HV:Hid (∀wa,Below w.heap.size w wa->Calls Tryz.prog 233 #[pt s,.int .i64 P.uid] wa fun e w'=>e=.returned (.bool true)/\w'=wa))
  (HM:Hid (∀wa,Below w.heap.size w wa->Calls Tryz.prog 71 #[pt s] wa fun e w'=>∃a cap,e=.returned (.slice a n cap)/\Below wa.heap.size wa w'))
  (HQ:Hid (∀wa,Below w.heap.size w wa->Calls Tryz.prog 234 #[pt s,pv P,.int .i64 1] wa fun e w'=>e=.returned (.tuple #[])/\Post w')):
  Calls Tryz.prog 199 #[pt s,.pointer none,pv P] w fun e w'=>e=.returned (.tuple #[])/\Post w':=by
 have HB:Hid (∀o,Below w.heap.size w (w.alloc o)):=fun o=>(Below.refl _ _).alloc (Nat.le_refl _) _
 have e1:(P.kind==3)=false:=by simpa using hk
 have e2:(P.part != 0)=false:=by simp;omega
 have e3:((n:Int)==tb)=true:=by simpa using hn
 have hl:=lt_of_cell s4;have HF:Hid (∀w1,Below (w.alloc (IJ P)).drew.heap.size (w.alloc (IJ P)).drew w1->Below w.heap.size w w1/\w1.cell? ⟨s,4,none⟩=some (.int .i64 tb)/\J6 w1 w.heap.size P):=fun w1 h1=>by
  have hb:Below w.heap.size w w1:=((Aa HB) (IJ P)).drew.trans (h1.mono (by simp));refine⟨hb,(hb.cell (p:=⟨s,4,none⟩) hl).trans s4,KT ?_⟩;rw[h1.block _ (by simp)];exact heap_alloc_new w _
 clear hn hk hpa;go_enter Tryz.func199,Tryz.ntmps199;go_wp2_with (first|(go_at_call 233;refine((Aa HV) _ ((Aa HB) _)).mono ?_;rintro e w1 ⟨rfl,hw1⟩;rw[hw1];clear hw1)|fail)
 go_region_held3 (fun w'=>w'.cell? ⟨s,4,none⟩=some (.int .i64 tb)) (go_keep) (first|(go_at_call 71;refine((Aa HM) _ ((Aa HB) _).drew).mono ?_;rintro e w1 ⟨a1,c1,rfl,hw1⟩;have hf:=(Aa HF) w1 hw1;obtain⟨hb1,f4,⟨g0,g1,g2,g3,g4,g5,g6,g7,g8,g9⟩⟩:=hf;have HB1:=Ab hb1;clear hw1 hb1))
 all_goals
  go_wp2_with (first|(go_at_call 234;refine((Aa HQ) _ (Aa HB1)).mono ?_;rintro e w3 ⟨rfl,hw3⟩))
  go_returns;exact⟨rfl,hw3⟩
structure Made(w:World)(s:Nat)(cs:List Value)(i:Nat)(P:Pk)(b:Nat)(W:World):Prop where
 ge:w.heap.size<=b
 keep:Af (fun k=>k=s) w W
 cells:W.heap[s]?=some (.cells (cs.set (10+i) (pt b)).toArray 167 (0,0))
 line:W.heap[b]?=some (.cells #[.int .i64 P.client,.int .i64 P.Ag,.int .i64 P.line,.int .i64 P.seq,.int .i64 P.uid,.int .i64 0,.string ⟨#[]⟩,.string ⟨#[]⟩,.int .i64 0,.int .i64 0,.int .i64 0] 147 (0,0))
theorem WV{w W:World}{s:Nat}{cs:List Value}{P:Pk}{i j:Nat}{o:Obj}(h:w.heap[s]?=some (.cells cs.toArray 167 (0,0)))(hb:Below w.heap.size w W)(hB:W.heap[w.heap.size]?=some o)(hj:j=10+i):Made w s cs i P W.heap.size ((W.alloc (.cells #[.int .i64 P.client,.int .i64 P.Ag,.int .i64 P.line,.int .i64 P.seq,.int .i64 P.uid,.int .i64 0,.string ⟨#[]⟩,.string ⟨#[]⟩,.int .i64 0,.int .i64 0,.int .i64 0] 147)).setCell ⟨s,j,none⟩ (pt W.heap.size))/\((W.alloc (.cells #[.int .i64 P.client,.int .i64 P.Ag,.int .i64 P.line,.int .i64 P.seq,.int .i64 P.uid,.int .i64 0,.string ⟨#[]⟩,.string ⟨#[]⟩,.int .i64 0,.int .i64 0,.int .i64 0] 147)).setCell ⟨s,j,none⟩ (pt W.heap.size)).heap[w.heap.size]?=some o:=by
 subst hj;have hl:=lt_of_block h;have hs:=hb.size;have hlo:=(Array.getElem?_eq_some_iff.1 hB).1;have h1:W.heap[s]?=some (.cells cs.toArray 167 (0,0)):=by rw[hb.block s hl];exact h
 have h2:(W.alloc (.cells #[.int .i64 P.client,.int .i64 P.Ag,.int .i64 P.line,.int .i64 P.seq,.int .i64 P.uid,.int .i64 0,.string ⟨#[]⟩,.string ⟨#[]⟩,.int .i64 0,.int .i64 0,.int .i64 0] 147)).heap[s]?=some (.cells cs.toArray 167 (0,0)):=(Below.heap_alloc _ _ _ (by omega)).trans h1;refine⟨⟨hs,((Af.Aj hb _).alloc _).trans (Am _),Ak (cs:=cs) (off:=10+i) h2 _,?_⟩,?_⟩
 ·rw[Below.heap_setCell _ _ _ _ (by simp;omega)];exact heap_alloc_new W _
 ·rw[Below.heap_setCell _ _ _ _ (by simp;omega),Below.heap_alloc _ _ _ hlo];exact hB
abbrev Ke(P:Pk):Obj:=.cells #[.int .i64 P.client,.int .i64 P.Ag,.int .i64 P.line,.int .i64 P.seq,.int .i64 P.uid,.int .i64 0,.string ⟨#[]⟩,.string ⟨#[]⟩,.int .i64 0,.int .i64 0,.int .i64 0] 147
def Ox(w:World)(s:Nat)(cs:List Value)(i:Nat)(P:Pk)(b:Nat)(V:World):Prop:=Made w s cs i P b V/\V.heap[w.heap.size]?=some (IJ P)
theorem PD{w W:World}{s:Nat}{cs:List Value}{P:Pk}{i j:Nat}(h:w.heap[s]?=some (.cells cs.toArray 167 (0,0)))(hW:Boxed w w (IJ P) W)(hj:j=10+i):Ox w s cs i P W.heap.size ((W.setCell ⟨s,j,none⟩ (pt W.heap.size)).alloc (Ke P)).drew:=by
 have hl:=lt_of_block h;have hs:=hW.1.size;have e:(W.alloc (Ke P)).setCell ⟨s,j,none⟩ (pt W.heap.size)=(W.setCell ⟨s,j,none⟩ (pt W.heap.size)).alloc (Ke P):=World.setCell_alloc_past (Ke P) s j _ (by omega);rw[<-e];obtain⟨⟨q1,q2,q3,q4⟩,q5⟩:=WV (P:=P) (i:=i) (j:=j) h hW.1 hW.2 hj;exact⟨⟨q1,q2.drew,q3,q4⟩,q5⟩
theorem Xh(w:World)(s b ci ni:Nat)(cs:List Value)(P:Pk)(Post:World->Prop)(h:w.heap[s]?=some (.cells cs.toArray 167 (0,0)))(old:Option Addr)(hold:cs[10+(3*ci+ni)]?=some (.pointer old))(hci:P.client=(ci:Int))(hni:P.line=(ni:Int))(h3:ci<3)(h3':ni<3)(hk:¬P.kind=3)(hpa:P.part=0)
  (HV:Hid (∀wa,Below w.heap.size w wa->Calls Tryz.prog 233 #[pt s,.int .i64 P.uid] wa fun e w'=>e=.returned (.bool true)/\w'=wa))
  (HG:Hid (∀b' W,Made w s cs (3*ci+ni) P b' W->Calls Tryz.prog 236 #[pt s,pt b',pv P] W fun e w'=>e=.returned (.tuple #[])/\Post w')):
  Calls Tryz.prog 199 #[pt s,pt b,pv P] w fun e w'=>e=.returned (.tuple #[])/\Post w':=by
 have HB:Hid (∀o,Below w.heap.size w (w.alloc o)):=fun o=>(Below.refl _ _).alloc (Nat.le_refl _) _
 have HC:=Ab (fun w=>Gl P w);have e1:(P.kind==3)=false:=by simpa using hk
 have e2:(P.part != 0)=false:=by simp;omega
 have hl:=lt_of_block h;have HF:Hid (∀m w1,Below ((w.alloc (IJ P)).drewN m).heap.size ((w.alloc (IJ P)).drewN m) w1->Boxed w w (IJ P) w1):=fun m w1 h1=>by
  refine⟨(below_drewN ((Aa HB) (IJ P)) m).trans (h1.mono (by simp)),?_⟩;rw[h1.block _ (by simp)];exact heap_alloc_new w _
 have HW:Hid (∀W,Boxed w w (IJ P) W->J6 W w.heap.size P/\W.cell? ⟨s,10+ci*3+ni,none⟩=some (.pointer old)/\W.frozen? ⟨s,10+ci*3+ni,none⟩=false/\s<W.heap.size/\w.heap.size<W.heap.size):=fun W hW=>by
  have h1:W.heap[s]?=some (.cells cs.toArray 167 (0,0)):=by rw[hW.1.block s hl];exact h
  have hold':cs[10+ci*3+ni]?=some (.pointer old):=by rw[<-hold];congr 1;omega
  exact⟨KT hW.2,AY h1 hold',open_list h1,lt_of_block h1,(Array.getElem?_eq_some_iff.1 hW.2).1⟩
 have HMB:Hid (∀W,Boxed w w (IJ P) W->Ox w s cs (3*ci+ni) P W.heap.size ((W.setCell ⟨s,10+ci*3+ni,none⟩ (pt W.heap.size)).alloc (Ke P)).drew):=fun W hW=>PD h hW (by omega)
 have HN:Hid (∀b' V,Ox w s cs (3*ci+ni) P b' V->J6 V w.heap.size P/\Calls Tryz.prog 236 #[pt s,pt b',pv P] V fun e w'=>e=.returned (.tuple #[])/\Post w'):=fun b' V hV=>⟨KT hV.2,(Aa HG) b' V hV.1⟩
 clear HG h;obtain⟨kd,cl,li,ln,sq',u,pa,o,pl,body⟩:=P;dsimp only[pv,cv,IJ,Ke]at *;subst hci hni;have q1:(0:Int)<=(ci:Int):=by omega
 have q2:(ci:Int)<3:=by omega
 have q3:(0:Int)<=(ni:Int):=by omega
 have q4:(ni:Int)<3:=by omega
 clear hk hpa;go_enter Tryz.func199,Tryz.ntmps199;go_wp2_with (first|(go_at_call 233;refine((Aa HV) _ ((Aa HB) _)).mono ?_;rintro e w1 ⟨rfl,hw1⟩;rw[hw1];clear hw1)|fail)
 go_quiet (fail);go_wp2_with (first|(go_at_call 235;refine((Aa HC) _).mono ?_;rintro e w1 ⟨rfl,hw1⟩;have hW:=(Aa HF) _ w1 hw1;have HW1:=Ab hW;have hw2:=(Aa HW) w1 hW;obtain⟨⟨g0,g1,g2,g3,g4,g5,g6,g7,g8,g9⟩,f1,f2,f3,f4⟩:=hw2;clear hw1 hW)|fail)
 go_region
 all_goals
  refine AL _ ((Aa HMB) w1 (Aa HW1)) ?_;intro V hV;have hn:=(Aa HN) _ V hV;obtain⟨⟨y0,y1,y2,y3,y4,y5,y6,y7,y8,y9⟩,hc⟩:=hn;have HQ:=Ab hc;clear hV hc;go_wp2_with (first|(go_at_call 236;refine(Aa HQ).mono ?_;rintro e w3 ⟨rfl,hw3⟩))
  go_returns;exact⟨rfl,hw3⟩
theorem Xi(w:World)(s n ci ni:Nat)(tb:Int)(cs:List Value)(P:Pk)(Post:World->Prop)(h:w.heap[s]?=some (.cells cs.toArray 167 (0,0)))(old:Option Addr)(hold:cs[10+(3*ci+ni)]?=some (.pointer old))(hci:P.client=(ci:Int))(hni:P.line=(ni:Int))(h3:ci<3)(h3':ni<3)(hk:¬P.kind=3)(hpa:P.part=0)(s4:w.cell? ⟨s,4,none⟩=some (.int .i64 tb))(hn:¬(n:Int)=tb)
  (HM:Hid (∀wa,Below w.heap.size w wa->Calls Tryz.prog 71 #[pt s] wa fun e w'=>∃a cap,e=.returned (.slice a n cap)/\Below wa.heap.size wa w'))
  (HV:Hid (∀wa,Below w.heap.size w wa->Calls Tryz.prog 233 #[pt s,.int .i64 P.uid] wa fun e w'=>e=.returned (.bool true)/\w'=wa))
  (HG:Hid (∀b' W,Made w s cs (3*ci+ni) P b' W->Calls Tryz.prog 236 #[pt s,pt b',pv P] W fun e w'=>e=.returned (.tuple #[])/\Post w')):
  Calls Tryz.prog 199 #[pt s,.pointer none,pv P] w fun e w'=>e=.returned (.tuple #[])/\Post w':=by
 have HB:Hid (∀o,Below w.heap.size w (w.alloc o)):=fun o=>(Below.refl _ _).alloc (Nat.le_refl _) _
 have HC:=Ab (fun w=>Gl P w);have e1:(P.kind==3)=false:=by simpa using hk
 have e2:(P.part != 0)=false:=by simp;omega
 have e3:((n:Int)==tb)=false:=by simpa using hn
 have hl:=lt_of_block h;have HF:Hid (∀w1,Below (w.alloc (IJ P)).drew.heap.size (w.alloc (IJ P)).drew w1->Boxed w w (IJ P) w1):=fun w1 h1=>by
  refine⟨((Aa HB) (IJ P)).drew.trans (h1.mono (by simp)),?_⟩;rw[h1.block _ (by simp)];exact heap_alloc_new w _
 have HF2:Hid (∀W w1,Boxed w w (IJ P) W->Below W.heap.size W w1->Boxed w w (IJ P) w1):=fun W w1 hW h1=>by
  refine⟨hW.1.trans (h1.mono hW.1.size),?_⟩;rw[h1.block _ (Array.getElem?_eq_some_iff.1 hW.2).1];exact hW.2
 have HW:Hid (∀W,Boxed w w (IJ P) W->J6 W w.heap.size P/\W.cell? ⟨s,10+ci*3+ni,none⟩=some (.pointer old)/\W.frozen? ⟨s,10+ci*3+ni,none⟩=false/\s<W.heap.size/\w.heap.size<W.heap.size):=fun W hW=>by
  have h1:W.heap[s]?=some (.cells cs.toArray 167 (0,0)):=by rw[hW.1.block s hl];exact h
  have hold':cs[10+ci*3+ni]?=some (.pointer old):=by rw[<-hold];congr 1;omega
  exact⟨KT hW.2,AY h1 hold',open_list h1,lt_of_block h1,(Array.getElem?_eq_some_iff.1 hW.2).1⟩
 have HMB:Hid (∀W,Boxed w w (IJ P) W->Ox w s cs (3*ci+ni) P W.heap.size ((W.setCell ⟨s,10+ci*3+ni,none⟩ (pt W.heap.size)).alloc (Ke P)).drew):=fun W hW=>PD h hW (by omega)
 have HN:Hid (∀b' V,Ox w s cs (3*ci+ni) P b' V->J6 V w.heap.size P/\Calls Tryz.prog 236 #[pt s,pt b',pv P] V fun e w'=>e=.returned (.tuple #[])/\Post w'):=fun b' V hV=>⟨KT hV.2,(Aa HG) b' V hV.1⟩
 clear HG h;obtain⟨kd,cl,li,ln,sq',u,pa,o,pl,body⟩:=P;dsimp only[pv,cv,IJ,Ke]at *;subst hci hni;have q1:(0:Int)<=(ci:Int):=by omega
 have q2:(ci:Int)<3:=by omega
 have q3:(0:Int)<=(ni:Int):=by omega
 have q4:(ni:Int)<3:=by omega
 clear hk hpa hn;go_enter Tryz.func199,Tryz.ntmps199;go_wp2_with (first|(go_at_call 233;refine((Aa HV) _ ((Aa HB) _)).mono ?_;rintro e w1 ⟨rfl,hw1⟩;rw[hw1];clear hw1)|fail)
 go_region_held3 (fun w'=>w'.cell? ⟨s,4,none⟩=some (.int .i64 tb)) (go_keep) (first|(go_at_call 71;refine((Aa HM) _ ((Aa HB) _).drew).mono ?_;rintro e w0 ⟨a1,c1,rfl,hw0⟩;have hW0:=(Aa HF) w0 hw0;have HW0:=Ab hW0;have hx0:=(Aa HW) w0 hW0;obtain⟨⟨u0,u1,u2,u3,u4,u5,u6,u7,u8,u9⟩,v1,v2,v3,v4⟩:=hx0;have f40:w0.cell? ⟨s,4,none⟩=some (.int .i64 tb):=(hW0.1.cell (p:=⟨s,4,none⟩) hl).trans s4;clear hw0 hW0))
 all_goals
  go_wp2_with (first|(go_at_call 235;refine((Aa HC) _).mono ?_;rintro e w1 ⟨rfl,hw1⟩;have hW:=(Aa HF2) _ w1 (Aa HW0) hw1;have HW1:=Ab hW;have hw2:=(Aa HW) w1 hW;obtain⟨⟨g0,g1,g2,g3,g4,g5,g6,g7,g8,g9⟩,f1,f2,f3,f4⟩:=hw2;clear hw1 hW)|fail)
  go_region
  all_goals
   refine AL _ ((Aa HMB) w1 (Aa HW1)) ?_;intro V hV;have hn:=(Aa HN) _ V hV;obtain⟨⟨y0,y1,y2,y3,y4,y5,y6,y7,y8,y9⟩,hc⟩:=hn;have HQ:=Ab hc;clear hV hc;go_wp2_with (first|(go_at_call 236;refine(Aa HQ).mono ?_;rintro e w3 ⟨rfl,hw3⟩))
   go_returns;exact⟨rfl,hw3⟩
theorem X7(w:World)(s:Nat)(P:Pk):
  Calls Tryz.prog 138 #[pt s,.pointer none,pv P] w fun e w'=>e=.returned (.tuple #[])/\Below w.heap.size w w':=by
 have HB:Hid (∀o,Below w.heap.size w (w.alloc o)):=fun o=>(Below.refl _ _).alloc (Nat.le_refl _) _
 go_enter Tryz.func138,Tryz.ntmps138;go_wp2_with fail
 go_quiet (fail);go_wp2;go_returns;exact⟨rfl,below_drewN ((Aa HB) _) _⟩
theorem ZJ(w:World)(s b:Nat)(sq st:Int)(P:Pk)(h3:w.cell? ⟨b,3,none⟩=some (.int .i64 sq))(h5:w.cell? ⟨b,5,none⟩=some (.int .i64 st))(hn:¬sq=P.seq\/¬st=2):
  Calls Tryz.prog 138 #[pt s,pt b,pv P] w fun e w'=>e=.returned (.tuple #[])/\Below w.heap.size w w':=by
 have HB:Hid (∀o,Below w.heap.size w (w.alloc o)):=fun o=>(Below.refl _ _).alloc (Nat.le_refl _) _
 have hl:=lt_of_cell h3;by_cases h:sq=P.seq
 ·have e1:(sq != P.seq)=false:=by simpa using h
  have e2:(st != 2)=true:=by simp;omega
  clear hn h;go_enter Tryz.func138,Tryz.ntmps138;go_wp2_with fail
  go_quiet (fail);go_wp2;go_returns;exact⟨rfl,below_drewN ((Aa HB) _) _⟩
 ·have e1:(sq != P.seq)=true:=by simpa using h
  clear hn h;go_enter Tryz.func138,Tryz.ntmps138;go_wp2_with fail
  go_quiet (fail);go_wp2;go_returns;exact⟨rfl,below_drewN ((Aa HB) _) _⟩
theorem Vf(w:World)(s b:Nat)(n at':Int)(S:ByteArray)(last:Bool)(P:Pk)(Post:World->Prop)(h3:w.cell? ⟨b,3,none⟩=some (.int .i64 P.seq))(h5:w.cell? ⟨b,5,none⟩=some (.int .i64 2))(h7:w.cell? ⟨b,7,none⟩=some (.string S))(h8:w.cell? ⟨b,8,none⟩=some (.int .i64 at'))(z8:w.frozen? ⟨b,8,none⟩=false)(hat:0<=at'/\at'<=100)
  (H187:Hid (∀w,Calls Tryz.prog 187 #[.string S] w fun e w'=>e=.returned (.int .i64 n)/\w'=w))
  (H198:Hid (∀wa,Below w.heap.size w wa->Calls Tryz.prog 198 #[pt b] wa fun e w'=>e=.returned (.bool last)/\w'=wa.drew))
  (HN:Hid (¬P.off=n\/¬P.part=at'\/last=true->∀wa,Below w.heap.size w wa->Post wa))
  (HQ:Hid (P.off=n->P.part=at'->last=false->∀wa,Below w.heap.size (w.setCell ⟨b,8,none⟩ (.int .i64 (at'+1))) wa->Calls Tryz.prog 137 #[pt s,pt b] wa fun e w'=>e=.returned (.tuple #[])/\Post w')):
  Calls Tryz.prog 138 #[pt s,pt b,pv P] w fun e w'=>e=.returned (.tuple #[])/\Post w':=by
 have HB:Hid (∀o,Below w.heap.size w (w.alloc o)):=fun o=>(Below.refl _ _).alloc (Nat.le_refl _) _
 have hl:=lt_of_cell h3;have e1:(P.seq != P.seq)=false:=by simp
 have ew:IntKind.i64.wrap (at'+1)=at'+1:=by rw[IntKind.wrap_i64];omega
 have HF:Hid (∀m,Boxed w w (IJ P) ((w.alloc (IJ P)).drewN m)):=fun m=>⟨below_drewN ((Aa HB) _) m,heap_alloc_new w _⟩
 have HC:Hid (∀W,Boxed w w (IJ P) W->W.cell? ⟨b,7,none⟩=some (.string S)/\W.cell? ⟨b,8,none⟩=some (.int .i64 at')/\W.frozen? ⟨b,8,none⟩=false/\J6 W w.heap.size P/\b<W.heap.size/\(∀V,Below w.heap.size w V->True)):=fun W hW=>⟨(hW.1.cell (p:=⟨b,7,none⟩) hl).trans h7,(hW.1.cell (p:=⟨b,8,none⟩) hl).trans h8,(hW.1.frozen (p:=⟨b,8,none⟩) hl).trans z8,KT hW.2,Nat.lt_of_lt_of_le hl hW.1.size,fun _ _=>trivial⟩
 have HT:Hid (∀W,Boxed w w (IJ P) W->Below w.heap.size (w.setCell ⟨b,8,none⟩ (.int .i64 (at'+1))) (W.setCell ⟨b,8,none⟩ (.int .i64 (at'+1))).drew.drew):=fun W hW=>by
  refine⟨hW.1.os,hW.1.tape,hW.1.output,by simpa using hW.1.size,fun j hj=>?_⟩;by_cases e:j=b
  ·subst e;show (W.setCell ⟨j,8,none⟩ (.int .i64 (at'+1))).heap[j]?=_;simp only[World.setCell,Array.getElem?_modify,if_true];rw[hW.1.block j hj]
  ·show (W.setCell ⟨b,8,none⟩ (.int .i64 (at'+1))).heap[j]?=_;rw[Below.heap_setCell _ _ _ _ e,Below.heap_setCell _ _ _ _ e];exact hW.1.block j hj
 obtain⟨kd,cl,li,ln,sq',u,pa,o,pl,body⟩:=P;dsimp only[pv,cv,IJ]at *;by_cases h1:o=n
 ·have n1:(o != n)=false:=by simpa using h1
  by_cases h2:pa=at'
  ·have n2:(pa != at')=false:=by simpa using h2
   cases last with
   |true=>
    have HQ1:=Ab ((Aa HN) (Or.inr (Or.inr rfl)));clear HN HQ h1 h2;go_enter Tryz.func138,Tryz.ntmps138;go_wp2_with fail
    go_quiet (fail);go_wp2_with fail
    refine AL _ ((Aa HF) _) ?_;intro W hW;obtain⟨d7,d8,y8,⟨g0,g1,g2,g3,g4,g5,g6,g7,g8,g9⟩,hlW,_⟩:=(Aa HC) W hW;have HD:=Ab ((Aa H198) W.drew hW.1.drew);have HBW:=Ab hW.1.drew.drew;clear hW HF HC HT;go_region_held3 (fun w'=>w'.cell? ⟨b,7,none⟩=some (.string S)/\w'.cell? ⟨b,8,none⟩=some (.int .i64 at')/\w'.cell? ⟨w.heap.size,6,none⟩=some (.int .i64 pa)/\w'.cell? ⟨w.heap.size,7,none⟩=some (.int .i64 o)) (go_keep) (first|(go_at_call 187;refine((Aa H187) _).mono ?_;rintro e w1 ⟨rfl,hw1⟩;rw[hw1];clear hw1)|(go_at_call 198;refine(Aa HD).mono ?_;rintro e w1 ⟨rfl,hw1⟩;rw[hw1];clear hw1))
    all_goals
     go_wp2;go_returns;exact⟨rfl,(Aa HQ1) _ (Aa HBW)⟩
   |false=>
    have HQ1:=Ab ((Aa HQ) h1 h2 rfl);clear HN HQ h1 h2;go_enter Tryz.func138,Tryz.ntmps138;go_wp2_with fail
    go_quiet (fail);go_wp2_with fail
    refine AL _ ((Aa HF) _) ?_;intro W hW;obtain⟨d7,d8,y8,⟨g0,g1,g2,g3,g4,g5,g6,g7,g8,g9⟩,hlW,_⟩:=(Aa HC) W hW;have HD:=Ab ((Aa H198) W.drew hW.1.drew);have HTW:=Ab ((Aa HT) W hW);clear hW HF HC HT;go_region_held3 (fun w'=>w'.cell? ⟨b,7,none⟩=some (.string S)/\w'.cell? ⟨b,8,none⟩=some (.int .i64 at')/\w'.cell? ⟨w.heap.size,6,none⟩=some (.int .i64 pa)/\w'.cell? ⟨w.heap.size,7,none⟩=some (.int .i64 o)) (go_keep) (first|(go_at_call 187;refine((Aa H187) _).mono ?_;rintro e w1 ⟨rfl,hw1⟩;rw[hw1];clear hw1)|(go_at_call 198;refine(Aa HD).mono ?_;rintro e w1 ⟨rfl,hw1⟩;rw[hw1];clear hw1))
    all_goals
     go_wp2_with (first|(go_at_call 137;refine((Aa HQ1) _ (Aa HTW)).mono ?_;rintro e w3 ⟨rfl,hw3⟩))
     go_returns;exact⟨rfl,hw3⟩
  ·have n2:(pa != at')=true:=by simpa using h2
   have HQ1:=Ab ((Aa HN) (Or.inr (Or.inl h2)));clear HN HQ h1 h2;go_enter Tryz.func138,Tryz.ntmps138;go_wp2_with fail
   go_quiet (fail);go_wp2_with fail
   refine AL _ ((Aa HF) _) ?_;intro W hW;obtain⟨d7,d8,y8,⟨g0,g1,g2,g3,g4,g5,g6,g7,g8,g9⟩,hlW,_⟩:=(Aa HC) W hW;have HBW:=Ab hW.1;clear hW HF HC HT;go_quiet (first|(go_at_call 187;refine Calls.quiet_of_same ((Aa H187) _)));all_goals
    go_wp2;go_returns;exact⟨rfl,(Aa HQ1) _ (below_drewN (Aa HBW) _)⟩
 ·have n1:(o != n)=true:=by simpa using h1
  have HQ1:=Ab ((Aa HN) (Or.inl h1));clear HN HQ h1;go_enter Tryz.func138,Tryz.ntmps138;go_wp2_with fail
  go_quiet (fail);go_wp2_with fail
  refine AL _ ((Aa HF) _) ?_;intro W hW;obtain⟨d7,d8,y8,⟨g0,g1,g2,g3,g4,g5,g6,g7,g8,g9⟩,hlW,_⟩:=(Aa HC) W hW;have HBW:=Ab hW.1;clear hW HF HC HT;go_quiet (first|(go_at_call 187;refine Calls.quiet_of_same ((Aa H187) _)));all_goals
   go_wp2;go_returns;exact⟨rfl,(Aa HQ1) _ (below_drewN (Aa HBW) _)⟩
theorem Vj(w:World)(s ci:Nat)(lv:Int)(P:Pk)(h7:w.cell? ⟨s,7+ci,none⟩=some (.int .i64 lv))(hci:P.client=(ci:Int))(h3:ci<3)(hlt:P.Ag<lv):
  Calls Tryz.prog 85 #[pt s,pv P] w fun e w'=>e=.returned (.tuple #[])/\Below w.heap.size w w':=by
 have HB:Hid (∀o,Below w.heap.size w (w.alloc o)):=fun o=>(Below.refl _ _).alloc (Nat.le_refl _) _
 have hl:=lt_of_cell h7;obtain⟨kd,cl,li,ln,sq',u,pa,o,pl,body⟩:=P;dsimp only[pv]at *;subst hci;have q1:(0:Int)<=(ci:Int):=by omega
 have q2:(ci:Int)<3:=by omega
 have e1:decide (li<lv)=true:=by simpa using hlt
 go_enter Tryz.func85,Tryz.ntmps85;go_wp2_with fail
 go_quiet (fail);go_wp2;go_returns;exact⟨rfl,below_drewN ((Aa HB) _) _⟩
theorem Sq(w:World)(s ci ni:Nat)(old:Option Addr)(P:Pk)(Post:World->Prop)(h7:w.cell? ⟨s,7+ci,none⟩=some (.int .i64 P.Ag))(h10:w.cell? ⟨s,10+ci*3+ni,none⟩=some (.pointer old))(hci:P.client=(ci:Int))(hni:P.line=(ni:Int))(h3:ci<3)(h3':ni<3)
  (HG:Hid (P.kind=6->∀wa,Below w.heap.size w wa->Calls Tryz.prog 138 #[pt s,.pointer old,pv P] wa fun e w'=>e=.returned (.tuple #[])/\Post w'))
  (HA:Hid (P.kind=1\/P.kind=3->∀wa,Below w.heap.size w wa->Calls Tryz.prog 139 #[pt s,.pointer old,pv P] wa fun e w'=>e=.returned (.tuple #[])/\Post w'))
  (HN:Hid (¬(P.kind=6\/P.kind=1\/P.kind=3)->∀wa,Below w.heap.size w wa->Post wa)):
  Calls Tryz.prog 85 #[pt s,pv P] w fun e w'=>e=.returned (.tuple #[])/\Post w':=by
 have HB:Hid (∀o n,Below w.heap.size w ((w.alloc o).drewN n)):=fun o n=>below_drewN ((Below.refl _ _).alloc (Nat.le_refl _) _) n
 have hl:=lt_of_cell h7;obtain⟨kd,cl,li,ln,sq',u,pa,o,pl,body⟩:=P;dsimp only[pv]at *;subst hci hni;have q1:(0:Int)<=(ci:Int):=by omega
 have q2:(ci:Int)<3:=by omega
 have q3:(0:Int)<=(ni:Int):=by omega
 have q4:(ni:Int)<3:=by omega
 have e1:decide (li<li)=false:=by simp
 by_cases k6:kd=6
 ·have HQ:=Ab ((Aa HG) k6);subst k6;clear HG HA HN;go_enter Tryz.func85,Tryz.ntmps85;go_wp2_with fail
  go_quiet (fail);go_wp2_with fail
  go_quiet (fail);go_wp2_with fail
  go_quiet (fail);go_wp2_with (first|(go_at_call 138;refine((Aa HQ) _ ((Aa HB) _ _)).mono ?_;rintro e w3 ⟨rfl,hw3⟩))
  go_returns;exact⟨rfl,hw3⟩
 ·have n6:(kd==6)=false:=by simpa using k6
  by_cases k1:kd=1
  ·have HQ:=Ab ((Aa HA) (Or.inl k1));subst k1;clear HG HA HN k6;go_enter Tryz.func85,Tryz.ntmps85;go_wp2_with fail
   go_quiet (fail);go_wp2_with fail
   go_quiet (fail);go_wp2_with fail
   go_quiet (fail);go_wp2_with (first|(go_at_call 139;refine((Aa HQ) _ ((Aa HB) _ _)).mono ?_;rintro e w3 ⟨rfl,hw3⟩))
   go_returns;exact⟨rfl,hw3⟩
  ·have n1:(kd==1)=false:=by simpa using k1
   by_cases k3:kd=3
   ·have HQ:=Ab ((Aa HA) (Or.inr k3));subst k3;clear HG HA HN k6 k1;go_enter Tryz.func85,Tryz.ntmps85;go_wp2_with fail
    go_quiet (fail);go_wp2_with fail
    go_quiet (fail);go_wp2_with fail
    go_quiet (fail);go_wp2_with (first|(go_at_call 139;refine((Aa HQ) _ ((Aa HB) _ _)).mono ?_;rintro e w3 ⟨rfl,hw3⟩))
    go_returns;exact⟨rfl,hw3⟩
   ·have n3:(kd==3)=false:=by simpa using k3
    have HQ:=Ab ((Aa HN) (by omega));clear HG HA HN k6 k1 k3;go_enter Tryz.func85,Tryz.ntmps85;go_wp2_with fail
    go_quiet (fail);go_wp2_with fail
    go_quiet (fail);go_wp2_with fail
    go_quiet (fail);go_wp2;go_returns;exact⟨rfl,(Aa HQ) _ ((Aa HB) _ _)⟩
end Go.Proofs.YtblomippkddgiaaGreatDoor
