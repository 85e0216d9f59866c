import Derived.Test.YtblomippkddgiaaGreatDoorK36
set_option maxRecDepth 100000
set_option maxHeartbeats 4000000
namespace Go.Proofs.YtblomippkddgiaaGreatDoor
open Go.RowKit
abbrev Ei(w:World)(lb k:Nat)(R:ByteArray)(n:Int):World:=(w.setCell ⟨lb,k*10+7,none⟩ (.string R)).setCell ⟨lb,k*10+6,none⟩ (.int .i64 n)
theorem abH:∀args w,(callFunc 203 args).run Tryz.prog w=.ok (.enter 203 args) w:=fun _ _=>rfl
theorem abG:∀args w,(callFunc 202 args).run Tryz.prog w=.ok (.enter 202 args) w:=fun _ _=>rfl
theorem LH(w:World)(cb lb bm nl k:Nat)(n m ac uid proc kind:Int)(P:Pk)(S C:ByteArray)(A Post:World->Prop)(B:Value->World->Prop)(hk:k<nl)(hP:P.line=(k:Int))(b2:w.cell? ⟨cb,2,none⟩=some (.map (some bm)))(b3:w.cell? ⟨cb,3,none⟩=some (.slice (some ⟨lb,0,none⟩) nl nl))(a3:w.cell? ⟨lb,k*10+3,none⟩=some (.int .i64 uid))(a4:w.cell? ⟨lb,k*10+4,none⟩=some (.int .i64 proc))(a5:w.cell? ⟨lb,k*10+5,none⟩=some (.string S))(a6:w.cell? ⟨lb,k*10+6,none⟩=some (.int .i64 ac))(a7:w.cell? ⟨lb,k*10+7,none⟩=some (.string C))(z6:w.frozen? ⟨lb,k*10+6,none⟩=false)(z7:w.frozen? ⟨lb,k*10+7,none⟩=false)(hcl:¬cb=lb)(hn:1<=n/\n<=100)(hno:¬ac<n-1)(hm:P.part=m)(ho:1<=P.off/\P.off<=9)(hsz:¬9223372036854775807<C.size+(str P.body).size)
  (H1:Hid (∀w,Calls Tryz.prog 187 #[.string S] w fun e w'=>e=.returned (.int .i64 n)/\w'=w))
  (H2:Hid (∀w,Calls Tryz.prog 187 #[.string C] w fun e w'=>e=.returned (.int .i64 m)/\w'=w))
  (HG:Hid (¬P.part=P.off-1->∀wa,Below w.heap.size (Ei w lb k (C++str P.body) n) wa->Calls Tryz.prog 201 #[ptr cb,pv P] wa fun e w'=>e=.returned (.tuple #[])/\A w'))
  (HR:Hid (∀w',A w'->Calls Tryz.prog 111 #[ptr cb,.pointer (some ⟨lb,k*10,none⟩)] w' fun e w''=>e=.returned (.tuple #[])/\Post w''))
  (HLK:Hid (P.part=P.off-1->∀wa,Below w.heap.size (Ei w lb k (C++str P.body) n) wa->(Instr.lookup 131 (.map (some bm)) (.int .i64 uid) false).run Tryz.prog wa=.ok (.int .i64 kind) wa))
  (HRR:Hid (P.part=P.off-1->∀wa,Below w.heap.size (Ei w lb k (C++str P.body) n) wa->Calls Tryz.prog 203 #[.int .i64 kind,.int .i64 proc,.string (C++str P.body)] wa fun e w'=>∃ra rn rc,e=.returned (.slice ra rn rc)/\B (.slice ra rn rc) w'))
  (HE:Hid (∀ra rn rc w',B (.slice ra rn rc) w'->Calls Tryz.prog 202 #[.pointer (some ⟨lb,k*10,none⟩),.slice ra rn rc] w' fun e w''=>e=.returned (.tuple #[])/\Post w'')):
  Calls Tryz.prog 142 #[ptr cb,pv P] w fun e w'=>e=.returned (.tuple #[])/\Post w':=by
 obtain⟨kd,cl,li,ln,sq',u,pa,o,pl,body⟩:=P;dsimp only[pv]at *;subst hP hm;have hl1:=lt_of_cell b3;have hl2:=lt_of_cell a6;have q1:(0:Int)<=(k:Int):=by omega
 have q2:(k:Int)<(nl:Int):=by omega
 have ew:IntKind.i64.wrap (n-1)=n-1:=by rw[IntKind.wrap_i64];omega
 have ew2:IntKind.i64.wrap (o-1)=o-1:=by rw[IntKind.wrap_i64];omega
 have HB:Hid (∀o,Below w.heap.size w (w.alloc o)):=fun o=>(Below.refl _ _).alloc (Nat.le_refl _) _
 generalize str body=SB at *;have HF:Hid (∀m,Boxed w w (.cells #[.int .i64 kd,.int .i64 cl,.int .i64 li,.int .i64 (k:Int),.int .i64 sq',.int .i64 u,.int .i64 pa,.int .i64 o,.bool pl,.string SB] 41) ((w.alloc (.cells #[.int .i64 kd,.int .i64 cl,.int .i64 li,.int .i64 (k:Int),.int .i64 sq',.int .i64 u,.int .i64 pa,.int .i64 o,.bool pl,.string SB] 41)).drewN m)):=fun m=>⟨below_drewN ((Aa HB) _) m,heap_alloc_new w _⟩
 have HC:Hid (∀W,Boxed w w (.cells #[.int .i64 kd,.int .i64 cl,.int .i64 li,.int .i64 (k:Int),.int .i64 sq',.int .i64 u,.int .i64 pa,.int .i64 o,.bool pl,.string SB] 41) W->W.cell? ⟨lb,k*10+5,none⟩=some (.string S)/\W.cell? ⟨lb,k*10+6,none⟩=some (.int .i64 ac)/\W.cell? ⟨lb,k*10+7,none⟩=some (.string C)/\W.frozen? ⟨lb,k*10+6,none⟩=false/\W.frozen? ⟨lb,k*10+7,none⟩=false):=fun W hW=>⟨(hW.1.cell (p:=⟨lb,k*10+5,none⟩) hl2).trans a5,(hW.1.cell (p:=⟨lb,k*10+6,none⟩) hl2).trans a6,(hW.1.cell (p:=⟨lb,k*10+7,none⟩) hl2).trans a7,(hW.1.frozen (p:=⟨lb,k*10+6,none⟩) hl2).trans z6,(hW.1.frozen (p:=⟨lb,k*10+7,none⟩) hl2).trans z7⟩
 have HD:Hid (∀V W,Boxed w V (.cells #[.int .i64 kd,.int .i64 cl,.int .i64 li,.int .i64 (k:Int),.int .i64 sq',.int .i64 u,.int .i64 pa,.int .i64 o,.bool pl,.string SB] 41) W->(W.cell? ⟨w.heap.size,0,none⟩=some (.int .i64 kd)/\W.cell? ⟨w.heap.size,1,none⟩=some (.int .i64 cl)/\W.cell? ⟨w.heap.size,2,none⟩=some (.int .i64 li)/\W.cell? ⟨w.heap.size,3,none⟩=some (.int .i64 (k:Int))/\W.cell? ⟨w.heap.size,4,none⟩=some (.int .i64 sq'))/\W.cell? ⟨w.heap.size,5,none⟩=some (.int .i64 u)/\W.cell? ⟨w.heap.size,6,none⟩=some (.int .i64 pa)/\W.cell? ⟨w.heap.size,7,none⟩=some (.int .i64 o)/\W.cell? ⟨w.heap.size,8,none⟩=some (.bool pl)/\W.cell? ⟨w.heap.size,9,none⟩=some (.string SB)):=fun V W hW=>⟨⟨cell_of hW.2 0 _ rfl,cell_of hW.2 1 _ rfl,cell_of hW.2 2 _ rfl,cell_of hW.2 3 _ rfl,cell_of hW.2 4 _ rfl⟩,cell_of hW.2 5 _ rfl,cell_of hW.2 6 _ rfl,cell_of hW.2 7 _ rfl,cell_of hW.2 8 _ rfl,cell_of hW.2 9 _ rfl⟩
 have HT:Hid (∀W,Boxed w w (.cells #[.int .i64 kd,.int .i64 cl,.int .i64 li,.int .i64 (k:Int),.int .i64 sq',.int .i64 u,.int .i64 pa,.int .i64 o,.bool pl,.string SB] 41) W->∀m,Boxed w (Ei w lb k (C++SB) n) (.cells #[.int .i64 kd,.int .i64 cl,.int .i64 li,.int .i64 (k:Int),.int .i64 sq',.int .i64 u,.int .i64 pa,.int .i64 o,.bool pl,.string SB] 41) (Ei (W.drewN m) lb k (C++SB) n)):=fun W hW m=>by
  refine⟨?_,?_⟩
  ·have hb:=below_drewN hW.1 m;refine⟨hb.os,hb.tape,hb.output,by simpa using hb.size,fun j hj=>?_⟩;by_cases e:j=lb
   ·subst e;simp only[Ei,World.setCell,Array.getElem?_modify,if_true];have h0:=hb.block j hj;simp only[World.heap_drewN]at h0 ⊢;rw[h0]
   ·rw[Below.heap_setCell _ _ _ _ e,Below.heap_setCell _ _ _ _ e,Below.heap_setCell _ _ _ _ e,Below.heap_setCell _ _ _ _ e];exact hb.block j hj
  ·rw[Below.heap_setCell _ _ _ _ (by simp;omega),Below.heap_setCell _ _ _ _ (by simp;omega)];exact hW.2
 have HU:Hid (∀W,Boxed w (Ei w lb k (C++SB) n) (.cells #[.int .i64 kd,.int .i64 cl,.int .i64 li,.int .i64 (k:Int),.int .i64 sq',.int .i64 u,.int .i64 pa,.int .i64 o,.bool pl,.string SB] 41) W->W.cell? ⟨cb,2,none⟩=some (.map (some bm))/\W.cell? ⟨lb,k*10+3,none⟩=some (.int .i64 uid)/\W.cell? ⟨lb,k*10+4,none⟩=some (.int .i64 proc)/\W.cell? ⟨lb,k*10+7,none⟩=some (.string (C++SB))):=fun W hW=>by
  have c1:∀(p:Addr) (v:Value),p.block<w.heap.size->p≠⟨lb,k*10+6,none⟩->p≠⟨lb,k*10+7,none⟩->w.cell? p=some v->W.cell? p=some v:=fun p v hp n6 n7 hv=>((hW.1.cell (p:=p) hp).trans ((World.cell?_setCell_other (h:=n6.symm) ..).trans (World.cell?_setCell_other (h:=n7.symm) ..))).trans hv
  refine⟨c1 _ _ hl1 (by simp) (by simp) b2,c1 _ _ hl2 (by simp) (by simp) a3,c1 _ _ hl2 (by simp) (by simp) a4,?_⟩;have n6:(⟨lb,k*10+6,none⟩:Addr)≠⟨lb,k*10+7,none⟩:=by simp
  exact(hW.1.cell (p:=⟨lb,k*10+7,none⟩) hl2).trans ((World.cell?_setCell_other (h:=n6) ..).trans (World.cell?_setCell_same (h:=a7) ..))
 have e1:decide (ac<n-1)=false:=by simpa using hno
 have e2:decide (pa<pa)=false:=by simp
 have e2':¬pa<pa:=by omega
 by_cases hlast:pa=o-1
 ·have e3:(pa==o-1)=true:=by simpa using hlast
  have HLK1:=Ab ((Aa HLK) hlast);have HRR1:=Ab ((Aa HRR) hlast);clear HG HR HLK HRR hlast hno;go_enter Tryz.func142,Tryz.ntmps142;go_wp2_with fail
  go_quiet (fail);go_wp2_with fail
  refine AL _ ((Aa HF) _) ?_;intro W hW;obtain⟨d5,d6,d7,y6,y7⟩:=(Aa HC) W hW;have hd:=(Aa HD) _ W hW;obtain⟨⟨f0,f1,f2,f3,f4⟩,f5,f6,f7,f8,f9⟩:=hd;have HT1:Hid (Boxed w (Ei w lb k (C++SB) n) (.cells #[.int .i64 kd,.int .i64 cl,.int .i64 li,.int .i64 (k:Int),.int .i64 sq',.int .i64 u,.int .i64 pa,.int .i64 o,.bool pl,.string SB] 41) (Ei W lb k (C++SB) n).drew.drew):=(Aa HT) W hW 2;have hlw:=lt_of_cell d5;have hlx:=lt_of_cell f5;have hxe:¬w.heap.size=lb:=by omega
  have hxe':¬lb=w.heap.size:=by omega
  clear hW HF HC HT;go_region_held3 (fun w'=>w'.cell? ⟨lb,k*10+5,none⟩=some (.string S)/\w'.cell? ⟨lb,k*10+7,none⟩=some (.string C)) (go_keep) (first|(go_at_call 187;refine((Aa H1) _).mono ?_;rintro e w1 ⟨rfl,hw1⟩;rw[hw1];clear hw1)|(go_at_call 187;refine((Aa H2) _).mono ?_;rintro e w1 ⟨rfl,hw1⟩;rw[hw1];clear hw1))
  go_wp2_with fail
  go_region
  go_wp2_with fail
  refine AL _ (Aa HT1) ?_;intro V hV;obtain⟨g2,g3,g4,g7⟩:=(Aa HU) V hV;have hlk:=(Aa HLK1) V.drew hV.1.drew;have HR1:=Ab ((Aa HRR1) V.drew hV.1.drew);clear hV HT1 HU;go_region_law (first
   |(refine AR rfl 203 #[.tmp 79,.tmp 84,.tmp 89] #[3,3,135] rfl abH #[.int .i64 kind,.int .i64 proc,.string (C++SB)] rfl _ (Aa HR1) ?_;rintro e w1 ⟨ra,rn,rc,rfl,hB1⟩;have HE1:=Ab ((Aa HE) ra rn rc w1 hB1);clear hB1;refine⟨_,rfl,?_⟩)
   |(refine AR rfl 202 #[.tmp 69,.tmp 90] #[185,44] rfl abG #[.pointer (some ⟨lb,k*10,none⟩),.slice ra rn rc] rfl _ (Aa HE1) ?_;rintro e w2 ⟨rfl,hw2⟩;refine⟨_,rfl,?_⟩))
  all_goals
   go_wp2;go_returns;exact⟨rfl,hw2⟩
 ·have e3:(pa==o-1)=false:=by simpa using hlast
  have HG1:=Ab ((Aa HG) hlast);clear HG HLK HRR hlast hno HE;go_enter Tryz.func142,Tryz.ntmps142;go_wp2_with fail
  go_quiet (fail);go_wp2_with fail
  refine AL _ ((Aa HF) _) ?_;intro W hW;obtain⟨d5,d6,d7,y6,y7⟩:=(Aa HC) W hW;have hd:=(Aa HD) _ W hW;obtain⟨⟨f0,f1,f2,f3,f4⟩,f5,f6,f7,f8,f9⟩:=hd;have HT1:Hid (Boxed w (Ei w lb k (C++SB) n) (.cells #[.int .i64 kd,.int .i64 cl,.int .i64 li,.int .i64 (k:Int),.int .i64 sq',.int .i64 u,.int .i64 pa,.int .i64 o,.bool pl,.string SB] 41) (Ei W lb k (C++SB) n).drew.drew):=(Aa HT) W hW 2;have hlw:=lt_of_cell d5;have hlx:=lt_of_cell f5;have hxe:¬w.heap.size=lb:=by omega
  have hxe':¬lb=w.heap.size:=by omega
  clear hW HF HC HT;go_region_held3 (fun w'=>w'.cell? ⟨lb,k*10+5,none⟩=some (.string S)/\w'.cell? ⟨lb,k*10+7,none⟩=some (.string C)) (go_keep) (first|(go_at_call 187;refine((Aa H1) _).mono ?_;rintro e w1 ⟨rfl,hw1⟩;rw[hw1];clear hw1)|(go_at_call 187;refine((Aa H2) _).mono ?_;rintro e w1 ⟨rfl,hw1⟩;rw[hw1];clear hw1))
  go_wp2_with fail
  go_region
  go_wp2_with (first|(go_at_call 201;refine((Aa HG1) _ (Aa HT1).1).mono ?_;rintro e w3 ⟨rfl,hw3⟩;have HC3:=Ab ((Aa HR) w3 hw3);clear hw3)|(go_at_call 111;refine(Aa HC3).mono ?_;rintro e w4 ⟨rfl,hw4⟩))
  go_returns;exact⟨rfl,hw4⟩
theorem abF:∀args w,(callFunc 111 args).run Tryz.prog w=.ok (.enter 111 args) w:=fun _ _=>rfl
theorem Vo(w:World)(cb lb nl k:Nat)(b:Bool)(P:Pk)(Post:World->Prop)(hk:k<nl)(hP:P.line=(k:Int))(b3:w.cell? ⟨cb,3,none⟩=some (.slice (some ⟨lb,0,none⟩) nl nl))
  (HU:Hid (∀wa,Below w.heap.size w wa->Calls Tryz.prog 140 #[ptr cb,pv P] wa fun e w'=>e=.returned (.bool b)/\Below wa.heap.size wa w'))
  (HA:Hid (b=true->P.kind=2->∀wa,Below w.heap.size w wa->Calls Tryz.prog 141 #[ptr cb,pv P] wa fun e w'=>e=.returned (.tuple #[])/\Post w'))
  (HL:Hid (b=true->P.kind=4->∀wa,Below w.heap.size w wa->Calls Tryz.prog 111 #[ptr cb,.pointer (some ⟨lb,k*10,none⟩)] wa fun e w'=>e=.returned (.tuple #[])/\Post w'))
  (HR:Hid (b=true->P.kind=5->∀wa,Below w.heap.size w wa->Calls Tryz.prog 142 #[ptr cb,pv P] wa fun e w'=>e=.returned (.tuple #[])/\Post w'))
  (HJ:Hid (b=true->P.kind=7->∀wa,Below w.heap.size w wa->Calls Tryz.prog 143 #[ptr cb,pv P] wa fun e w'=>e=.returned (.tuple #[])/\Post w'))
  (HN:Hid (b=false\/¬(P.kind=2\/P.kind=4\/P.kind=5\/P.kind=7)->∀wa,Below w.heap.size w wa->Post wa)):
  Calls Tryz.prog 86 #[ptr cb,pv P] w fun e w'=>e=.returned (.tuple #[])/\Post w':=by
 obtain⟨kd,cl,li,ln,sq',u,pa,o,pl,body⟩:=P;dsimp only[pv]at *;subst hP;have hl1:=lt_of_cell b3;have q1:(0:Int)<=(k:Int):=by omega
 have q2:(k:Int)<(nl:Int):=by omega
 generalize str body=SB at *;have HB:Hid (∀o,Below w.heap.size w (w.alloc o)):=fun o=>(Below.refl _ _).alloc (Nat.le_refl _) _
 have HX:Hid (∀w1,Below (w.alloc (.cells #[.int .i64 kd,.int .i64 cl,.int .i64 li,.int .i64 (k:Int),.int .i64 sq',.int .i64 u,.int .i64 pa,.int .i64 o,.bool pl,.string SB] 41)).heap.size (w.alloc (.cells #[.int .i64 kd,.int .i64 cl,.int .i64 li,.int .i64 (k:Int),.int .i64 sq',.int .i64 u,.int .i64 pa,.int .i64 o,.bool pl,.string SB] 41)) w1->Boxed w w (.cells #[.int .i64 kd,.int .i64 cl,.int .i64 li,.int .i64 (k:Int),.int .i64 sq',.int .i64 u,.int .i64 pa,.int .i64 o,.bool pl,.string SB] 41) w1):=fun w1 h1=>⟨((Aa HB) _).trans (h1.mono (by simp)),by
  rw[h1.block _ (by simp)];exact heap_alloc_new w _⟩
 have HD:Hid (∀W,Boxed w w (.cells #[.int .i64 kd,.int .i64 cl,.int .i64 li,.int .i64 (k:Int),.int .i64 sq',.int .i64 u,.int .i64 pa,.int .i64 o,.bool pl,.string SB] 41) W->W.cell? ⟨cb,3,none⟩=some (.slice (some ⟨lb,0,none⟩) nl nl)/\(W.cell? ⟨w.heap.size,0,none⟩=some (.int .i64 kd)/\W.cell? ⟨w.heap.size,1,none⟩=some (.int .i64 cl)/\W.cell? ⟨w.heap.size,2,none⟩=some (.int .i64 li)/\W.cell? ⟨w.heap.size,3,none⟩=some (.int .i64 (k:Int))/\W.cell? ⟨w.heap.size,4,none⟩=some (.int .i64 sq'))/\W.cell? ⟨w.heap.size,5,none⟩=some (.int .i64 u)/\W.cell? ⟨w.heap.size,6,none⟩=some (.int .i64 pa)/\W.cell? ⟨w.heap.size,7,none⟩=some (.int .i64 o)/\W.cell? ⟨w.heap.size,8,none⟩=some (.bool pl)/\W.cell? ⟨w.heap.size,9,none⟩=some (.string SB)):=fun W hW=>⟨(hW.1.cell (p:=⟨cb,3,none⟩) hl1).trans b3,⟨cell_of hW.2 0 _ rfl,cell_of hW.2 1 _ rfl,cell_of hW.2 2 _ rfl,cell_of hW.2 3 _ rfl,cell_of hW.2 4 _ rfl⟩,cell_of hW.2 5 _ rfl,cell_of hW.2 6 _ rfl,cell_of hW.2 7 _ rfl,cell_of hW.2 8 _ rfl,cell_of hW.2 9 _ rfl⟩
 cases b with
 |false=>
  have HQ:=Ab ((Aa HN) (Or.inl rfl));clear HA HL HR HJ HN HD;go_enter Tryz.func86,Tryz.ntmps86;go_wp2_with (first|(go_at_call 140;refine((Aa HU) _ ((Aa HB) _)).mono ?_;rintro e w1 ⟨rfl,hw1⟩;have HW:=Ab ((Aa HX) w1 hw1).1;clear hw1))
  go_returns;exact⟨rfl,(Aa HQ) _ (Aa HW)⟩
 |true=>
  by_cases k2:kd=2
  ·have HQ:=Ab ((Aa HA) rfl k2);subst k2;clear HA HL HR HJ HN;go_enter Tryz.func86,Tryz.ntmps86;go_wp2_with (first|(go_at_call 140;refine((Aa HU) _ ((Aa HB) _)).mono ?_;rintro e w1 ⟨rfl,hw1⟩;have hW:=(Aa HX) w1 hw1;have HW:=Ab hW.1;have hd:=(Aa HD) w1 hW;obtain⟨f3,⟨g0,g1,g2,g3,g4⟩,g5,g6,g7,g8,g9⟩:=hd;clear hw1 hW)|(go_at_call 141;refine((Aa HQ) _ (Aa HW)).mono ?_;rintro e w3 ⟨rfl,hw3⟩))
   go_returns;exact⟨rfl,hw3⟩
  ·have n2:(kd==2)=false:=by simpa using k2
   by_cases k4:kd=4
   ·have HQ:=Ab ((Aa HL) rfl k4);subst k4;clear HA HL HR HJ HN k2;go_enter Tryz.func86,Tryz.ntmps86;go_wp2_with (first|(go_at_call 140;refine((Aa HU) _ ((Aa HB) _)).mono ?_;rintro e w1 ⟨rfl,hw1⟩;have hW:=(Aa HX) w1 hw1;have HW:=Ab hW.1;have hd:=(Aa HD) w1 hW;obtain⟨f3,⟨g0,g1,g2,g3,g4⟩,g5,g6,g7,g8,g9⟩:=hd;clear hw1 hW))
    have HQ1:=Ab ((Aa HQ) _ (Aa HW).drew);go_region_law (refine AR rfl 111 #[.tmp 17,.tmp 24] #[89,185] rfl abF #[ptr cb,.pointer (some ⟨lb,k*10,none⟩)] rfl _ (Aa HQ1) ?_;rintro e w3 ⟨rfl,hw3⟩;refine⟨_,rfl,?_⟩)
    all_goals
     go_wp2;go_returns;exact⟨rfl,hw3⟩
   ·have n4:(kd==4)=false:=by simpa using k4
    by_cases k5:kd=5
    ·have HQ:=Ab ((Aa HR) rfl k5);subst k5;clear HA HL HR HJ HN k2 k4;go_enter Tryz.func86,Tryz.ntmps86;go_wp2_with (first|(go_at_call 140;refine((Aa HU) _ ((Aa HB) _)).mono ?_;rintro e w1 ⟨rfl,hw1⟩;have hW:=(Aa HX) w1 hw1;have HW:=Ab hW.1;have hd:=(Aa HD) w1 hW;obtain⟨f3,⟨g0,g1,g2,g3,g4⟩,g5,g6,g7,g8,g9⟩:=hd;clear hw1 hW)|(go_at_call 142;refine((Aa HQ) _ (Aa HW)).mono ?_;rintro e w3 ⟨rfl,hw3⟩))
     go_returns;exact⟨rfl,hw3⟩
    ·have n5:(kd==5)=false:=by simpa using k5
     by_cases k7:kd=7
     ·have HQ:=Ab ((Aa HJ) rfl k7);subst k7;clear HA HL HR HJ HN k2 k4 k5;go_enter Tryz.func86,Tryz.ntmps86;go_wp2_with (first|(go_at_call 140;refine((Aa HU) _ ((Aa HB) _)).mono ?_;rintro e w1 ⟨rfl,hw1⟩;have hW:=(Aa HX) w1 hw1;have HW:=Ab hW.1;have hd:=(Aa HD) w1 hW;obtain⟨f3,⟨g0,g1,g2,g3,g4⟩,g5,g6,g7,g8,g9⟩:=hd;clear hw1 hW)|(go_at_call 143;refine((Aa HQ) _ (Aa HW)).mono ?_;rintro e w3 ⟨rfl,hw3⟩))
      go_returns;exact⟨rfl,hw3⟩
     ·have n7:(kd==7)=false:=by simpa using k7
      have HQ:=Ab ((Aa HN) (Or.inr (by omega)));clear HA HL HR HJ HN k2 k4 k5 k7;go_enter Tryz.func86,Tryz.ntmps86;go_wp2_with (first|(go_at_call 140;refine((Aa HU) _ ((Aa HB) _)).mono ?_;rintro e w1 ⟨rfl,hw1⟩;have hW:=(Aa HX) w1 hw1;have HW:=Ab hW.1;have hd:=(Aa HD) w1 hW;obtain⟨f3,⟨g0,g1,g2,g3,g4⟩,g5,g6,g7,g8,g9⟩:=hd;clear hw1 hW))
      go_returns;exact⟨rfl,(Aa HQ) _ (Aa HW)⟩
theorem LW.wide{p:Pl}{F F':Aq}{G:R.Wd}{w:World}(h:LW p F G w)(hF:∀k,F k->F' k)(hlt:∀k,F' k->k<w.heap.size):LW p F' G w:=by
 obtain⟨hx,hn,hcs,hnm⟩:=h.BM;have hk:Af (fun _=>False) w w:=Af.refl _ w;have hav:Avoid w F (fun _=>False):=Avoid.apart (fun _ _ q=>q);refine⟨h.wf,h.Eb,h.bx,h.YF,?_,h.Co.keep hk hav hF,h.names,h.cl,fun i c hc=>?_,h.bound,⟨hF _ hx,hF _ hn,hF _ hcs,hF _ hnm⟩,fun i hi=>?_,h.inj,hlt⟩
 ·obtain⟨K,h1,h2,h3⟩:=h.bn;exact⟨K,h1,h2,fun j hj=>hF _ (h3 j hj)⟩
 ·obtain⟨xs,h1,h2,h3⟩:=h.ln i c hc;exact⟨xs,h1,h2,h3.Ea hk hav.sv hF⟩
 ·obtain⟨a1,a2,a3,a4⟩:=h.Gs i hi;exact⟨hF _ a1,hF _ a2,hF _ a3,a4⟩
theorem LJ{w:World}{B:Nat}{O:Value}{v:List V.It}(h:V.Row w B O v)(hne:v≠[]):BD w (fun k=>O.ownBlock=some k) O v/\∀k,O.ownBlock=some k->B<=k/\k<w.heap.size:=by
 refine⟨?_,fun k hk=>World.ownsRow.lt h k hk⟩;rcases id h.2 with ⟨_,h0⟩|⟨g,cap,cur,rfl,_,hg,hcap,_,hsz,htk⟩
 ·exact absurd (List.length_eq_zero_iff.1 h0) hne
 ·refine Or.inr ⟨g,0,cap,cur,hne,rfl,hcap,rfl,hg,fun j x hx=>?_⟩;have hj:=(List.getElem?_eq_some_iff.1 hx).1;have q:∀i u,i<2->(V.flat v)[j*2+i]?=some u->cur[0+j*2+i]?=some u:=fun i u hi hu=>by
   rw[<-htk,List.getElem?_take,if_pos (by omega)]at hu;rw[Nat.zero_add];simpa using hu
  exact⟨q 0 _ (by omega) (V.flat_get v j x hx).1,q 1 _ (by omega) (V.flat_get v j x hx).2⟩
theorem LW.rest{p:Pl}{F:Aq}{G:R.Wd}{w:World}(h:LW p F G w){i k:Nat}{c:R.Cl}{l:R.Ln}(ha:R.At G i k c l)(h1:l.state=1):
  Calls Tryz.prog 111 #[ptr (p.cb i),.pointer (some ⟨p.lb i,k*10,none⟩)] w fun e w'=>e=.returned (.tuple #[])/\LW p F (R.DN G i k) w'/\Ay F F w w':=by
 obtain⟨xs,x,hL,hR,hx,hx1,hla,hrs,hit⟩:=h.line ha.cl ha.ln;have hca:=K3 h ha.cl;have hi:=(List.getElem?_eq_some_iff.1 ha.cl).1;have hok:=(h.wf.cl i c ha.cl).line k l ha.ln;obtain⟨z1,z2,hml,hac,hwt,htr⟩:=hok.one h1;have hcf:=h.wf.cf;unfold R.BL at hcf;have hfl:F (p.lb i):=(h.Gs i hi).2.1;have e:R.DN G i k=R.Al G i k {l with wait:=G.c.Be,tries:=G.c.tries}:=by
  unfold R.DN;rw[ha.line]
 rw[e];refine(Qe w (p.cb i) (p.lb i) k G.c.Be G.c.tries xs x hL hx hca.a4 hca.a5 (Bi (h.cl i c ha.cl) hL (by decide))).mono ?_;rintro e w' ⟨rfl,hL',hk⟩;refine⟨rfl,?_,hk.mono (fun q _ e=>by rw[e];exact hfl),fun _ q=>Or.inl q⟩;exact h.turn ha.cl hL hR hrs hk hL' ⟨hok.seq,fun _=>⟨z1,z2,hml,hac,by simp only;omega,by simp only;omega⟩⟩ ⟨hx1.state,hx1.seq,hx1.res,fun q=>⟨(hx1.one q).1,(hx1.one q).2.1,(hx1.one q).2.2.1,rfl,rfl⟩,hx1.two⟩ hit
theorem LW.got{p:Pl}{F:Aq}{G:R.Wd}{w:World}(h:LW p F G w){i k:Nat}{c:R.Cl}{l:R.Ln}(ha:R.At G i k c l)(h1:l.state=1){P:Pk}(hr:AJ P)(hi2:i<3)(hk2:k<3)(hP:P.line=(k:Int)):
  Calls Tryz.prog 201 #[ptr (p.cb i),pv P] w fun e w'=>e=.returned (.tuple #[])/\∃F',LW p F' (R.GQ G i P) w'/\Ay F F' w w':=by
 refine Ws w (p.cb i) P _ (fun wa hb=>?_);have hok:=(h.wf.cl i c ha.cl).line k l ha.ln;obtain⟨z1,z2,_,_,_,_⟩:=hok.one h1;have hlf:=(h.wf.cl i c ha.cl).Ag;have hsq:=hok.seq;obtain⟨_,_,_,_,_,_,h7,h8,_⟩:=hr;rw[hP];refine((h.below hb).aab ha.cl ha.ln h1 6 P.part P.off false [] ⟨by simp,by simp only;omega,hlf,by simp only;omega,by simp only;omega,z2,h7,h8,?_⟩).mono ?_
 ·unfold C5;simp
 ·rintro e w' ⟨rfl,F',q1,q2⟩;refine⟨rfl,F',?_,(Ay.Aj F hb).trans q2⟩;have e:R.GQ G i P=R.AU G (-1) ⟨6,i,c.Ag,k,l.seq,l.uid,P.part,P.off,false,[]⟩:=by
   unfold R.GQ;rw[hP,ha.line,R.Bt ha.cl]
  rw[e];exact q1
theorem Q5(w:World)(b off cap:Nat):
  Calls Tryz.prog 74 #[.slice (some ⟨b,off,none⟩) 0 cap] w fun e w'=>(∃a,e=.returned (.slice a 0 0))/\Below w.heap.size w w':=by
 have hq:∀w,(binOp .eql 44 (.slice (some ⟨b,off,none⟩) 0 cap) (.slice none 0 0)).run Tryz.prog w=.ok (.bool false) w:=fun w=>by rfl
 go_enter Tryz.func74,Tryz.ntmps74;go_wp2
 go_ret
 exact⟨⟨_,rfl⟩,(Below.refl _ _).alloc (Nat.le_refl _) _⟩
theorem JQ(l:List R.En)(e:R.En)(d:Int):∀was,R.E3 (l++[e]) d was=if R.Iv e.arg 0=d then e.arg.drop 2 else R.E3 l d was:=by
 induction l with
 |nil=>intro was;rfl
 |cons a l ih=>intro was;exact ih _
theorem Rh(w:World)(b dn bb off n cap dc:Nat)(da:Option Addr)(proc:Int)(hdn:dn<3)(hn:2<=n)(hcap:n<=cap)(c0:w.cell? ⟨bb,off,none⟩=some (.int .i64 (dn:Int)))(db:w.cell? ⟨b,dn,none⟩=some (.slice da 0 dc))(z:w.frozen? ⟨b,dn,none⟩=false)
  (C:Value->World->World->Prop) (Post:Value->World->Prop)
  (H74:Hid (∀wa,Below w.heap.size w wa->Calls Tryz.prog 74 #[.slice (some ⟨bb,if cap=2 then off else off+4,none⟩) (n-2) (cap-2)] wa fun e w'=>(∃ra rn rc,e=.returned (.slice ra rn rc)/\C (.slice ra rn rc) wa w')/\Below wa.heap.size wa w'))
  (HP:Hid (∀O wa w1,Below w.heap.size w wa->Below w.heap.size w w1->C O wa w1->Post (.slice (some ⟨w1.heap.size,0,none⟩) 2 2) ((w1.setCell ⟨b,dn,none⟩ O).alloc (.cells #[.int .i64 0,.string ⟨#[]⟩,.int .i64 0,.string ⟨#[]⟩] 106)))):
  Calls Tryz.prog 294 #[ptr b,.int .i64 proc,.slice (some ⟨bb,off,none⟩) n cap] w fun e w'=>∃O,e=.returned O/\Post O w':=by
 have q1:(0:Int)<=(dn:Int):=by omega
 have q2:(dn:Int)<3:=by omega
 have q3:(0:Int)<(n:Int):=by omega
 have hl:=lt_of_cell db;have HB:Hid (∀m,Below w.heap.size w (w.drewN m)):=fun m=>below_drewN (Below.refl _ _) m
 by_cases hc2:cap=2
 ·rw[if_pos hc2]at H74;subst hc2;have hn2:n=2:=by omega
  subst hn2;go_enter Tryz.func294,Tryz.ntmps294;go_wp2_with fail
  go_quiet (fail);go_wp2_with (first|(go_at_call 74;refine((Aa H74) _ ((Aa HB) _)).mono ?_;rintro e w1 ⟨⟨ra,rn,rc,rfl,hc1⟩,hb1⟩;have hb2:=((Aa HB) _).trans (hb1.mono (by simp));have db1:w1.cell? ⟨b,dn,none⟩=some (.slice da 0 dc):=(hb2.cell (p:=⟨b,dn,none⟩) hl).trans db;have z1:w1.frozen? ⟨b,dn,none⟩=false:=(hb2.frozen (p:=⟨b,dn,none⟩) hl).trans z;have hl1:=lt_of_cell db1;have HQ:=Ab ((Aa HP) _ _ w1 ((Aa HB) _) hb2 hc1);clear hc1 hb1 hb2))
  go_returns;exact⟨_,rfl,Aa HQ⟩
 ·rw[if_neg hc2]at H74;have h2:¬cap-2=0:=by omega
  have h3:2<cap:=by omega
  go_enter Tryz.func294,Tryz.ntmps294;go_wp2_with fail
  go_quiet (fail);go_wp2_with (first|(go_at_call 74;refine((Aa H74) _ ((Aa HB) _)).mono ?_;rintro e w1 ⟨⟨ra,rn,rc,rfl,hc1⟩,hb1⟩;have hb2:=((Aa HB) _).trans (hb1.mono (by simp));have db1:w1.cell? ⟨b,dn,none⟩=some (.slice da 0 dc):=(hb2.cell (p:=⟨b,dn,none⟩) hl).trans db;have z1:w1.frozen? ⟨b,dn,none⟩=false:=(hb2.frozen (p:=⟨b,dn,none⟩) hl).trans z;have hl1:=lt_of_cell db1;have HQ:=Ab ((Aa HP) _ _ w1 ((Aa HB) _) hb2 hc1);clear hc1 hb1 hb2))
  go_returns;exact⟨_,rfl,Aa HQ⟩
theorem Ul(w:World)(b dn bb off n cap lb lo dc:Nat)(l:List V.It)(proc:Int)(hdn:dn<3)(hn:2<=n)(hcap:n<=cap)(hne:l≠[])(hl3:l.length<=100)(c0:w.cell? ⟨bb,off,none⟩=some (.int .i64 (dn:Int)))(db:w.cell? ⟨b,dn,none⟩=some (.slice (some ⟨lb,lo,none⟩) l.length dc))(z:w.frozen? ⟨b,dn,none⟩=false)(hlb:lb<w.heap.size)(hbl:¬lb=b)(hsrc:∀j x,l[j]?=some x->w.cell? ⟨lb,lo+j*2,none⟩=some (.int .i64 x.1)/\w.cell? ⟨lb,lo+j*2+1,none⟩=some (.string x.2))
  (C:Value->World->World->Prop) (Post:Value->World->Prop)
  (H74:Hid (∀wa,Below w.heap.size w wa->Calls Tryz.prog 74 #[.slice (some ⟨bb,if cap=2 then off else off+4,none⟩) (n-2) (cap-2)] wa fun e w'=>(∃ra rn rc,e=.returned (.slice ra rn rc)/\C (.slice ra rn rc) wa w')/\Below wa.heap.size wa w'))
  (HP:Hid (∀O wa w1 R w2,Below w.heap.size w wa->Below w.heap.size w w1->C O wa w1->V.Row w2 w1.heap.size R ((1,⟨#[]⟩) :: ((l.length:Int),⟨#[]⟩) :: l)->Below w1.heap.size (w1.setCell ⟨b,dn,none⟩ O) w2->Post R w2)):
  Calls Tryz.prog 294 #[ptr b,.int .i64 proc,.slice (some ⟨bb,off,none⟩) n cap] w fun e w'=>∃O,e=.returned O/\Post O w':=by
 have q1:(0:Int)<=(dn:Int):=by omega
 have q2:(dn:Int)<3:=by omega
 have q3:(0:Int)<(n:Int):=by omega
 have hl:=lt_of_cell db;have hpos:0<l.length:=List.length_pos_iff.2 hne;have e1:((l.length:Int)==0)=false:=by simp[hne]
 have HB:Hid (∀m,Below w.heap.size w (w.drewN m)):=fun m=>below_drewN (Below.refl _ _) m
 obtain⟨i0,hi,hz0,hz1,hz2⟩:=info_parts V.Lf;have hfl:=V.Fq l;have HSRC:Hid (∀(w1:World) (O:Value),Below w.heap.size w w1->∀j u,(V.flat l)[j]?=some u->((w1.setCell ⟨b,dn,none⟩ O).alloc (.cells #[.int .i64 1,.string ⟨#[]⟩,.int .i64 (l.length:Int),.string ⟨#[]⟩] 106)).cell? ((⟨lb,lo,none⟩:Addr).add j)=some u):=fun w1 O hb1=>by
  refine Pd (w:=(w1.setCell ⟨b,dn,none⟩ O).alloc (.cells #[.int .i64 1,.string ⟨#[]⟩,.int .i64 (l.length:Int),.string ⟨#[]⟩] 106)) l (fun j x hx=>?_);have hlw:lb<w1.heap.size:=Nat.lt_of_lt_of_le hlb hb1.size;have h3:∀q v,w.cell? ⟨lb,q,none⟩=some v->((w1.setCell ⟨b,dn,none⟩ O).alloc (.cells #[.int .i64 1,.string ⟨#[]⟩,.int .i64 (l.length:Int),.string ⟨#[]⟩] 106)).cell? ⟨lb,q,none⟩=some v:=fun q v hv=>by
   have hA:Below (w1.setCell ⟨b,dn,none⟩ O).heap.size (w1.setCell ⟨b,dn,none⟩ O) ((w1.setCell ⟨b,dn,none⟩ O).alloc (.cells #[.int .i64 1,.string ⟨#[]⟩,.int .i64 (l.length:Int),.string ⟨#[]⟩] 106)):=(Below.refl _ _).alloc (Nat.le_refl _) _;rw[hA.cell (p:=⟨lb,q,none⟩) (by simpa using hlw),World.cell?_setCell_far _ _ _ _ (fun e=>hbl e.symm)];exact(hb1.cell (p:=⟨lb,q,none⟩) hlb).trans hv
  exact⟨h3 _ _ (hsrc j x hx).1,h3 _ _ (hsrc j x hx).2⟩
 have HROW:Hid (∀(w1:World) (O:Value),((w1.setCell ⟨b,dn,none⟩ O).alloc (.cells #[.int .i64 1,.string ⟨#[]⟩,.int .i64 (l.length:Int),.string ⟨#[]⟩] 106)).ownsRow w1.heap.size 106 2 (.slice (some ⟨w1.heap.size,0,none⟩) 2 2) 2 [.int .i64 1,.string ⟨#[]⟩,.int .i64 (l.length:Int),.string ⟨#[]⟩]):=fun w1 O=>by
  refine⟨rfl,Or.inr ⟨w1.heap.size,2,#[.int .i64 1,.string ⟨#[]⟩,.int .i64 (l.length:Int),.string ⟨#[]⟩],rfl,Nat.le_refl _,?_,Nat.le_refl _,by decide,rfl,rfl⟩⟩;have:=heap_alloc_new (w1.setCell ⟨b,dn,none⟩ O) (.cells #[.int .i64 1,.string ⟨#[]⟩,.int .i64 (l.length:Int),.string ⟨#[]⟩] 106);simpa using this
 clear hsrc;by_cases hc2:cap=2
 ·rw[if_pos hc2]at H74;subst hc2;have hn2:n=2:=by omega
  subst hn2;go_enter Tryz.func294,Tryz.ntmps294;go_wp2_with fail
  go_quiet (fail);go_wp2_with (first|(go_at_call 74;refine((Aa H74) _ ((Aa HB) _)).mono ?_;rintro e w1 ⟨⟨ra,rn,rc,rfl,hc1⟩,hb1⟩;have hb2:=((Aa HB) _).trans (hb1.mono (by simp));have db1:w1.cell? ⟨b,dn,none⟩=some (.slice (some ⟨lb,lo,none⟩) l.length dc):=(hb2.cell (p:=⟨b,dn,none⟩) hl).trans db;have z1:w1.frozen? ⟨b,dn,none⟩=false:=(hb2.frozen (p:=⟨b,dn,none⟩) hl).trans z;have hl1:=lt_of_cell db1;have HQ:=Ab (fun R w2=>(Aa HP) _ _ w1 R w2 ((Aa HB) _) hb2 hc1);have HS1:=Ab ((Aa HSRC) w1 (.slice ra rn rc) hb2);have HR1:=Ab ((Aa HROW) w1 (.slice ra rn rc));clear hc1 hb1 hb2)|(at_builtin;go_must (refine wpList_append_own_at _ rfl (.tmp 35) (.tmp 36) 44 rfl w1.heap.size 106 i0 (.agg #[.int .i64 0,.string ⟨#[]⟩]) 2 24 Tryz.underlying44 hi hz0 hz1 hz2 rfl (by decide) (.slice (some ⟨w1.heap.size,0,none⟩) 2 2) 2 [.int .i64 1,.string ⟨#[]⟩,.int .i64 (l.length:Int),.string ⟨#[]⟩] rfl (Aa HR1) ⟨lb,lo,none⟩ l.length dc (V.flat l) rfl hfl (Aa HS1) (V.Jl l) (by unfold maxLen;omega) (by omega) (by simp) ?_)))
  intro v' wz hown hgrow hnil _;obtain⟨va,vn,vc,hvs⟩:=Ar hown;subst hvs;have hz:Below w1.heap.size (w1.setCell ⟨b,dn,none⟩ (.slice ra rn rc)) wz:=((Below.refl _ _).alloc (by simp) _).grown hgrow (by simp) (fun k hk=>by cases hk;exact Nat.le_refl _);have HF:=Ab ((Aa HQ) (.slice va vn vc) wz (by
   have e:V.flat ((1,⟨#[]⟩) :: ((l.length:Int),⟨#[]⟩) :: l)=[.int .i64 1,.string ⟨#[]⟩,.int .i64 (l.length:Int),.string ⟨#[]⟩]++V.flat l:=rfl;have e2:((1,⟨#[]⟩) :: ((l.length:Int),⟨#[]⟩) :: l:List V.It).length=2+l.length:=by simp;omega
   unfold V.Row;rw[e,e2];exact hown) hz)
  clear hown hgrow hnil hz;go_wp2;go_returns;exact⟨_,rfl,Aa HF⟩
 ·rw[if_neg hc2]at H74;have h2:¬cap-2=0:=by omega
  have h3:2<cap:=by omega
  go_enter Tryz.func294,Tryz.ntmps294;go_wp2_with fail
  go_quiet (fail);go_wp2_with (first|(go_at_call 74;refine((Aa H74) _ ((Aa HB) _)).mono ?_;rintro e w1 ⟨⟨ra,rn,rc,rfl,hc1⟩,hb1⟩;have hb2:=((Aa HB) _).trans (hb1.mono (by simp));have db1:w1.cell? ⟨b,dn,none⟩=some (.slice (some ⟨lb,lo,none⟩) l.length dc):=(hb2.cell (p:=⟨b,dn,none⟩) hl).trans db;have z1:w1.frozen? ⟨b,dn,none⟩=false:=(hb2.frozen (p:=⟨b,dn,none⟩) hl).trans z;have hl1:=lt_of_cell db1;have HQ:=Ab (fun R w2=>(Aa HP) _ _ w1 R w2 ((Aa HB) _) hb2 hc1);have HS1:=Ab ((Aa HSRC) w1 (.slice ra rn rc) hb2);have HR1:=Ab ((Aa HROW) w1 (.slice ra rn rc));clear hc1 hb1 hb2)|(at_builtin;go_must (refine wpList_append_own_at _ rfl (.tmp 35) (.tmp 36) 44 rfl w1.heap.size 106 i0 (.agg #[.int .i64 0,.string ⟨#[]⟩]) 2 24 Tryz.underlying44 hi hz0 hz1 hz2 rfl (by decide) (.slice (some ⟨w1.heap.size,0,none⟩) 2 2) 2 [.int .i64 1,.string ⟨#[]⟩,.int .i64 (l.length:Int),.string ⟨#[]⟩] rfl (Aa HR1) ⟨lb,lo,none⟩ l.length dc (V.flat l) rfl hfl (Aa HS1) (V.Jl l) (by unfold maxLen;omega) (by omega) (by simp) ?_)))
  intro v' wz hown hgrow hnil _;obtain⟨va,vn,vc,hvs⟩:=Ar hown;subst hvs;have hz:Below w1.heap.size (w1.setCell ⟨b,dn,none⟩ (.slice ra rn rc)) wz:=((Below.refl _ _).alloc (by simp) _).grown hgrow (by simp) (fun k hk=>by cases hk;exact Nat.le_refl _);have HF:=Ab ((Aa HQ) (.slice va vn vc) wz (by
   have e:V.flat ((1,⟨#[]⟩) :: ((l.length:Int),⟨#[]⟩) :: l)=[.int .i64 1,.string ⟨#[]⟩,.int .i64 (l.length:Int),.string ⟨#[]⟩]++V.flat l:=rfl;have e2:((1,⟨#[]⟩) :: ((l.length:Int),⟨#[]⟩) :: l:List V.It).length=2+l.length:=by simp;omega
   unfold V.Row;rw[e,e2];exact hown) hz)
  clear hown hgrow hnil hz;go_wp2;go_returns;exact⟨_,rfl,Aa HF⟩
end Go.Proofs.YtblomippkddgiaaGreatDoor
