import Derived.Test.YtblomippkddgiabGreatDoorJ38
set_option maxRecDepth 100000
set_option maxHeartbeats 4000000
namespace Go.Proofs.YtblomippkddgiabGreatDoor
open Go.RowKit
variable {F:Aq}{i k:Nat}{p:Pl}{c:R.Cl}{l:R.Ln}{G:R.Wd}{w:World}
abbrev EB(w:World)(lb k:Nat)(R:ByteArray)(n:Int):World:=(w.setCell ⟨lb,k*10+7,none⟩ (.string R)).setCell ⟨lb,k*10+6,none⟩ (.int .i64 n)
theorem adr:∀args w,(callFunc 219 args).run Tryz.prog w=.ok (.enter 219 args) w:=fun _ _=>rfl
theorem adq:∀args w,(callFunc 218 args).run Tryz.prog w=.ok (.enter 218 args) w:=fun _ _=>rfl
theorem Nl(w:World)(cb lb bm nl k:Nat)(n m ac uid proc kind:Int)(P:Pk)(S C:ByteArray)(A af:World->Prop)(B:Value->World->Prop)(hk:k<nl)(hP:P.line=(k:Int))(b2:w.cell? ⟨cb,2,none⟩=some (.map (some bm)))(b3:w.cell? ⟨cb,3,none⟩=some (.slice (some ⟨lb,0,none⟩) nl nl))(a3:w.cell? ⟨lb,k*10+3,none⟩=some (.int .i64 uid))(a4:w.cell? ⟨lb,k*10+4,none⟩=some (.int .i64 proc))(a5:w.cell? ⟨lb,k*10+5,none⟩=some (.string S))(a6:w.cell? ⟨lb,k*10+6,none⟩=some (.int .i64 ac))(a7:w.cell? ⟨lb,k*10+7,none⟩=some (.string C))(z6:w.frozen? ⟨lb,k*10+6,none⟩=false)(z7:w.frozen? ⟨lb,k*10+7,none⟩=false)(aE:¬cb=lb)(hn:1<=n/\n<=100)(al:¬ac<n-1)(hm:P.part=m)(ho:1<=P.off/\P.off<=9)(aG:¬9223372036854775807<C.size+(str P.body).size)
  (H1:Hid (∀w,Calls Tryz.prog 203 #[.string S] w fun e w'=>e=.returned (.int .i64 n)/\w'=w))
  (H2:Hid (∀w,Calls Tryz.prog 203 #[.string C] w fun e w'=>e=.returned (.int .i64 m)/\w'=w))
  (HG:Hid (¬P.part=P.off-1->∀wa,Below w.heap.size (EB w lb k (C++str P.body) n) wa->Calls Tryz.prog 217 #[ptr cb,pv P] wa fun e w'=>e=.returned (.tuple #[])/\A w'))
  (HR:Hid (∀w',A w'->Calls Tryz.prog 149 #[ptr cb,.pointer (some ⟨lb,k*10,none⟩)] w' fun e an=>e=.returned (.tuple #[])/\af an))
  (ah:Hid (P.part=P.off-1->∀wa,Below w.heap.size (EB w lb k (C++str P.body) n) wa->(Instr.lookup 130 (.map (some bm)) (.int .i64 uid) false).run Tryz.prog wa=.ok (.int .i64 kind) wa))
  (aj:Hid (P.part=P.off-1->∀wa,Below w.heap.size (EB w lb k (C++str P.body) n) wa->Calls Tryz.prog 219 #[.int .i64 kind,.int .i64 proc,.string (C++str P.body)] wa fun e w'=>∃ra rn rc,e=.returned (.slice ra rn rc)/\B (.slice ra rn rc) w'))
  (HE:Hid (∀ra rn rc w',B (.slice ra rn rc) w'->Calls Tryz.prog 218 #[.pointer (some ⟨lb,k*10,none⟩),.slice ra rn rc] w' fun e an=>e=.returned (.tuple #[])/\af an)):
  Calls Tryz.prog 160 #[ptr cb,pv P] w fun e w'=>e=.returned (.tuple #[])/\af w':=by
 obtain⟨kd,cl,li,ln,ad,u,pa,o,pl,body⟩:=P;dsimp only[pv]at *;subst hP hm;have aw:=lt_of_cell b3;have ae:=lt_of_cell a6;have q1:(0:Int)<=(k:Int):=by omega
 have q2:(k:Int)<(nl:Int):=by omega
 have ew:IntKind.i64.wrap (n-1)=n-1:=by rw[IntKind.wrap_i64];omega
 have aD:IntKind.i64.wrap (o-1)=o-1:=by rw[IntKind.wrap_i64];omega
 have HB:Hid (∀o,Below w.heap.size w (w.alloc o)):=fun o=>(Below.refl _ _).alloc (Nat.le_refl _) _
 generalize str body=SB at *;have HF:Hid (∀m,Boxed w w (.cells #[.int .i64 kd,.int .i64 cl,.int .i64 li,.int .i64 (k:Int),.int .i64 ad,.int .i64 u,.int .i64 pa,.int .i64 o,.bool pl,.string SB] 82) ((w.alloc (.cells #[.int .i64 kd,.int .i64 cl,.int .i64 li,.int .i64 (k:Int),.int .i64 ad,.int .i64 u,.int .i64 pa,.int .i64 o,.bool pl,.string SB] 82)).drewN m)):=fun m=>⟨below_drewN ((Aa HB) _) m,heap_alloc_new w _⟩
 have HC:Hid (∀W,Boxed w w (.cells #[.int .i64 kd,.int .i64 cl,.int .i64 li,.int .i64 (k:Int),.int .i64 ad,.int .i64 u,.int .i64 pa,.int .i64 o,.bool pl,.string SB] 82) W->W.cell? ⟨lb,k*10+5,none⟩=some (.string S)/\W.cell? ⟨lb,k*10+6,none⟩=some (.int .i64 ac)/\W.cell? ⟨lb,k*10+7,none⟩=some (.string C)/\W.frozen? ⟨lb,k*10+6,none⟩=false/\W.frozen? ⟨lb,k*10+7,none⟩=false):=fun W hW=>⟨(hW.1.cell (p:=⟨lb,k*10+5,none⟩) ae).trans a5,(hW.1.cell (p:=⟨lb,k*10+6,none⟩) ae).trans a6,(hW.1.cell (p:=⟨lb,k*10+7,none⟩) ae).trans a7,(hW.1.frozen (p:=⟨lb,k*10+6,none⟩) ae).trans z6,(hW.1.frozen (p:=⟨lb,k*10+7,none⟩) ae).trans z7⟩
 have HD:Hid (∀V W,Boxed w V (.cells #[.int .i64 kd,.int .i64 cl,.int .i64 li,.int .i64 (k:Int),.int .i64 ad,.int .i64 u,.int .i64 pa,.int .i64 o,.bool pl,.string SB] 82) W->(W.cell? ⟨w.heap.size,0,none⟩=some (.int .i64 kd)/\W.cell? ⟨w.heap.size,1,none⟩=some (.int .i64 cl)/\W.cell? ⟨w.heap.size,2,none⟩=some (.int .i64 li)/\W.cell? ⟨w.heap.size,3,none⟩=some (.int .i64 (k:Int))/\W.cell? ⟨w.heap.size,4,none⟩=some (.int .i64 ad))/\W.cell? ⟨w.heap.size,5,none⟩=some (.int .i64 u)/\W.cell? ⟨w.heap.size,6,none⟩=some (.int .i64 pa)/\W.cell? ⟨w.heap.size,7,none⟩=some (.int .i64 o)/\W.cell? ⟨w.heap.size,8,none⟩=some (.bool pl)/\W.cell? ⟨w.heap.size,9,none⟩=some (.string SB)):=fun V W hW=>⟨⟨cell_of hW.2 0 _ rfl,cell_of hW.2 1 _ rfl,cell_of hW.2 2 _ rfl,cell_of hW.2 3 _ rfl,cell_of hW.2 4 _ rfl⟩,cell_of hW.2 5 _ rfl,cell_of hW.2 6 _ rfl,cell_of hW.2 7 _ rfl,cell_of hW.2 8 _ rfl,cell_of hW.2 9 _ rfl⟩
 have HT:Hid (∀W,Boxed w w (.cells #[.int .i64 kd,.int .i64 cl,.int .i64 li,.int .i64 (k:Int),.int .i64 ad,.int .i64 u,.int .i64 pa,.int .i64 o,.bool pl,.string SB] 82) W->∀m,Boxed w (EB w lb k (C++SB) n) (.cells #[.int .i64 kd,.int .i64 cl,.int .i64 li,.int .i64 (k:Int),.int .i64 ad,.int .i64 u,.int .i64 pa,.int .i64 o,.bool pl,.string SB] 82) (EB (W.drewN m) lb k (C++SB) n)):=fun W hW m=>by
  refine⟨?_,?_⟩
  ·have hb:=below_drewN hW.1 m;refine⟨hb.os,hb.tape,hb.output,by simpa using hb.size,fun j hj=>?_⟩;by_cases e:j=lb
   ·subst e;simp only[EB,World.setCell,Array.getElem?_modify,if_true];have h0:=hb.block j hj;simp only[World.heap_drewN]at h0 ⊢;rw[h0]
   ·rw[Below.heap_setCell _ _ _ _ e,Below.heap_setCell _ _ _ _ e,Below.heap_setCell _ _ _ _ e,Below.heap_setCell _ _ _ _ e];exact hb.block j hj
  ·rw[Below.heap_setCell _ _ _ _ (by simp;omega),Below.heap_setCell _ _ _ _ (by simp;omega)];exact hW.2
 have HU:Hid (∀W,Boxed w (EB w lb k (C++SB) n) (.cells #[.int .i64 kd,.int .i64 cl,.int .i64 li,.int .i64 (k:Int),.int .i64 ad,.int .i64 u,.int .i64 pa,.int .i64 o,.bool pl,.string SB] 82) W->W.cell? ⟨cb,2,none⟩=some (.map (some bm))/\W.cell? ⟨lb,k*10+3,none⟩=some (.int .i64 uid)/\W.cell? ⟨lb,k*10+4,none⟩=some (.int .i64 proc)/\W.cell? ⟨lb,k*10+7,none⟩=some (.string (C++SB))):=fun W hW=>by
  have c1:∀(p:Addr) (v:Value),p.block<w.heap.size->p≠⟨lb,k*10+6,none⟩->p≠⟨lb,k*10+7,none⟩->w.cell? p=some v->W.cell? p=some v:=fun p v hp n6 n7 hv=>((hW.1.cell (p:=p) hp).trans ((World.cell?_setCell_other (h:=n6.symm) ..).trans (World.cell?_setCell_other (h:=n7.symm) ..))).trans hv
  refine⟨c1 _ _ aw (by simp) (by simp) b2,c1 _ _ ae (by simp) (by simp) a3,c1 _ _ ae (by simp) (by simp) a4,?_⟩;have n6:(⟨lb,k*10+6,none⟩:Addr)≠⟨lb,k*10+7,none⟩:=by simp
  exact(hW.1.cell (p:=⟨lb,k*10+7,none⟩) ae).trans ((World.cell?_setCell_other (h:=n6) ..).trans (World.cell?_setCell_same (h:=a7) ..))
 have e1:decide (ac<n-1)=false:=by simpa using al
 have e2:decide (pa<pa)=false:=by simp
 have aC:¬pa<pa:=by omega
 by_cases aa:pa=o-1
 ·have e3:(pa==o-1)=true:=by simpa using aa
  have ai:=Ac ((Aa ah) aa);have ak:=Ac ((Aa aj) aa);clear HG HR ah aj aa al;go_enter Tryz.func160,Tryz.ntmps160;go_wp2_with fail
  go_quiet (fail);go_wp2_with fail
  refine AQ _ ((Aa HF) _) ?_;intro W hW;obtain⟨d5,d6,d7,y6,y7⟩:=(Aa HC) W hW;have hd:=(Aa HD) _ W hW;obtain⟨⟨f0,f1,f2,f3,f4⟩,f5,f6,f7,f8,f9⟩:=hd;have ag:Hid (Boxed w (EB w lb k (C++SB) n) (.cells #[.int .i64 kd,.int .i64 cl,.int .i64 li,.int .i64 (k:Int),.int .i64 ad,.int .i64 u,.int .i64 pa,.int .i64 o,.bool pl,.string SB] 82) (EB W lb k (C++SB) n).drew.drew):=(Aa HT) W hW 2;have ax:=lt_of_cell d5;have ay:=lt_of_cell f5;have aB:¬w.heap.size=lb:=by omega
  have am:¬lb=w.heap.size:=by omega
  clear hW HF HC HT;go_region_held3 (fun w'=>w'.cell? ⟨lb,k*10+5,none⟩=some (.string S)/\w'.cell? ⟨lb,k*10+7,none⟩=some (.string C)) (go_keep) (first|(go_at_call 203;refine((Aa H1) _).mono ?_;rintro e w1 ⟨rfl,ab⟩;rw[ab];clear ab)|(go_at_call 203;refine((Aa H2) _).mono ?_;rintro e w1 ⟨rfl,ab⟩;rw[ab];clear ab))
  go_wp2_with fail
  go_region
  go_wp2_with fail
  refine AQ _ (Aa ag) ?_;intro V hV;obtain⟨g2,g3,g4,g7⟩:=(Aa HU) V hV;have aF:=(Aa ai) V.drew hV.1.drew;have av:=Ac ((Aa ak) V.drew hV.1.drew);clear hV ag HU;go_region_law (first
   |(refine Av rfl 219 #[.tmp 79,.tmp 84,.tmp 89] #[3,3,125] rfl adr #[.int .i64 kind,.int .i64 proc,.string (C++SB)] rfl _ (Aa av) ?_;rintro e w1 ⟨ra,rn,rc,rfl,ao⟩;have ar:=Ac ((Aa HE) ra rn rc w1 ao);clear ao;refine⟨_,rfl,?_⟩)
   |(refine Av rfl 218 #[.tmp 69,.tmp 90] #[242,37] rfl adq #[.pointer (some ⟨lb,k*10,none⟩),.slice ra rn rc] rfl _ (Aa ar) ?_;rintro e w2 ⟨rfl,az⟩;refine⟨_,rfl,?_⟩))
  all_goals
   go_wp2;go_returns;exact⟨rfl,az⟩
 ·have e3:(pa==o-1)=false:=by simpa using aa
  have au:=Ac ((Aa HG) aa);clear HG ah aj aa al HE;go_enter Tryz.func160,Tryz.ntmps160;go_wp2_with fail
  go_quiet (fail);go_wp2_with fail
  refine AQ _ ((Aa HF) _) ?_;intro W hW;obtain⟨d5,d6,d7,y6,y7⟩:=(Aa HC) W hW;have hd:=(Aa HD) _ W hW;obtain⟨⟨f0,f1,f2,f3,f4⟩,f5,f6,f7,f8,f9⟩:=hd;have ag:Hid (Boxed w (EB w lb k (C++SB) n) (.cells #[.int .i64 kd,.int .i64 cl,.int .i64 li,.int .i64 (k:Int),.int .i64 ad,.int .i64 u,.int .i64 pa,.int .i64 o,.bool pl,.string SB] 82) (EB W lb k (C++SB) n).drew.drew):=(Aa HT) W hW 2;have ax:=lt_of_cell d5;have ay:=lt_of_cell f5;have aB:¬w.heap.size=lb:=by omega
  have am:¬lb=w.heap.size:=by omega
  clear hW HF HC HT;go_region_held3 (fun w'=>w'.cell? ⟨lb,k*10+5,none⟩=some (.string S)/\w'.cell? ⟨lb,k*10+7,none⟩=some (.string C)) (go_keep) (first|(go_at_call 203;refine((Aa H1) _).mono ?_;rintro e w1 ⟨rfl,ab⟩;rw[ab];clear ab)|(go_at_call 203;refine((Aa H2) _).mono ?_;rintro e w1 ⟨rfl,ab⟩;rw[ab];clear ab))
  go_wp2_with fail
  go_region
  go_wp2_with (first|(go_at_call 217;refine((Aa au) _ (Aa ag).1).mono ?_;rintro e w3 ⟨rfl,ap⟩;have aq:=Ac ((Aa HR) w3 ap);clear ap)|(go_at_call 149;refine(Aa aq).mono ?_;rintro e w4 ⟨rfl,aA⟩))
  go_returns;exact⟨rfl,aA⟩
theorem adp:∀args w,(callFunc 149 args).run Tryz.prog w=.ok (.enter 149 args) w:=fun _ _=>rfl
theorem Xd(w:World)(cb lb nl k:Nat)(b:Bool)(P:Pk)(ab:World->Prop)(hk:k<nl)(hP:P.line=(k:Int))(b3:w.cell? ⟨cb,3,none⟩=some (.slice (some ⟨lb,0,none⟩) nl nl))
  (HU:Hid (∀wa,Below w.heap.size w wa->Calls Tryz.prog 158 #[ptr cb,pv P] wa fun e w'=>e=.returned (.bool b)/\Below wa.heap.size wa w'))
  (HA:Hid (b=true->P.kind=2->∀wa,Below w.heap.size w wa->Calls Tryz.prog 159 #[ptr cb,pv P] wa fun e w'=>e=.returned (.tuple #[])/\ab w'))
  (HL:Hid (b=true->P.kind=4->∀wa,Below w.heap.size w wa->Calls Tryz.prog 149 #[ptr cb,.pointer (some ⟨lb,k*10,none⟩)] wa fun e w'=>e=.returned (.tuple #[])/\ab w'))
  (HR:Hid (b=true->P.kind=5->∀wa,Below w.heap.size w wa->Calls Tryz.prog 160 #[ptr cb,pv P] wa fun e w'=>e=.returned (.tuple #[])/\ab w'))
  (HJ:Hid (b=true->P.kind=7->∀wa,Below w.heap.size w wa->Calls Tryz.prog 161 #[ptr cb,pv P] wa fun e w'=>e=.returned (.tuple #[])/\ab w'))
  (HN:Hid (b=false\/¬(P.kind=2\/P.kind=4\/P.kind=5\/P.kind=7)->∀wa,Below w.heap.size w wa->ab wa)):
  Calls Tryz.prog 94 #[ptr cb,pv P] w fun e w'=>e=.returned (.tuple #[])/\ab w':=by
 obtain⟨kd,cl,li,ln,ad,u,pa,o,pl,body⟩:=P;dsimp only[pv]at *;subst hP;have af:=lt_of_cell b3;have q1:(0:Int)<=(k:Int):=by omega
 have q2:(k:Int)<(nl:Int):=by omega
 generalize str body=SB at *;have HB:Hid (∀o,Below w.heap.size w (w.alloc o)):=fun o=>(Below.refl _ _).alloc (Nat.le_refl _) _
 have HX:Hid (∀w1,Below (w.alloc (.cells #[.int .i64 kd,.int .i64 cl,.int .i64 li,.int .i64 (k:Int),.int .i64 ad,.int .i64 u,.int .i64 pa,.int .i64 o,.bool pl,.string SB] 82)).heap.size (w.alloc (.cells #[.int .i64 kd,.int .i64 cl,.int .i64 li,.int .i64 (k:Int),.int .i64 ad,.int .i64 u,.int .i64 pa,.int .i64 o,.bool pl,.string SB] 82)) w1->Boxed w w (.cells #[.int .i64 kd,.int .i64 cl,.int .i64 li,.int .i64 (k:Int),.int .i64 ad,.int .i64 u,.int .i64 pa,.int .i64 o,.bool pl,.string SB] 82) w1):=fun w1 h1=>⟨((Aa HB) _).trans (h1.mono (by simp)),by
  rw[h1.block _ (by simp)];exact heap_alloc_new w _⟩
 have HD:Hid (∀W,Boxed w w (.cells #[.int .i64 kd,.int .i64 cl,.int .i64 li,.int .i64 (k:Int),.int .i64 ad,.int .i64 u,.int .i64 pa,.int .i64 o,.bool pl,.string SB] 82) W->W.cell? ⟨cb,3,none⟩=some (.slice (some ⟨lb,0,none⟩) nl nl)/\(W.cell? ⟨w.heap.size,0,none⟩=some (.int .i64 kd)/\W.cell? ⟨w.heap.size,1,none⟩=some (.int .i64 cl)/\W.cell? ⟨w.heap.size,2,none⟩=some (.int .i64 li)/\W.cell? ⟨w.heap.size,3,none⟩=some (.int .i64 (k:Int))/\W.cell? ⟨w.heap.size,4,none⟩=some (.int .i64 ad))/\W.cell? ⟨w.heap.size,5,none⟩=some (.int .i64 u)/\W.cell? ⟨w.heap.size,6,none⟩=some (.int .i64 pa)/\W.cell? ⟨w.heap.size,7,none⟩=some (.int .i64 o)/\W.cell? ⟨w.heap.size,8,none⟩=some (.bool pl)/\W.cell? ⟨w.heap.size,9,none⟩=some (.string SB)):=fun W hW=>⟨(hW.1.cell (p:=⟨cb,3,none⟩) af).trans b3,⟨cell_of hW.2 0 _ rfl,cell_of hW.2 1 _ rfl,cell_of hW.2 2 _ rfl,cell_of hW.2 3 _ rfl,cell_of hW.2 4 _ rfl⟩,cell_of hW.2 5 _ rfl,cell_of hW.2 6 _ rfl,cell_of hW.2 7 _ rfl,cell_of hW.2 8 _ rfl,cell_of hW.2 9 _ rfl⟩
 cases b with
 |false=>
  have HQ:=Ac ((Aa HN) (Or.inl rfl));clear HA HL HR HJ HN HD;go_enter Tryz.func94,Tryz.ntmps94;go_wp2_with (first|(go_at_call 158;refine((Aa HU) _ ((Aa HB) _)).mono ?_;rintro e w1 ⟨rfl,aa⟩;have HW:=Ac ((Aa HX) w1 aa).1;clear aa))
  go_returns;exact⟨rfl,(Aa HQ) _ (Aa HW)⟩
 |true=>
  by_cases k2:kd=2
  ·have HQ:=Ac ((Aa HA) rfl k2);subst k2;clear HA HL HR HJ HN;go_enter Tryz.func94,Tryz.ntmps94;go_wp2_with (first|(go_at_call 158;refine((Aa HU) _ ((Aa HB) _)).mono ?_;rintro e w1 ⟨rfl,aa⟩;have hW:=(Aa HX) w1 aa;have HW:=Ac hW.1;have hd:=(Aa HD) w1 hW;obtain⟨f3,⟨g0,g1,g2,g3,g4⟩,g5,g6,g7,g8,g9⟩:=hd;clear aa hW)|(go_at_call 159;refine((Aa HQ) _ (Aa HW)).mono ?_;rintro e w3 ⟨rfl,ac⟩))
   go_returns;exact⟨rfl,ac⟩
  ·have n2:(kd==2)=false:=by simpa using k2
   by_cases k4:kd=4
   ·have HQ:=Ac ((Aa HL) rfl k4);subst k4;clear HA HL HR HJ HN k2;go_enter Tryz.func94,Tryz.ntmps94;go_wp2_with (first|(go_at_call 158;refine((Aa HU) _ ((Aa HB) _)).mono ?_;rintro e w1 ⟨rfl,aa⟩;have hW:=(Aa HX) w1 aa;have HW:=Ac hW.1;have hd:=(Aa HD) w1 hW;obtain⟨f3,⟨g0,g1,g2,g3,g4⟩,g5,g6,g7,g8,g9⟩:=hd;clear aa hW))
    have ae:=Ac ((Aa HQ) _ (Aa HW).drew);go_region_law (refine Av rfl 149 #[.tmp 17,.tmp 24] #[93,242] rfl adp #[ptr cb,.pointer (some ⟨lb,k*10,none⟩)] rfl _ (Aa ae) ?_;rintro e w3 ⟨rfl,ac⟩;refine⟨_,rfl,?_⟩)
    all_goals
     go_wp2;go_returns;exact⟨rfl,ac⟩
   ·have n4:(kd==4)=false:=by simpa using k4
    by_cases k5:kd=5
    ·have HQ:=Ac ((Aa HR) rfl k5);subst k5;clear HA HL HR HJ HN k2 k4;go_enter Tryz.func94,Tryz.ntmps94;go_wp2_with (first|(go_at_call 158;refine((Aa HU) _ ((Aa HB) _)).mono ?_;rintro e w1 ⟨rfl,aa⟩;have hW:=(Aa HX) w1 aa;have HW:=Ac hW.1;have hd:=(Aa HD) w1 hW;obtain⟨f3,⟨g0,g1,g2,g3,g4⟩,g5,g6,g7,g8,g9⟩:=hd;clear aa hW)|(go_at_call 160;refine((Aa HQ) _ (Aa HW)).mono ?_;rintro e w3 ⟨rfl,ac⟩))
     go_returns;exact⟨rfl,ac⟩
    ·have n5:(kd==5)=false:=by simpa using k5
     by_cases k7:kd=7
     ·have HQ:=Ac ((Aa HJ) rfl k7);subst k7;clear HA HL HR HJ HN k2 k4 k5;go_enter Tryz.func94,Tryz.ntmps94;go_wp2_with (first|(go_at_call 158;refine((Aa HU) _ ((Aa HB) _)).mono ?_;rintro e w1 ⟨rfl,aa⟩;have hW:=(Aa HX) w1 aa;have HW:=Ac hW.1;have hd:=(Aa HD) w1 hW;obtain⟨f3,⟨g0,g1,g2,g3,g4⟩,g5,g6,g7,g8,g9⟩:=hd;clear aa hW)|(go_at_call 161;refine((Aa HQ) _ (Aa HW)).mono ?_;rintro e w3 ⟨rfl,ac⟩))
      go_returns;exact⟨rfl,ac⟩
     ·have n7:(kd==7)=false:=by simpa using k7
      have HQ:=Ac ((Aa HN) (Or.inr (by omega)));clear HA HL HR HJ HN k2 k4 k5 k7;go_enter Tryz.func94,Tryz.ntmps94;go_wp2_with (first|(go_at_call 158;refine((Aa HU) _ ((Aa HB) _)).mono ?_;rintro e w1 ⟨rfl,aa⟩;have hW:=(Aa HX) w1 aa;have HW:=Ac hW.1;have hd:=(Aa HD) w1 hW;obtain⟨f3,⟨g0,g1,g2,g3,g4⟩,g5,g6,g7,g8,g9⟩:=hd;clear aa hW))
      go_returns;exact⟨rfl,(Aa HQ) _ (Aa HW)⟩
theorem LW.wide{F':Aq}(h:LW p F G w)(hF:∀k,F k->F' k)(ac:∀k,F' k->k<w.heap.size):LW p F' G w:=by
 obtain⟨hx,hn,ab,ad⟩:=h.BP;have hk:Af (fun _=>False) w w:=Af.refl _ w;have aa:Avoid w F (fun _=>False):=Avoid.apart (fun _ _ q=>q);refine⟨h.wf,h.Db,h.bx,h.XH,?_,h.BN.keep hk aa hF,h.names,h.cl,fun i c hc=>?_,h.bound,⟨hF _ hx,hF _ hn,hF _ ab,hF _ ad⟩,fun i hi=>?_,h.inj,ac⟩
 ·obtain⟨K,h1,h2,h3⟩:=h.bn;exact⟨K,h1,h2,fun j hj=>hF _ (h3 j hj)⟩
 ·obtain⟨xs,h1,h2,h3⟩:=h.ln i c hc;exact⟨xs,h1,h2,h3.Eg hk aa.sv hF⟩
 ·obtain⟨a1,a2,a3,a4⟩:=h.FG i hi;exact⟨hF _ a1,hF _ a2,hF _ a3,a4⟩
theorem Nn{B:Nat}{O:Value}{v:List V.It}(h:V.Row w B O v)(ac:v≠[]):BF w (fun k=>O.ownBlock=some k) O v/\∀k,O.ownBlock=some k->B<=k/\k<w.heap.size:=by
 refine⟨?_,fun k hk=>World.ownsRow.lt h k hk⟩;rcases id h.2 with ⟨_,h0⟩|⟨g,cap,ab,rfl,_,hg,aa,_,ae,ad⟩
 ·exact absurd (List.length_eq_zero_iff.1 h0) ac
 ·refine Or.inr ⟨g,0,cap,ab,ac,rfl,aa,rfl,hg,fun j x hx=>?_⟩;have hj:=(List.getElem?_eq_some_iff.1 hx).1;have q:∀i u,i<2->(V.flat v)[j*2+i]?=some u->ab[0+j*2+i]?=some u:=fun i u hi hu=>by
   rw[<-ad,List.getElem?_take,if_pos (by omega)]at hu;rw[Nat.zero_add];simpa using hu
  exact⟨q 0 _ (by omega) (V.flat_get v j x hx).1,q 1 _ (by omega) (V.flat_get v j x hx).2⟩
theorem LW.rest(h:LW p F G w)(ha:R.At G i k c l)(h1:l.state=1):
  Calls Tryz.prog 149 #[ptr (p.cb i),.pointer (some ⟨p.lb i,k*10,none⟩)] w fun e w'=>e=.returned (.tuple #[])/\LW p F (R.ET G i k) w'/\Ap F F w w':=by
 obtain⟨xs,x,hL,hR,hx,aa,ak,aj,ah⟩:=h.line ha.cl ha.ln;have ab:=Ic h ha.cl;have hi:=(List.getElem?_eq_some_iff.1 ha.cl).1;have ac:=(h.wf.cl i c ha.cl).line k l ha.ln;obtain⟨z1,z2,ai,ae,am,al⟩:=ac.one h1;have af:=h.wf.cf;unfold R.BD at af;have ag:F (p.lb i):=(h.FG i hi).2.1;have e:R.ET G i k=R.Am G i k {l with wait:=G.c.Ay,tries:=G.c.tries}:=by
  unfold R.ET;rw[ha.line]
 rw[e];refine(Rv w (p.cb i) (p.lb i) k G.c.Ay G.c.tries xs x hL hx ab.a4 ab.a5 (AZ (h.cl i c ha.cl) hL (by decide))).mono ?_;rintro e w' ⟨rfl,ad,hk⟩;refine⟨rfl,?_,hk.mono (fun q _ e=>by rw[e];exact ag),fun _ q=>Or.inl q⟩;exact h.turn ha.cl hL hR aj hk ad ⟨ac.seq,fun _=>⟨z1,z2,ai,ae,by simp only;omega,by simp only;omega⟩⟩ ⟨aa.state,aa.seq,aa.res,fun q=>⟨(aa.one q).1,(aa.one q).2.1,(aa.one q).2.2.1,rfl,rfl⟩,aa.two⟩ ah
theorem LW.got(h:LW p F G w)(ha:R.At G i k c l)(h1:l.state=1){P:Pk}(hr:AR P)(ac:i<3)(ad:k<3)(hP:P.line=(k:Int)):
  Calls Tryz.prog 217 #[ptr (p.cb i),pv P] w fun e w'=>e=.returned (.tuple #[])/\∃F',LW p F' (R.I1 G i P) w'/\Ap F F' w w':=by
 refine Yf w (p.cb i) P _ (fun wa hb=>?_);have aa:=(h.wf.cl i c ha.cl).line k l ha.ln;obtain⟨z1,z2,_,_,_,_⟩:=aa.one h1;have ab:=(h.wf.cl i c ha.cl).Ae;have ae:=aa.seq;obtain⟨_,_,_,_,_,_,h7,h8,_⟩:=hr;rw[hP];refine((h.below hb).ZE ha.cl ha.ln h1 6 P.part P.off false [] ⟨by simp,by simp only;omega,ab,by simp only;omega,by simp only;omega,z2,h7,h8,?_⟩).mono ?_
 ·unfold Dm;simp
 ·rintro e w' ⟨rfl,F',q1,q2⟩;refine⟨rfl,F',?_,(Ap.Al F hb).trans q2⟩;have e:R.I1 G i P=R.Bg G (-1) ⟨6,i,c.Ae,k,l.seq,l.uid,P.part,P.off,false,[]⟩:=by
   unfold R.I1;rw[hP,ha.line,R.Co ha.cl]
  rw[e];exact q1
theorem SG(w:World)(b off cap:Nat):
  Calls Tryz.prog 39 #[.slice (some ⟨b,off,none⟩) 0 cap] w fun e w'=>(∃a,e=.returned (.slice a 0 0))/\Below w.heap.size w w':=by
 have hq:∀w,(binOp .eql 37 (.slice (some ⟨b,off,none⟩) 0 cap) (.slice none 0 0)).run Tryz.prog w=.ok (.bool false) w:=fun w=>by rfl
 go_enter Tryz.func39,Tryz.ntmps39;go_wp2
 go_ret
 exact⟨⟨_,rfl⟩,(Below.refl _ _).alloc (Nat.le_refl _) _⟩
theorem KA(l:List R.En)(e:R.En)(d:Int):∀aa,R.Fq (l++[e]) d aa=if R.IY e.arg 0=d then e.arg.drop 2 else R.Fq l d aa:=by
 induction l with
 |nil=>intro aa;rfl
 |cons a l ih=>intro aa;exact ih _
theorem Td(w:World)(b dn bb off n cap dc:Nat)(da:Option Addr)(proc:Int)(ak:dn<3)(hn:2<=n)(ah:n<=cap)(c0:w.cell? ⟨bb,off,none⟩=some (.int .i64 (dn:Int)))(db:w.cell? ⟨b,dn,none⟩=some (.slice da 0 dc))(z:w.frozen? ⟨b,dn,none⟩=false)
  (C:Value->World->World->Prop) (ab:Value->World->Prop)
  (ae:Hid (∀wa,Below w.heap.size w wa->Calls Tryz.prog 39 #[.slice (some ⟨bb,if cap=2 then off else off+4,none⟩) (n-2) (cap-2)] wa fun e w'=>(∃ra rn rc,e=.returned (.slice ra rn rc)/\C (.slice ra rn rc) wa w')/\Below wa.heap.size wa w'))
  (HP:Hid (∀O wa w1,Below w.heap.size w wa->Below w.heap.size w w1->C O wa w1->ab (.slice (some ⟨w1.heap.size,0,none⟩) 2 2) ((w1.setCell ⟨b,dn,none⟩ O).alloc (.cells #[.int .i64 0,.string ⟨#[]⟩,.int .i64 0,.string ⟨#[]⟩] 73)))):
  Calls Tryz.prog 294 #[ptr b,.int .i64 proc,.slice (some ⟨bb,off,none⟩) n cap] w fun e w'=>∃O,e=.returned O/\ab O w':=by
 have q1:(0:Int)<=(dn:Int):=by omega
 have q2:(dn:Int)<3:=by omega
 have q3:(0:Int)<(n:Int):=by omega
 have hl:=lt_of_cell db;have HB:Hid (∀m,Below w.heap.size w (w.drewN m)):=fun m=>below_drewN (Below.refl _ _) m
 by_cases ag:cap=2
 ·rw[if_pos ag]at ae;subst ag;have aj:n=2:=by omega
  subst aj;go_enter Tryz.func294,Tryz.ntmps294;go_wp2_with fail
  go_quiet (fail);go_wp2_with (first|(go_at_call 39;refine((Aa ae) _ ((Aa HB) _)).mono ?_;rintro e w1 ⟨⟨ra,rn,rc,rfl,ad⟩,ac⟩;have aa:=((Aa HB) _).trans (ac.mono (by simp));have af:w1.cell? ⟨b,dn,none⟩=some (.slice da 0 dc):=(aa.cell (p:=⟨b,dn,none⟩) hl).trans db;have z1:w1.frozen? ⟨b,dn,none⟩=false:=(aa.frozen (p:=⟨b,dn,none⟩) hl).trans z;have ai:=lt_of_cell af;have HQ:=Ac ((Aa HP) _ _ w1 ((Aa HB) _) aa ad);clear ad ac aa))
  go_returns;exact⟨_,rfl,Aa HQ⟩
 ·rw[if_neg ag]at ae;have h2:¬cap-2=0:=by omega
  have h3:2<cap:=by omega
  go_enter Tryz.func294,Tryz.ntmps294;go_wp2_with fail
  go_quiet (fail);go_wp2_with (first|(go_at_call 39;refine((Aa ae) _ ((Aa HB) _)).mono ?_;rintro e w1 ⟨⟨ra,rn,rc,rfl,ad⟩,ac⟩;have aa:=((Aa HB) _).trans (ac.mono (by simp));have af:w1.cell? ⟨b,dn,none⟩=some (.slice da 0 dc):=(aa.cell (p:=⟨b,dn,none⟩) hl).trans db;have z1:w1.frozen? ⟨b,dn,none⟩=false:=(aa.frozen (p:=⟨b,dn,none⟩) hl).trans z;have ai:=lt_of_cell af;have HQ:=Ac ((Aa HP) _ _ w1 ((Aa HB) _) aa ad);clear ad ac aa))
  go_returns;exact⟨_,rfl,Aa HQ⟩
theorem VJ(w:World)(b dn bb off n cap lb lo dc:Nat)(l:List V.It)(proc:Int)(aE:dn<3)(hn:2<=n)(az:n<=cap)(au:l≠[])(aF:l.length<=100)(c0:w.cell? ⟨bb,off,none⟩=some (.int .i64 (dn:Int)))(db:w.cell? ⟨b,dn,none⟩=some (.slice (some ⟨lb,lo,none⟩) l.length dc))(z:w.frozen? ⟨b,dn,none⟩=false)(ar:lb<w.heap.size)(ay:¬lb=b)(af:∀j x,l[j]?=some x->w.cell? ⟨lb,lo+j*2,none⟩=some (.int .i64 x.1)/\w.cell? ⟨lb,lo+j*2+1,none⟩=some (.string x.2))
  (C:Value->World->World->Prop) (ai:Value->World->Prop)
  (ak:Hid (∀wa,Below w.heap.size w wa->Calls Tryz.prog 39 #[.slice (some ⟨bb,if cap=2 then off else off+4,none⟩) (n-2) (cap-2)] wa fun e w'=>(∃ra rn rc,e=.returned (.slice ra rn rc)/\C (.slice ra rn rc) wa w')/\Below wa.heap.size wa w'))
  (HP:Hid (∀O wa w1 R w2,Below w.heap.size w wa->Below w.heap.size w w1->C O wa w1->V.Row w2 w1.heap.size R ((1,⟨#[]⟩) :: ((l.length:Int),⟨#[]⟩) :: l)->Below w1.heap.size (w1.setCell ⟨b,dn,none⟩ O) w2->ai R w2)):
  Calls Tryz.prog 294 #[ptr b,.int .i64 proc,.slice (some ⟨bb,off,none⟩) n cap] w fun e w'=>∃O,e=.returned O/\ai O w':=by
 have q1:(0:Int)<=(dn:Int):=by omega
 have q2:(dn:Int)<3:=by omega
 have q3:(0:Int)<(n:Int):=by omega
 have hl:=lt_of_cell db;have aD:0<l.length:=List.length_pos_iff.2 au;have e1:((l.length:Int)==0)=false:=by simp[au]
 have HB:Hid (∀m,Below w.heap.size w (w.drewN m)):=fun m=>below_drewN (Below.refl _ _) m
 obtain⟨i0,hi,av,aw,ax⟩:=info_parts V.MR;have aq:=V.FM l;have ah:Hid (∀(w1:World) (O:Value),Below w.heap.size w w1->∀j u,(V.flat l)[j]?=some u->((w1.setCell ⟨b,dn,none⟩ O).alloc (.cells #[.int .i64 1,.string ⟨#[]⟩,.int .i64 (l.length:Int),.string ⟨#[]⟩] 73)).cell? ((⟨lb,lo,none⟩:Addr).add j)=some u):=fun w1 O ad=>by
  refine QJ (w:=(w1.setCell ⟨b,dn,none⟩ O).alloc (.cells #[.int .i64 1,.string ⟨#[]⟩,.int .i64 (l.length:Int),.string ⟨#[]⟩] 73)) l (fun j x hx=>?_);have aB:lb<w1.heap.size:=Nat.lt_of_lt_of_le ar ad.size;have h3:∀q v,w.cell? ⟨lb,q,none⟩=some v->((w1.setCell ⟨b,dn,none⟩ O).alloc (.cells #[.int .i64 1,.string ⟨#[]⟩,.int .i64 (l.length:Int),.string ⟨#[]⟩] 73)).cell? ⟨lb,q,none⟩=some v:=fun q v hv=>by
   have hA:Below (w1.setCell ⟨b,dn,none⟩ O).heap.size (w1.setCell ⟨b,dn,none⟩ O) ((w1.setCell ⟨b,dn,none⟩ O).alloc (.cells #[.int .i64 1,.string ⟨#[]⟩,.int .i64 (l.length:Int),.string ⟨#[]⟩] 73)):=(Below.refl _ _).alloc (Nat.le_refl _) _;rw[hA.cell (p:=⟨lb,q,none⟩) (by simpa using aB),World.cell?_setCell_far _ _ _ _ (fun e=>ay e.symm)];exact(ad.cell (p:=⟨lb,q,none⟩) ar).trans hv
  exact⟨h3 _ _ (af j x hx).1,h3 _ _ (af j x hx).2⟩
 have ag:Hid (∀(w1:World) (O:Value),((w1.setCell ⟨b,dn,none⟩ O).alloc (.cells #[.int .i64 1,.string ⟨#[]⟩,.int .i64 (l.length:Int),.string ⟨#[]⟩] 73)).ownsRow w1.heap.size 73 2 (.slice (some ⟨w1.heap.size,0,none⟩) 2 2) 2 [.int .i64 1,.string ⟨#[]⟩,.int .i64 (l.length:Int),.string ⟨#[]⟩]):=fun w1 O=>by
  refine⟨rfl,Or.inr ⟨w1.heap.size,2,#[.int .i64 1,.string ⟨#[]⟩,.int .i64 (l.length:Int),.string ⟨#[]⟩],rfl,Nat.le_refl _,?_,Nat.le_refl _,by decide,rfl,rfl⟩⟩;have:=heap_alloc_new (w1.setCell ⟨b,dn,none⟩ O) (.cells #[.int .i64 1,.string ⟨#[]⟩,.int .i64 (l.length:Int),.string ⟨#[]⟩] 73);simpa using this
 clear af;by_cases ao:cap=2
 ·rw[if_pos ao]at ak;subst ao;have aC:n=2:=by omega
  subst aC;go_enter Tryz.func294,Tryz.ntmps294;go_wp2_with fail
  go_quiet (fail);go_wp2_with (first|(go_at_call 39;refine((Aa ak) _ ((Aa HB) _)).mono ?_;rintro e w1 ⟨⟨ra,rn,rc,rfl,aj⟩,ad⟩;have ac:=((Aa HB) _).trans (ad.mono (by simp));have an:w1.cell? ⟨b,dn,none⟩=some (.slice (some ⟨lb,lo,none⟩) l.length dc):=(ac.cell (p:=⟨b,dn,none⟩) hl).trans db;have z1:w1.frozen? ⟨b,dn,none⟩=false:=(ac.frozen (p:=⟨b,dn,none⟩) hl).trans z;have aA:=lt_of_cell an;have HQ:=Ac (fun R w2=>(Aa HP) _ _ w1 R w2 ((Aa HB) _) ac aj);have am:=Ac ((Aa ah) w1 (.slice ra rn rc) ac);have al:=Ac ((Aa ag) w1 (.slice ra rn rc));clear aj ad ac)|(at_builtin;go_must (refine wpList_append_own_at _ rfl (.tmp 35) (.tmp 36) 37 rfl w1.heap.size 73 i0 (.agg #[.int .i64 0,.string ⟨#[]⟩]) 2 24 Tryz.underlying37 hi av aw ax rfl (by decide) (.slice (some ⟨w1.heap.size,0,none⟩) 2 2) 2 [.int .i64 1,.string ⟨#[]⟩,.int .i64 (l.length:Int),.string ⟨#[]⟩] rfl (Aa al) ⟨lb,lo,none⟩ l.length dc (V.flat l) rfl aq (Aa am) (V.JX l) (by unfold maxLen;omega) (by omega) (by simp) ?_)))
  intro v' wz ab aa ae _;obtain⟨va,vn,vc,ap⟩:=Ar ab;subst ap;have hz:Below w1.heap.size (w1.setCell ⟨b,dn,none⟩ (.slice ra rn rc)) wz:=((Below.refl _ _).alloc (by simp) _).grown aa (by simp) (fun k hk=>by cases hk;exact Nat.le_refl _);have HF:=Ac ((Aa HQ) (.slice va vn vc) wz (by
   have e:V.flat ((1,⟨#[]⟩) :: ((l.length:Int),⟨#[]⟩) :: l)=[.int .i64 1,.string ⟨#[]⟩,.int .i64 (l.length:Int),.string ⟨#[]⟩]++V.flat l:=rfl;have e2:((1,⟨#[]⟩) :: ((l.length:Int),⟨#[]⟩) :: l:List V.It).length=2+l.length:=by simp;omega
   unfold V.Row;rw[e,e2];exact ab) hz)
  clear ab aa ae hz;go_wp2;go_returns;exact⟨_,rfl,Aa HF⟩
 ·rw[if_neg ao]at ak;have h2:¬cap-2=0:=by omega
  have h3:2<cap:=by omega
  go_enter Tryz.func294,Tryz.ntmps294;go_wp2_with fail
  go_quiet (fail);go_wp2_with (first|(go_at_call 39;refine((Aa ak) _ ((Aa HB) _)).mono ?_;rintro e w1 ⟨⟨ra,rn,rc,rfl,aj⟩,ad⟩;have ac:=((Aa HB) _).trans (ad.mono (by simp));have an:w1.cell? ⟨b,dn,none⟩=some (.slice (some ⟨lb,lo,none⟩) l.length dc):=(ac.cell (p:=⟨b,dn,none⟩) hl).trans db;have z1:w1.frozen? ⟨b,dn,none⟩=false:=(ac.frozen (p:=⟨b,dn,none⟩) hl).trans z;have aA:=lt_of_cell an;have HQ:=Ac (fun R w2=>(Aa HP) _ _ w1 R w2 ((Aa HB) _) ac aj);have am:=Ac ((Aa ah) w1 (.slice ra rn rc) ac);have al:=Ac ((Aa ag) w1 (.slice ra rn rc));clear aj ad ac)|(at_builtin;go_must (refine wpList_append_own_at _ rfl (.tmp 35) (.tmp 36) 37 rfl w1.heap.size 73 i0 (.agg #[.int .i64 0,.string ⟨#[]⟩]) 2 24 Tryz.underlying37 hi av aw ax rfl (by decide) (.slice (some ⟨w1.heap.size,0,none⟩) 2 2) 2 [.int .i64 1,.string ⟨#[]⟩,.int .i64 (l.length:Int),.string ⟨#[]⟩] rfl (Aa al) ⟨lb,lo,none⟩ l.length dc (V.flat l) rfl aq (Aa am) (V.JX l) (by unfold maxLen;omega) (by omega) (by simp) ?_)))
  intro v' wz ab aa ae _;obtain⟨va,vn,vc,ap⟩:=Ar ab;subst ap;have hz:Below w1.heap.size (w1.setCell ⟨b,dn,none⟩ (.slice ra rn rc)) wz:=((Below.refl _ _).alloc (by simp) _).grown aa (by simp) (fun k hk=>by cases hk;exact Nat.le_refl _);have HF:=Ac ((Aa HQ) (.slice va vn vc) wz (by
   have e:V.flat ((1,⟨#[]⟩) :: ((l.length:Int),⟨#[]⟩) :: l)=[.int .i64 1,.string ⟨#[]⟩,.int .i64 (l.length:Int),.string ⟨#[]⟩]++V.flat l:=rfl;have e2:((1,⟨#[]⟩) :: ((l.length:Int),⟨#[]⟩) :: l:List V.It).length=2+l.length:=by simp;omega
   unfold V.Row;rw[e,e2];exact ab) hz)
  clear ab aa ae hz;go_wp2;go_returns;exact⟨_,rfl,Aa HF⟩
end Go.Proofs.YtblomippkddgiabGreatDoor
