import Derived.Test.YtblomippkddgiaaGreatDoorK39
set_option maxRecDepth 100000
set_option maxHeartbeats 4000000
namespace Go.Proofs.YtblomippkddgiaaGreatDoor
open Go.RowKit
theorem Rv:(Tryz.prog.info? 98).map (fun i=>(i.zero,i.size,i.bytes))=some (some (.agg #[.int .i64 0,.int .i64 0,.int .i64 0,.int .i64 0,.int .i64 0,.slice none 0 0,.slice none 0 0]),7,88):=by kernel_rfl
theorem V2:∀args w,(callFunc 133 args).run Tryz.prog w=.ok (.enter 133 args) w:=fun _ _=>rfl
theorem V3:∀args w,(callFunc 134 args).run Tryz.prog w=.ok (.enter 134 args) w:=fun _ _=>rfl
theorem JV(w:World)(c:List Value)(j:Nat)(u:Value)(h:c[j]?=some u):(w.alloc (.cells c.toArray 98)).cell? ((⟨w.heap.size,0,none⟩:Addr).add j)=some u:=by
 rw[Addr.add_lit,Nat.zero_add,World.cell?_alloc_new w _ _ j];simpa using h
theorem Wb(w:World)(s q g u m cap b:Nat)(pr c0 c1 c2 c3 kd:Int)(msg rb:List UInt8)(da:Option Addr)(dl dc:Nat)(es:List Value)(B1:Value->World->Prop)(B2:Value->Value->World->Prop)(B3:Value->World->Prop)(B4 B5 Post:World->Prop)
  (h6:w.cell? ⟨s,6,none⟩=some (.slice (some ⟨g,0,none⟩) m cap)) (hu:u<m) (hm:m<=255) (g0:w.cell? ⟨g,u*3,none⟩=some (.int .i64 kd)) (q4:w.cell? ⟨q,4,none⟩=some (.int .i64 ((u:Int)+1))) (q6:w.cell? ⟨q,6,none⟩=some (.string (str msg)))
  (H133:Hid (∀wa,Below w.heap.size w wa->Calls Tryz.prog 133 #[.int .i64 kd,.string (str msg)] wa fun e w'=>∃oa on oc,e=.returned (.tuple #[.int .i64 pr,.slice oa on oc])/\B1 (.slice oa on oc) w'))
  (F1:Hid (∀O w',B1 O w'->w'.cell? ⟨g,u*3+1,none⟩=some (.iface 328 (ptr b))/\Calls Tryz.prog 287 #[ptr b,.int .i64 pr,O] w' fun e w2=>∃ra rn rc,e=.returned (.slice ra rn rc)/\B2 O (.slice ra rn rc) w2))
  (F2:Hid (∀O R w',B2 O R w'->w'.cell? ⟨g,u*3+2,none⟩=some (.slice da dl dc)/\w'.ownsRow 0 98 7 (.slice da dl dc) dl es/\dl<=100000000000/\w'.cell? ⟨q,0,none⟩=some (.int .i64 c0)/\w'.cell? ⟨q,1,none⟩=some (.int .i64 c1)/\w'.cell? ⟨q,2,none⟩=some (.int .i64 c2)/\w'.cell? ⟨q,3,none⟩=some (.int .i64 c3)/\w'.cell? ⟨q,4,none⟩=some (.int .i64 ((u:Int)+1))/\w'.frozen? ⟨g,u*3+2,none⟩=false))
  (F3:Hid (∀O R w1 w2 wa wz K' va0,B1 O w1->B2 O R w2->Below w2.heap.size w2 wa->(wa.alloc (.cells #[.int .i64 c0,.int .i64 c1,.int .i64 c2,.int .i64 c3,.int .i64 pr,O,R] 98)).grownBy wz (Value.slice da dl dc).ownBlock->wz.ownsRow 0 98 7 K' (dl+1) (es++[.int .i64 c0,.int .i64 c1,.int .i64 c2,.int .i64 c3,.int .i64 pr,O,R])->(K'.ownBlock=(Value.slice da dl dc).ownBlock\/K'.ownBlock=some va0)->w2.heap.size<=va0->wz.cell? ⟨g,u*3+2,none⟩=some (.slice da dl dc)/\wz.frozen? ⟨g,u*3+2,none⟩=false/\g<wz.heap.size/\B3 R (wz.setCell ⟨g,u*3+2,none⟩ K')))
  (F4:Hid (∀R w',B3 R w'->w'.cell? ⟨g,u*3,none⟩=some (.int .i64 kd)/\Calls Tryz.prog 136 #[.int .i64 kd,.int .i64 pr,R] w' fun e w2=>e=.returned (.string (str rb))/\B4 w2))
  (F5:Hid (∀w',B4 w'->Calls Tryz.prog 135 #[ptr q,.string (str rb)] w' fun e w2=>e=.returned (.tuple #[])/\B5 w2))
  (F6:Hid (∀w',B5 w'->Calls Tryz.prog 137 #[ptr s,ptr q] w' fun e w2=>e=.returned (.tuple #[])/\Post w2)):
  Calls Tryz.prog 83 #[ptr s,ptr q] w fun e w'=>e=.returned (.tuple #[])/\Post w':=by
 obtain⟨i0,hi,hz0,hz1,hz2⟩:=info_parts Rv;have HV:=Ab (EG w s g u m cap h6 hu hm);have hlg:=lt_of_cell g0;have hlq:=lt_of_cell q4;have HB:Hid (∀n,Below w.heap.size w (w.drewN n)):=fun n=>below_drewN (Below.refl _ _) n
 generalize str msg=SM at *;generalize str rb=SR at *;go_enter Tryz.func83,Tryz.ntmps83;go_wp2_with (first|(go_at_call 132;refine(Aa HV).mono ?_;rintro e w1 ⟨rfl,hw1⟩;rw[hw1];clear hw1))
 go_region_law (refine AR rfl 133 #[.tmp 19,.tmp 23] #[3,135] rfl V2 #[.int .i64 kd,.string SM] rfl _ ((Aa H133) _ (by first|exact Below.refl _ _|exact(Aa HB) 1)) ?_;rintro e w1 ⟨oa,on,oc,rfl,hB1⟩;obtain⟨g1,hdo⟩:=(Aa F1) _ _ hB1;have HB1:=Ab hB1;have HDO:=Ab hdo;have hlg1:=lt_of_cell g1;clear hB1 hdo;refine⟨_,rfl,?_⟩)
 all_goals
  clear h6 g0 q4 q6 H133 HV HB hlg hlq;go_wp2_with (go_at_call 287;refine(Aa HDO).mono ?_;rintro e w2 ⟨ra,rn,rc,rfl,hB2⟩;obtain⟨d2,hrow,hdl,k0,k1,k2,k3,k4,z2⟩:=(Aa F2) _ _ _ hB2;have HB2:=Ab hB2;have HRW:=Ab hrow;have hlg2:=lt_of_cell d2;have hlq2:=lt_of_cell k0;clear hB2 hrow HDO g1 hlg1)
  go_region_law (first
   |(refine AR rfl 134 #[.tmp 42,.tmp 43,.tmp 44,.tmp 45] #[145,3,44,44] rfl V3 #[.agg #[.int .i64 c0,.int .i64 c1,.int .i64 c2,.int .i64 c3,.int .i64 ((u:Int)+1)],.int .i64 pr,.slice oa on oc,.slice ra rn rc] rfl _ (He _ c0 c1 c2 c3 ((u:Int)+1) pr oa ra on oc rn rc) ?_;rintro e wa ⟨rfl,hba⟩;have hba':Below w2.heap.size w2 wa:=D6 hba;have d3:wa.cell? ⟨g,u*3+2,none⟩=some (.slice da dl dc):=(hba'.cell (p:=⟨g,u*3+2,none⟩) hlg2).trans d2;have HBA:=Ab hba';have HRA:=Ab (Bu (Aa HRW) hba');have hsa:=hba'.size;have hlga:g<wa.heap.size:=(by omega);clear hba hba';refine⟨_,rfl,?_⟩)
   |(refine Bs rfl (.tmp 38) (.tmp 47) 211 rfl 0 98 i0 (.agg #[.int .i64 0,.int .i64 0,.int .i64 0,.int .i64 0,.int .i64 0,.slice none 0 0,.slice none 0 0]) 7 88 Tryz.underlying211 hi hz0 hz1 hz2 rfl (by decide) (.slice da dl dc) dl es rfl (by exact(Aa HRA).alloc _) ⟨wa.heap.size,0,none⟩ 1 1 [.int .i64 c0,.int .i64 c1,.int .i64 c2,.int .i64 c3,.int .i64 pr,.slice oa on oc,.slice ra rn rc] rfl rfl (by exact JV wa [.int .i64 c0,.int .i64 c1,.int .i64 c2,.int .i64 c3,.int .i64 pr,.slice oa on oc,.slice ra rn rc]) (by simp[Value.oneCell']) (by unfold maxLen;omega) (by omega) (by omega) ?_;intro v' wz hown hgrow hat;obtain⟨va,vn,vc,hvs⟩:=Ar hown;subst hvs;obtain⟨p1,p2,p3,p4⟩:=(Aa F3) _ _ _ _ _ _ _ _ (Aa HB1) (Aa HB2) (Aa HBA) hgrow hown hat (by simp;omega);have HP4:=Ab p4;clear p4 hown hgrow hat))
  all_goals
   obtain⟨t0,hwr⟩:=(Aa F4) _ _ (Aa HP4);have HWR:=Ab hwr;clear hwr HP4 HB1 HB2 HBA HRA HRW F1 F2 F3 F4 d2 d3 k0 k1 k2 k3 k4 z2 hi hz0 hz1 hz2 p1 p2 p3;go_wp2_with (first
    |(go_at_call 136;refine(Aa HWR).mono ?_;rintro e w5 ⟨rfl,hB4⟩;have H5:=Ab ((Aa F5) _ hB4);clear hB4)
    |(go_at_call 135;refine(Aa H5).mono ?_;rintro e w6 ⟨rfl,hB5⟩;have H6:=Ab ((Aa F6) _ hB5);clear hB5)
    |(go_at_call 137;refine(Aa H6).mono ?_;rintro e w7 ⟨rfl,hPo⟩;have HPo:=Ab hPo;clear hPo))
   go_returns;exact⟨rfl,Aa HPo⟩
theorem Wc(w:World)(s q g u m cap b:Nat)(pr c0 c1 c2 c3 kd:Int)(msg rb:List UInt8)(da:Option Addr)(dl dc:Nat)(es:List Value)(B1:Value->World->Prop)(B2:Value->Value->World->Prop)(B3:Value->World->Prop)(B4 B5 Post:World->Prop)
  (h6:w.cell? ⟨s,6,none⟩=some (.slice (some ⟨g,0,none⟩) m cap)) (hu:u<m) (hm:m<=255) (g0:w.cell? ⟨g,u*3,none⟩=some (.int .i64 kd)) (q4:w.cell? ⟨q,4,none⟩=some (.int .i64 ((u:Int)+1))) (q6:w.cell? ⟨q,6,none⟩=some (.string (str msg)))
  (H133:Hid (∀wa,Below w.heap.size w wa->Calls Tryz.prog 133 #[.int .i64 kd,.string (str msg)] wa fun e w'=>∃oa on oc,e=.returned (.tuple #[.int .i64 pr,.slice oa on oc])/\B1 (.slice oa on oc) w'))
  (F1:Hid (∀O w',B1 O w'->w'.cell? ⟨g,u*3+1,none⟩=some (.iface 331 (ptr b))/\Calls Tryz.prog 290 #[ptr b,.int .i64 pr,O] w' fun e w2=>∃ra rn rc,e=.returned (.slice ra rn rc)/\B2 O (.slice ra rn rc) w2))
  (F2:Hid (∀O R w',B2 O R w'->w'.cell? ⟨g,u*3+2,none⟩=some (.slice da dl dc)/\w'.ownsRow 0 98 7 (.slice da dl dc) dl es/\dl<=100000000000/\w'.cell? ⟨q,0,none⟩=some (.int .i64 c0)/\w'.cell? ⟨q,1,none⟩=some (.int .i64 c1)/\w'.cell? ⟨q,2,none⟩=some (.int .i64 c2)/\w'.cell? ⟨q,3,none⟩=some (.int .i64 c3)/\w'.cell? ⟨q,4,none⟩=some (.int .i64 ((u:Int)+1))/\w'.frozen? ⟨g,u*3+2,none⟩=false))
  (F3:Hid (∀O R w1 w2 wa wz K' va0,B1 O w1->B2 O R w2->Below w2.heap.size w2 wa->(wa.alloc (.cells #[.int .i64 c0,.int .i64 c1,.int .i64 c2,.int .i64 c3,.int .i64 pr,O,R] 98)).grownBy wz (Value.slice da dl dc).ownBlock->wz.ownsRow 0 98 7 K' (dl+1) (es++[.int .i64 c0,.int .i64 c1,.int .i64 c2,.int .i64 c3,.int .i64 pr,O,R])->(K'.ownBlock=(Value.slice da dl dc).ownBlock\/K'.ownBlock=some va0)->w2.heap.size<=va0->wz.cell? ⟨g,u*3+2,none⟩=some (.slice da dl dc)/\wz.frozen? ⟨g,u*3+2,none⟩=false/\g<wz.heap.size/\B3 R (wz.setCell ⟨g,u*3+2,none⟩ K')))
  (F4:Hid (∀R w',B3 R w'->w'.cell? ⟨g,u*3,none⟩=some (.int .i64 kd)/\Calls Tryz.prog 136 #[.int .i64 kd,.int .i64 pr,R] w' fun e w2=>e=.returned (.string (str rb))/\B4 w2))
  (F5:Hid (∀w',B4 w'->Calls Tryz.prog 135 #[ptr q,.string (str rb)] w' fun e w2=>e=.returned (.tuple #[])/\B5 w2))
  (F6:Hid (∀w',B5 w'->Calls Tryz.prog 137 #[ptr s,ptr q] w' fun e w2=>e=.returned (.tuple #[])/\Post w2)):
  Calls Tryz.prog 83 #[ptr s,ptr q] w fun e w'=>e=.returned (.tuple #[])/\Post w':=by
 obtain⟨i0,hi,hz0,hz1,hz2⟩:=info_parts Rv;have HV:=Ab (EG w s g u m cap h6 hu hm);have hlg:=lt_of_cell g0;have hlq:=lt_of_cell q4;have HB:Hid (∀n,Below w.heap.size w (w.drewN n)):=fun n=>below_drewN (Below.refl _ _) n
 generalize str msg=SM at *;generalize str rb=SR at *;go_enter Tryz.func83,Tryz.ntmps83;go_wp2_with (first|(go_at_call 132;refine(Aa HV).mono ?_;rintro e w1 ⟨rfl,hw1⟩;rw[hw1];clear hw1))
 go_region_law (refine AR rfl 133 #[.tmp 19,.tmp 23] #[3,135] rfl V2 #[.int .i64 kd,.string SM] rfl _ ((Aa H133) _ (by first|exact Below.refl _ _|exact(Aa HB) 1)) ?_;rintro e w1 ⟨oa,on,oc,rfl,hB1⟩;obtain⟨g1,hdo⟩:=(Aa F1) _ _ hB1;have HB1:=Ab hB1;have HDO:=Ab hdo;have hlg1:=lt_of_cell g1;clear hB1 hdo;refine⟨_,rfl,?_⟩)
 all_goals
  clear h6 g0 q4 q6 H133 HV HB hlg hlq;go_wp2_with (go_at_call 290;refine(Aa HDO).mono ?_;rintro e w2 ⟨ra,rn,rc,rfl,hB2⟩;obtain⟨d2,hrow,hdl,k0,k1,k2,k3,k4,z2⟩:=(Aa F2) _ _ _ hB2;have HB2:=Ab hB2;have HRW:=Ab hrow;have hlg2:=lt_of_cell d2;have hlq2:=lt_of_cell k0;clear hB2 hrow HDO g1 hlg1)
  go_region_law (first
   |(refine AR rfl 134 #[.tmp 42,.tmp 43,.tmp 44,.tmp 45] #[145,3,44,44] rfl V3 #[.agg #[.int .i64 c0,.int .i64 c1,.int .i64 c2,.int .i64 c3,.int .i64 ((u:Int)+1)],.int .i64 pr,.slice oa on oc,.slice ra rn rc] rfl _ (He _ c0 c1 c2 c3 ((u:Int)+1) pr oa ra on oc rn rc) ?_;rintro e wa ⟨rfl,hba⟩;have hba':Below w2.heap.size w2 wa:=D6 hba;have d3:wa.cell? ⟨g,u*3+2,none⟩=some (.slice da dl dc):=(hba'.cell (p:=⟨g,u*3+2,none⟩) hlg2).trans d2;have HBA:=Ab hba';have HRA:=Ab (Bu (Aa HRW) hba');have hsa:=hba'.size;have hlga:g<wa.heap.size:=(by omega);clear hba hba';refine⟨_,rfl,?_⟩)
   |(refine Bs rfl (.tmp 38) (.tmp 47) 211 rfl 0 98 i0 (.agg #[.int .i64 0,.int .i64 0,.int .i64 0,.int .i64 0,.int .i64 0,.slice none 0 0,.slice none 0 0]) 7 88 Tryz.underlying211 hi hz0 hz1 hz2 rfl (by decide) (.slice da dl dc) dl es rfl (by exact(Aa HRA).alloc _) ⟨wa.heap.size,0,none⟩ 1 1 [.int .i64 c0,.int .i64 c1,.int .i64 c2,.int .i64 c3,.int .i64 pr,.slice oa on oc,.slice ra rn rc] rfl rfl (by exact JV wa [.int .i64 c0,.int .i64 c1,.int .i64 c2,.int .i64 c3,.int .i64 pr,.slice oa on oc,.slice ra rn rc]) (by simp[Value.oneCell']) (by unfold maxLen;omega) (by omega) (by omega) ?_;intro v' wz hown hgrow hat;obtain⟨va,vn,vc,hvs⟩:=Ar hown;subst hvs;obtain⟨p1,p2,p3,p4⟩:=(Aa F3) _ _ _ _ _ _ _ _ (Aa HB1) (Aa HB2) (Aa HBA) hgrow hown hat (by simp;omega);have HP4:=Ab p4;clear p4 hown hgrow hat))
  all_goals
   obtain⟨t0,hwr⟩:=(Aa F4) _ _ (Aa HP4);have HWR:=Ab hwr;clear hwr HP4 HB1 HB2 HBA HRA HRW F1 F2 F3 F4 d2 d3 k0 k1 k2 k3 k4 z2 hi hz0 hz1 hz2 p1 p2 p3;go_wp2_with (first
    |(go_at_call 136;refine(Aa HWR).mono ?_;rintro e w5 ⟨rfl,hB4⟩;have H5:=Ab ((Aa F5) _ hB4);clear hB4)
    |(go_at_call 135;refine(Aa H5).mono ?_;rintro e w6 ⟨rfl,hB5⟩;have H6:=Ab ((Aa F6) _ hB5);clear hB5)
    |(go_at_call 137;refine(Aa H6).mono ?_;rintro e w7 ⟨rfl,hPo⟩;have HPo:=Ab hPo;clear hPo))
   go_returns;exact⟨rfl,Aa HPo⟩
theorem Wh(w:World)(s q g u m cap b:Nat)(pr c0 c1 c2 c3 kd:Int)(msg rb:List UInt8)(da:Option Addr)(dl dc:Nat)(es:List Value)(B1:Value->World->Prop)(B2:Value->Value->World->Prop)(B3:Value->World->Prop)(B4 B5 Post:World->Prop)
  (h6:w.cell? ⟨s,6,none⟩=some (.slice (some ⟨g,0,none⟩) m cap)) (hu:u<m) (hm:m<=255) (g0:w.cell? ⟨g,u*3,none⟩=some (.int .i64 kd)) (q4:w.cell? ⟨q,4,none⟩=some (.int .i64 ((u:Int)+1))) (q6:w.cell? ⟨q,6,none⟩=some (.string (str msg)))
  (H133:Hid (∀wa,Below w.heap.size w wa->Calls Tryz.prog 133 #[.int .i64 kd,.string (str msg)] wa fun e w'=>∃oa on oc,e=.returned (.tuple #[.int .i64 pr,.slice oa on oc])/\B1 (.slice oa on oc) w'))
  (F1:Hid (∀O w',B1 O w'->w'.cell? ⟨g,u*3+1,none⟩=some (.iface 334 (ptr b))/\Calls Tryz.prog 294 #[ptr b,.int .i64 pr,O] w' fun e w2=>∃ra rn rc,e=.returned (.slice ra rn rc)/\B2 O (.slice ra rn rc) w2))
  (F2:Hid (∀O R w',B2 O R w'->w'.cell? ⟨g,u*3+2,none⟩=some (.slice da dl dc)/\w'.ownsRow 0 98 7 (.slice da dl dc) dl es/\dl<=100000000000/\w'.cell? ⟨q,0,none⟩=some (.int .i64 c0)/\w'.cell? ⟨q,1,none⟩=some (.int .i64 c1)/\w'.cell? ⟨q,2,none⟩=some (.int .i64 c2)/\w'.cell? ⟨q,3,none⟩=some (.int .i64 c3)/\w'.cell? ⟨q,4,none⟩=some (.int .i64 ((u:Int)+1))/\w'.frozen? ⟨g,u*3+2,none⟩=false))
  (F3:Hid (∀O R w1 w2 wa wz K' va0,B1 O w1->B2 O R w2->Below w2.heap.size w2 wa->(wa.alloc (.cells #[.int .i64 c0,.int .i64 c1,.int .i64 c2,.int .i64 c3,.int .i64 pr,O,R] 98)).grownBy wz (Value.slice da dl dc).ownBlock->wz.ownsRow 0 98 7 K' (dl+1) (es++[.int .i64 c0,.int .i64 c1,.int .i64 c2,.int .i64 c3,.int .i64 pr,O,R])->(K'.ownBlock=(Value.slice da dl dc).ownBlock\/K'.ownBlock=some va0)->w2.heap.size<=va0->wz.cell? ⟨g,u*3+2,none⟩=some (.slice da dl dc)/\wz.frozen? ⟨g,u*3+2,none⟩=false/\g<wz.heap.size/\B3 R (wz.setCell ⟨g,u*3+2,none⟩ K')))
  (F4:Hid (∀R w',B3 R w'->w'.cell? ⟨g,u*3,none⟩=some (.int .i64 kd)/\Calls Tryz.prog 136 #[.int .i64 kd,.int .i64 pr,R] w' fun e w2=>e=.returned (.string (str rb))/\B4 w2))
  (F5:Hid (∀w',B4 w'->Calls Tryz.prog 135 #[ptr q,.string (str rb)] w' fun e w2=>e=.returned (.tuple #[])/\B5 w2))
  (F6:Hid (∀w',B5 w'->Calls Tryz.prog 137 #[ptr s,ptr q] w' fun e w2=>e=.returned (.tuple #[])/\Post w2)):
  Calls Tryz.prog 83 #[ptr s,ptr q] w fun e w'=>e=.returned (.tuple #[])/\Post w':=by
 obtain⟨i0,hi,hz0,hz1,hz2⟩:=info_parts Rv;have HV:=Ab (EG w s g u m cap h6 hu hm);have hlg:=lt_of_cell g0;have hlq:=lt_of_cell q4;have HB:Hid (∀n,Below w.heap.size w (w.drewN n)):=fun n=>below_drewN (Below.refl _ _) n
 generalize str msg=SM at *;generalize str rb=SR at *;go_enter Tryz.func83,Tryz.ntmps83;go_wp2_with (first|(go_at_call 132;refine(Aa HV).mono ?_;rintro e w1 ⟨rfl,hw1⟩;rw[hw1];clear hw1))
 go_region_law (refine AR rfl 133 #[.tmp 19,.tmp 23] #[3,135] rfl V2 #[.int .i64 kd,.string SM] rfl _ ((Aa H133) _ (by first|exact Below.refl _ _|exact(Aa HB) 1)) ?_;rintro e w1 ⟨oa,on,oc,rfl,hB1⟩;obtain⟨g1,hdo⟩:=(Aa F1) _ _ hB1;have HB1:=Ab hB1;have HDO:=Ab hdo;have hlg1:=lt_of_cell g1;clear hB1 hdo;refine⟨_,rfl,?_⟩)
 all_goals
  clear h6 g0 q4 q6 H133 HV HB hlg hlq;go_wp2_with (go_at_call 294;refine(Aa HDO).mono ?_;rintro e w2 ⟨ra,rn,rc,rfl,hB2⟩;obtain⟨d2,hrow,hdl,k0,k1,k2,k3,k4,z2⟩:=(Aa F2) _ _ _ hB2;have HB2:=Ab hB2;have HRW:=Ab hrow;have hlg2:=lt_of_cell d2;have hlq2:=lt_of_cell k0;clear hB2 hrow HDO g1 hlg1)
  go_region_law (first
   |(refine AR rfl 134 #[.tmp 42,.tmp 43,.tmp 44,.tmp 45] #[145,3,44,44] rfl V3 #[.agg #[.int .i64 c0,.int .i64 c1,.int .i64 c2,.int .i64 c3,.int .i64 ((u:Int)+1)],.int .i64 pr,.slice oa on oc,.slice ra rn rc] rfl _ (He _ c0 c1 c2 c3 ((u:Int)+1) pr oa ra on oc rn rc) ?_;rintro e wa ⟨rfl,hba⟩;have hba':Below w2.heap.size w2 wa:=D6 hba;have d3:wa.cell? ⟨g,u*3+2,none⟩=some (.slice da dl dc):=(hba'.cell (p:=⟨g,u*3+2,none⟩) hlg2).trans d2;have HBA:=Ab hba';have HRA:=Ab (Bu (Aa HRW) hba');have hsa:=hba'.size;have hlga:g<wa.heap.size:=(by omega);clear hba hba';refine⟨_,rfl,?_⟩)
   |(refine Bs rfl (.tmp 38) (.tmp 47) 211 rfl 0 98 i0 (.agg #[.int .i64 0,.int .i64 0,.int .i64 0,.int .i64 0,.int .i64 0,.slice none 0 0,.slice none 0 0]) 7 88 Tryz.underlying211 hi hz0 hz1 hz2 rfl (by decide) (.slice da dl dc) dl es rfl (by exact(Aa HRA).alloc _) ⟨wa.heap.size,0,none⟩ 1 1 [.int .i64 c0,.int .i64 c1,.int .i64 c2,.int .i64 c3,.int .i64 pr,.slice oa on oc,.slice ra rn rc] rfl rfl (by exact JV wa [.int .i64 c0,.int .i64 c1,.int .i64 c2,.int .i64 c3,.int .i64 pr,.slice oa on oc,.slice ra rn rc]) (by simp[Value.oneCell']) (by unfold maxLen;omega) (by omega) (by omega) ?_;intro v' wz hown hgrow hat;obtain⟨va,vn,vc,hvs⟩:=Ar hown;subst hvs;obtain⟨p1,p2,p3,p4⟩:=(Aa F3) _ _ _ _ _ _ _ _ (Aa HB1) (Aa HB2) (Aa HBA) hgrow hown hat (by simp;omega);have HP4:=Ab p4;clear p4 hown hgrow hat))
  all_goals
   obtain⟨t0,hwr⟩:=(Aa F4) _ _ (Aa HP4);have HWR:=Ab hwr;clear hwr HP4 HB1 HB2 HBA HRA HRW F1 F2 F3 F4 d2 d3 k0 k1 k2 k3 k4 z2 hi hz0 hz1 hz2 p1 p2 p3;go_wp2_with (first
    |(go_at_call 136;refine(Aa HWR).mono ?_;rintro e w5 ⟨rfl,hB4⟩;have H5:=Ab ((Aa F5) _ hB4);clear hB4)
    |(go_at_call 135;refine(Aa H5).mono ?_;rintro e w6 ⟨rfl,hB5⟩;have H6:=Ab ((Aa F6) _ hB5);clear hB5)
    |(go_at_call 137;refine(Aa H6).mono ?_;rintro e w7 ⟨rfl,hPo⟩;have HPo:=Ab hPo;clear hPo))
   go_returns;exact⟨rfl,Aa HPo⟩
theorem aaA(w:World)(T:TypeId)(N:Nat)(hTN:(T=328/\N=287)\/(T=331/\N=290)\/(T=334/\N=294))(s q g u m cap b:Nat)(pr c0 c1 c2 c3 kd:Int)(msg rb:List UInt8)(da:Option Addr)(dl dc:Nat)(es:List Value)(B1:Value->World->Prop)(B2:Value->Value->World->Prop)(B3:Value->World->Prop)(B4 B5 Post:World->Prop)
  (h6:w.cell? ⟨s,6,none⟩=some (.slice (some ⟨g,0,none⟩) m cap)) (hu:u<m) (hm:m<=255) (g0:w.cell? ⟨g,u*3,none⟩=some (.int .i64 kd)) (q4:w.cell? ⟨q,4,none⟩=some (.int .i64 ((u:Int)+1))) (q6:w.cell? ⟨q,6,none⟩=some (.string (str msg)))
  (H133:Hid (∀wa,Below w.heap.size w wa->Calls Tryz.prog 133 #[.int .i64 kd,.string (str msg)] wa fun e w'=>∃oa on oc,e=.returned (.tuple #[.int .i64 pr,.slice oa on oc])/\B1 (.slice oa on oc) w'))
  (F1:Hid (∀O w',B1 O w'->w'.cell? ⟨g,u*3+1,none⟩=some (.iface T (ptr b))/\Calls Tryz.prog N #[ptr b,.int .i64 pr,O] w' fun e w2=>∃ra rn rc,e=.returned (.slice ra rn rc)/\B2 O (.slice ra rn rc) w2))
  (F2:Hid (∀O R w',B2 O R w'->w'.cell? ⟨g,u*3+2,none⟩=some (.slice da dl dc)/\w'.ownsRow 0 98 7 (.slice da dl dc) dl es/\dl<=100000000000/\w'.cell? ⟨q,0,none⟩=some (.int .i64 c0)/\w'.cell? ⟨q,1,none⟩=some (.int .i64 c1)/\w'.cell? ⟨q,2,none⟩=some (.int .i64 c2)/\w'.cell? ⟨q,3,none⟩=some (.int .i64 c3)/\w'.cell? ⟨q,4,none⟩=some (.int .i64 ((u:Int)+1))/\w'.frozen? ⟨g,u*3+2,none⟩=false))
  (F3:Hid (∀O R w1 w2 wa wz K' va0,B1 O w1->B2 O R w2->Below w2.heap.size w2 wa->(wa.alloc (.cells #[.int .i64 c0,.int .i64 c1,.int .i64 c2,.int .i64 c3,.int .i64 pr,O,R] 98)).grownBy wz (Value.slice da dl dc).ownBlock->wz.ownsRow 0 98 7 K' (dl+1) (es++[.int .i64 c0,.int .i64 c1,.int .i64 c2,.int .i64 c3,.int .i64 pr,O,R])->(K'.ownBlock=(Value.slice da dl dc).ownBlock\/K'.ownBlock=some va0)->w2.heap.size<=va0->wz.cell? ⟨g,u*3+2,none⟩=some (.slice da dl dc)/\wz.frozen? ⟨g,u*3+2,none⟩=false/\g<wz.heap.size/\B3 R (wz.setCell ⟨g,u*3+2,none⟩ K')))
  (F4:Hid (∀R w',B3 R w'->w'.cell? ⟨g,u*3,none⟩=some (.int .i64 kd)/\Calls Tryz.prog 136 #[.int .i64 kd,.int .i64 pr,R] w' fun e w2=>e=.returned (.string (str rb))/\B4 w2))
  (F5:Hid (∀w',B4 w'->Calls Tryz.prog 135 #[ptr q,.string (str rb)] w' fun e w2=>e=.returned (.tuple #[])/\B5 w2))
  (F6:Hid (∀w',B5 w'->Calls Tryz.prog 137 #[ptr s,ptr q] w' fun e w2=>e=.returned (.tuple #[])/\Post w2)):
  Calls Tryz.prog 83 #[ptr s,ptr q] w fun e w'=>e=.returned (.tuple #[])/\Post w':=by
 rcases hTN with ⟨rfl,rfl⟩|⟨rfl,rfl⟩|⟨rfl,rfl⟩
 ·exact Wb w s q g u m cap b pr c0 c1 c2 c3 kd msg rb da dl dc es B1 B2 B3 B4 B5 Post h6 hu hm g0 q4 q6 H133 F1 F2 F3 F4 F5 F6
 ·exact Wc w s q g u m cap b pr c0 c1 c2 c3 kd msg rb da dl dc es B1 B2 B3 B4 B5 Post h6 hu hm g0 q4 q6 H133 F1 F2 F3 F4 F5 F6
 ·exact Wh w s q g u m cap b pr c0 c1 c2 c3 kd msg rb da dl dc es B1 B2 B3 B4 B5 Post h6 hu hm g0 q4 q6 H133 F1 F2 F3 F4 F5 F6
theorem Works.abA{w:World}{F:Aq}{l:List R.En}{b:Nat}{K:Value}{k:Int}{W:Value}(h:Works w F l b K k W):F b:=by
 cases h<;>assumption
theorem Works.NR{w:World}{F:Aq}{l:List R.En}{b:Nat}{K:Value}{k:Int}{W:Value}(h:Works w F l b K k W):(k=0->W=.iface 328 (ptr b))/\(k=1->W=.iface 331 (ptr b))/\(k=2->W=.iface 334 (ptr b)):=by
 cases h<;>simp
theorem Works.Wu{w:World}{F:Aq}{l:List R.En}{b:Nat}{K:Value}{W:Value}(h:Works w F l b K 0 W):W=.iface 328 (ptr b):=h.NR.1 rfl
theorem Works.Wv{w:World}{F:Aq}{l:List R.En}{b:Nat}{K:Value}{W:Value}(h:Works w F l b K 1 W):W=.iface 331 (ptr b):=h.NR.2.1 rfl
theorem Works.aaL{w:World}{F:Aq}{l:List R.En}{b:Nat}{K:Value}{W:Value}(h:Works w F l b K 2 W):W=.iface 334 (ptr b):=h.NR.2.2 rfl
theorem Yv{w:World}{F:Aq}{log:List R.En}{en:R.En}{b:Nat}{K W:Value}{kind:Int}(h:Works w F log b K kind W)(hlt:∀k,F k->k<w.heap.size){X:Value}(hX:V.Items w X en.arg){f t:ByteArray}{bs:List UInt8}(hs:R.CO kind en.proc=some (f,t))(hb:R.AV f en.arg=some bs)(hl:R.I9 kind log):
  ∃T N,W=.iface T (ptr b)/\((T=328/\N=287)\/(T=331/\N=290)\/(T=334/\N=294))/\Calls Tryz.prog N #[ptr b,.int .i64 en.proc,X] w fun e w'=>∃O,e=.returned O/\Did w F log en b K kind W O (R.Cs kind log en.proc en.arg) w':=by
 have hc:=R.FC log 0 (by decide);unfold R.CO at hs;split at hs
 ·rename_i h0;cases hs;obtain⟨rfl,hp⟩:=h0;obtain⟨x,hx,_⟩:=R.Z4 hb;have hw:=h.Wu;exact⟨328,287,hw,Or.inl ⟨rfl,rfl⟩,K8 w F log en b K W h (hlt b h.abA) hX ⟨x,hx⟩ (Or.inl hp) hc⟩
 ·split at hs
  ·rename_i h0;cases hs;obtain⟨rfl,hp⟩:=h0;obtain⟨x,hx,_⟩:=R.Z2 hb;exact⟨328,287,h.Wu,Or.inl ⟨rfl,rfl⟩,K8 w F log en b K W h (hlt b h.abA) hX ⟨x,hx⟩ (Or.inr hp) hc⟩
  ·split at hs
   ·rename_i h0;cases hs;obtain⟨rfl,hp⟩:=h0;obtain⟨x,hx,_⟩:=R.VO hb;exact⟨331,290,h.Wv,Or.inr (Or.inl ⟨rfl,rfl⟩),OD w F log en b K W h hX ⟨x,hx,fun q=>by omega⟩ (Or.inl hp)⟩
   ·split at hs
    ·rename_i h0;cases hs;obtain⟨rfl,hp⟩:=h0;obtain⟨x,hx,hx0⟩:=R.Z3 hb;exact⟨331,290,h.Wv,Or.inr (Or.inl ⟨rfl,rfl⟩),OD w F log en b K W h hX ⟨x,hx,fun _=>hx0.2.1⟩ (Or.inr hp)⟩
    ·split at hs
     ·rename_i h0;cases hs;obtain⟨rfl,hp⟩:=h0;obtain⟨d,k,a,g1,g2,g3,g4,_⟩:=R.VN hb;have:=g3.2.2;exact⟨334,294,h.aaL,Or.inr (Or.inr ⟨rfl,rfl⟩),YQ w F log en b K W h hlt hX ⟨d,k,a,g1,g2.2,by omega⟩ (fun d=>(R.Gu log hl d [] (by simp)).1)⟩
     ·cases hs
end Go.Proofs.YtblomippkddgiaaGreatDoor
