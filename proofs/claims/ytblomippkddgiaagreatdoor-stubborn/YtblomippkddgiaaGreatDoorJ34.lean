import Derived.Test.YtblomippkddgiaaGreatDoorJ32
import Derived.Test.YtblomippkddgiaaGreatDoorJ33
set_option maxRecDepth 100000
set_option maxHeartbeats 900000
namespace Go.Proofs.YtblomippkddgiaaGreatDoor
open Go.RowKit
theorem anW:(Tryz.prog.info? 55).map (fun i=>(i.zero,i.size,i.bytes))=some (some (.agg #[.int .i64 0,.int .i64 0,.int .i64 0,.int .i64 0,.int .i64 0,.int .i64 0,.slice none 0 0]),7,72):=by kernel_rfl
theorem anS(w:World)(z:Mk×Value)(j:Nat)(u:Value)(h:(abf z)[j]?=some u):(w.alloc (.cells #[.int .i64 z.1.client,.int .i64 z.1.life,.int .i64 z.1.line,.int .i64 z.1.seq,.int .i64 z.1.uid,.int .i64 z.1.proc,z.2] 55)).cell? ((⟨w.heap.size,0,none⟩:Addr).add j)=some u:=by
 rw[Addr.add_lit,Nat.zero_add,World.cell?_alloc_new w _ _ j]
 simpa [abf] using h
theorem aeO{w:World}(n:Nat):Below w.heap.size w (w.drewN n):=⟨rfl,rfl,rfl,Nat.le_refl _,fun _ _=>rfl⟩
theorem aaY{w w':World}{F:aai}{X:Value}{l:List R.It}(h:aa2 w F X l)(hb:Below w.heap.size w w'):aa2 w' F X l:=h.keep (Keeps.ofBelow hb (fun _=>False)) (fun _ _ _ _ q=>q) (fun _ q=>q)
theorem ap0{w:World}{F:aai}{X:Value}{l:List R.It}(h:aa2 w F X l):∃xa xn xc,X=.slice xa xn xc:=by
 rcases h with ⟨_,rfl⟩|⟨b,off,cap,cur,_,rfl,_⟩
 ·exact⟨_,_,_,rfl⟩
 ·exact⟨_,_,_,rfl⟩
theorem alK(k pr:Nat)(hk:k<3)(hpr:pr<2)(h2:k=2→pr=0)(a b:Int)(ha:abW a)(hb:abW b):∃v,Fits (adG k pr) v∧ahN k pr=0∧∀w,Calls Tryz.prog 30 #[.int .i64 (k:Int),.int .i64 (pr:Int),.int .i64 a,.int .i64 b] w (aa1 v w):=by
 have h3:(k=0∧pr=0)∨(k=0∧pr=1)∨(k=1∧pr=0)∨(k=1∧pr=1)∨(k=2∧pr=0):=by omega
 rcases h3 with ⟨rfl,rfl⟩|⟨rfl,rfl⟩|⟨rfl,rfl⟩|⟨rfl,rfl⟩|⟨rfl,rfl⟩
 ·obtain⟨v,h,q⟩:=aqj a b ha
  exact⟨v,h,rfl,q⟩
 ·obtain⟨v,h,q⟩:=aqi a b ha
  exact⟨v,h,rfl,q⟩
 ·obtain⟨v,h,q⟩:=aqh a b ha
  exact⟨v,h,rfl,q⟩
 ·obtain⟨v,h,q⟩:=aqg a b ha
  exact⟨v,h,rfl,q⟩
 ·obtain⟨v,h,q⟩:=aqf a b ha hb
  exact⟨v,h,rfl,q⟩
theorem adF{k:Nat}{pr:Int}(hk:k<3)(h:ahN k pr=0):R.sigP k pr=some (adG k pr,alU k pr):=by
 have h3:k=0∨k=1∨k=2:=by omega
 unfold ahN at h
 rcases h3 with rfl|rfl|rfl
 ·by_cases a:pr=0
  ·subst a;rfl
  ·by_cases b:pr=1
   ·subst b;rfl
   ·simp[a,b]at h
 ·by_cases a:pr=0
  ·subst a;rfl
  ·by_cases b:pr=1
   ·subst b;rfl
   ·simp[a,b]at h
 ·by_cases a:pr=0
  ·subst a;rfl
  ·simp[a]at h
theorem ajA(w0:World)(q:RP)(p:Pl)(c:R.Cf)(s:RS)(G G':R.Wd)(w:World)(ci li kk k pr0:Nat)(a b prv sq st u lf0:Int)(v:List V.It)(h:Both w0 q p c s G w)(hk:k<3)(hul:s.uid.length=3)(hu:s.uid[k]?=some u)(hsq:s.seq[kk]?=some sq)(hlf:s.life[ci]?=some lf0)(_:s.made.length≤3000000)
  (e3:IntKind.i64.wrap (3*(ci:Int))=3*(ci:Int)) (e4:IntKind.i64.wrap (3*(ci:Int)+(li:Int))=(kk:Int))
  (H10:Hid (∀w,Calls Tryz.prog 11 #[.int .i64 b,.int .i64 2] w fun e w'=>e=.returned (.int .i64 (pr0:Int))∧w'=w)) (hcase:((((k:Int)==2)=true)∧prv=0)∨((((k:Int)==2)=false)∧prv=(pr0:Int)))
  (H22:Hid (∀w,Calls Tryz.prog 30 #[.int .i64 (k:Int),.int .i64 prv,.int .i64 a,.int .i64 b] w (aa1 v w)))
  (H15:Hid (∀w',Below w.heap.size w w'→Calls Tryz.prog 16 #[ptr q.x,.int .i64 (ci:Int),.int .i64 (li:Int)] w' fun e w''=>(∃oa on oc,e=.returned (.tuple #[.agg #[.int .i64 st,.int .i64 sq,.slice oa on oc],.int .i64 0]))∧Below w'.heap.size w' w''))
  (H23:Hid (∀w' W X,Below w.heap.size w w'→Below w'.heap.size w' W→aa2 W (fun k=>w.heap.size≤k) X v→Calls Tryz.prog 31 #[ptr q.x,.int .i64 (ci:Int),.int .i64 (li:Int),.int .i64 u,.int .i64 prv,X] W fun e w''=>e=.returned (.tuple #[.int .i64 0,.int .i64 17])∧Both w0 q p c s G' w''∧∀b,w'.heap.size≤b→b<W.heap.size→w''.heap[b]?=W.heap[b]?)) (hst:st=1) :
  Calls Tryz.prog 12 #[ptr q.r,.int .i64 (ci:Int),.int .i64 (li:Int),.int .i64 (k:Int),.int .i64 a,.int .i64 b] w fun e w'=>e=.returned (.bool true)∧Both w0 q p c s G' w':=by
 have HH:=aab h
 have hkn:(k:Int)<3:=by omega
 have hkl2:=(List.getElem?_eq_some_iff.1 hsq).1
 have hkl:(kk:Int)<(s.seq.length:Int):=by omega
 have hcl:ci<s.life.length:=(List.getElem?_eq_some_iff.1 hlf).1
 have hcl2:(ci:Int)<(s.life.length:Int):=by omega
 have c0:=h.cells.a0
 have hst1:(st==1)=true:=by simpa using hst
 clear hst
 clear h
 rcases hcase with ⟨e2,hp0⟩|⟨e2,hp0⟩
 ·subst hp0
  go_enter Tryz.func12,Tryz.ntmps12
  go_wp2_with (first|(go_at_call 11;refine((unhide H10) _).mono ?_;clear H10;rintro e w1 ⟨rfl,hw1⟩;rw[hw1];clear hw1))
  refine((unhide H22) _).mono ?_
  rintro e w1 ⟨X,rfl,hI,hb1⟩
  have d0:w1.cell? ⟨q.r,0,none⟩=some (ptr q.x):=((unhide HH).still hb1).cells.a0
  have HB1:=aab hb1
  have HI:=aab hI
  clear hb1 hI
  go_wp2_with fail
  refine((unhide H15) _ (unhide HB1)).mono ?_
  rintro e w2 ⟨⟨oa,on,oc,rfl⟩,hb2⟩
  have hb12:=(unhide HB1).trans (hb2.mono (unhide HB1).size)
  have HI2:=aab (aaY (unhide HI) hb2)
  have HB12:=aab hb12
  clear hb2 hb12
  obtain⟨W2,hW2⟩:∃W2,w2.alloc (.cells #[.int .i64 st,.int .i64 sq,.slice oa on oc] 46)=W2:=⟨_,rfl⟩
  have hbW:Below w2.heap.size w2 W2:=by
   rw[←hW2]
   exact(Below.refl _ _).alloc (Nat.le_refl _) _
  have hsW:W2.heap.size=w2.heap.size+1:=by rw[←hW2];simp
  have hBW:=((unhide HH).still (unhide HB12)).still hbW
  have x0:=hBW.cells.a0
  have x8:=hBW.cells.a8
  rw[hul]at x8
  have xu:=hBW.cells.u k _ hu
  have HC:=aab ((unhide H23) w2 W2.drew X (unhide HB12) hbW.drew (aaY (unhide HI2) hbW.drew))
  have hbox:W2.heap[w2.heap.size]?=some (.cells #[.int .i64 st,.int .i64 sq,.slice oa on oc] 46 (0,0)):=by
   rw[←hW2]
   exact heap_alloc_new w2 _
  have HBOX:=aab hbox
  have HW2:=aab hW2
  have HSW:=aab hsW
  clear H23 HH H15 HI HB1 d0 c0 hbW hBW hW2 hbox hsW HI2
  go_wp2_with fail
  rw[unhide HW2]
  go_region_held3 (fun w'=>w'.cell? ⟨q.r,0,none⟩=some (ptr q.x)∧w'.cell? ⟨q.r,8,none⟩=some (.slice (some ⟨q.ud,0,none⟩) 3 3)∧w'.cell? ⟨q.ud,k,none⟩=some (.int .i64 u)) (go_keep) ((go_at_call 31;refine(unhide HC).mono ?_;rintro e w3 ⟨rfl,hB3,hkp⟩;have HKP:=aab hkp;have y0:=hB3.cells.a0;have y8:=hB3.cells.a8;have yu:=hB3.cells.u k _ hu;rw[hul]at y8;have HB3:=aab hB3;clear hkp hB3))
  have hbx3:w3.heap[w2.heap.size]?=some (.cells #[.int .i64 st,.int .i64 sq,.slice oa on oc] 46 (0,0)):=((unhide HKP) w2.heap.size (Nat.le_refl _) (by have:=unhide HSW;simp;omega)).trans (unhide HBOX)
  have b0:w3.cell? ⟨w2.heap.size,0,none⟩=some (.int .i64 st):=aaa hbx3 0 _ rfl
  have b1:w3.cell? ⟨w2.heap.size,1,none⟩=some (.int .i64 sq):=aaa hbx3 1 _ rfl
  have y7:=(unhide HB3).cells.a7
  have ys:=(unhide HB3).cells.sq kk _ hsq
  have yz:=(unhide HB3).cells.zs kk
  clear hbx3 HKP HBOX HC x0 x8 xu
  have HBR:=aab (fun n=>(unhide HB3).still (aeO n))
  clear HB3
  go_wp2_with fail
  go_quiet (fail)
  go_wp2_with fail
  go_returns
  exact⟨rfl,(unhide HBR) _⟩
 ·subst hp0
  go_enter Tryz.func12,Tryz.ntmps12
  go_wp2_with (first|(go_at_call 11;refine((unhide H10) _).mono ?_;clear H10;rintro e w1 ⟨rfl,hw1⟩;rw[hw1];clear hw1))
  refine((unhide H22) _).mono ?_
  rintro e w1 ⟨X,rfl,hI,hb1⟩
  have d0:w1.cell? ⟨q.r,0,none⟩=some (ptr q.x):=((unhide HH).still hb1).cells.a0
  have HB1:=aab hb1
  have HI:=aab hI
  clear hb1 hI
  go_wp2_with fail
  refine((unhide H15) _ (unhide HB1)).mono ?_
  rintro e w2 ⟨⟨oa,on,oc,rfl⟩,hb2⟩
  have hb12:=(unhide HB1).trans (hb2.mono (unhide HB1).size)
  have HI2:=aab (aaY (unhide HI) hb2)
  have HB12:=aab hb12
  clear hb2 hb12
  obtain⟨W2,hW2⟩:∃W2,w2.alloc (.cells #[.int .i64 st,.int .i64 sq,.slice oa on oc] 46)=W2:=⟨_,rfl⟩
  have hbW:Below w2.heap.size w2 W2:=by
   rw[←hW2]
   exact(Below.refl _ _).alloc (Nat.le_refl _) _
  have hsW:W2.heap.size=w2.heap.size+1:=by rw[←hW2];simp
  have hBW:=((unhide HH).still (unhide HB12)).still hbW
  have x0:=hBW.cells.a0
  have x8:=hBW.cells.a8
  rw[hul]at x8
  have xu:=hBW.cells.u k _ hu
  have HC:=aab ((unhide H23) w2 W2.drew X (unhide HB12) hbW.drew (aaY (unhide HI2) hbW.drew))
  have hbox:W2.heap[w2.heap.size]?=some (.cells #[.int .i64 st,.int .i64 sq,.slice oa on oc] 46 (0,0)):=by
   rw[←hW2]
   exact heap_alloc_new w2 _
  have HBOX:=aab hbox
  have HW2:=aab hW2
  have HSW:=aab hsW
  clear H23 HH H15 HI HB1 d0 c0 hbW hBW hW2 hbox hsW HI2
  go_wp2_with fail
  rw[unhide HW2]
  go_region_held3 (fun w'=>w'.cell? ⟨q.r,0,none⟩=some (ptr q.x)∧w'.cell? ⟨q.r,8,none⟩=some (.slice (some ⟨q.ud,0,none⟩) 3 3)∧w'.cell? ⟨q.ud,k,none⟩=some (.int .i64 u)) (go_keep) ((go_at_call 31;refine(unhide HC).mono ?_;rintro e w3 ⟨rfl,hB3,hkp⟩;have HKP:=aab hkp;have y0:=hB3.cells.a0;have y8:=hB3.cells.a8;have yu:=hB3.cells.u k _ hu;rw[hul]at y8;have HB3:=aab hB3;clear hkp hB3))
  have hbx3:w3.heap[w2.heap.size]?=some (.cells #[.int .i64 st,.int .i64 sq,.slice oa on oc] 46 (0,0)):=((unhide HKP) w2.heap.size (Nat.le_refl _) (by have:=unhide HSW;simp;omega)).trans (unhide HBOX)
  have b0:w3.cell? ⟨w2.heap.size,0,none⟩=some (.int .i64 st):=aaa hbx3 0 _ rfl
  have b1:w3.cell? ⟨w2.heap.size,1,none⟩=some (.int .i64 sq):=aaa hbx3 1 _ rfl
  have y7:=(unhide HB3).cells.a7
  have ys:=(unhide HB3).cells.sq kk _ hsq
  have yz:=(unhide HB3).cells.zs kk
  clear hbx3 HKP HBOX HC x0 x8 xu
  have HBR:=aab (fun n=>(unhide HB3).still (aeO n))
  clear HB3
  go_wp2_with fail
  go_quiet (fail)
  go_wp2_with fail
  go_returns
  exact⟨rfl,(unhide HBR) _⟩
theorem ahy(w0:World)(q:RP)(p:Pl)(c:R.Cf)(s:RS)(G G':R.Wd)(w:World)(ci li kk k pr0:Nat)(a b prv sq st u lf0:Int)(v:List V.It)(h:Both w0 q p c s G w)(hk:k<3)(hul:s.uid.length=3)(hu:s.uid[k]?=some u)(hsq:s.seq[kk]?=some sq)(hlf:s.life[ci]?=some lf0)(_:s.made.length≤3000000)
  (e3:IntKind.i64.wrap (3*(ci:Int))=3*(ci:Int)) (e4:IntKind.i64.wrap (3*(ci:Int)+(li:Int))=(kk:Int))
  (H10:Hid (∀w,Calls Tryz.prog 11 #[.int .i64 b,.int .i64 2] w fun e w'=>e=.returned (.int .i64 (pr0:Int))∧w'=w)) (hcase:((((k:Int)==2)=true)∧prv=0)∨((((k:Int)==2)=false)∧prv=(pr0:Int)))
  (H22:Hid (∀w,Calls Tryz.prog 30 #[.int .i64 (k:Int),.int .i64 prv,.int .i64 a,.int .i64 b] w (aa1 v w)))
  (H15:Hid (∀w',Below w.heap.size w w'→Calls Tryz.prog 16 #[ptr q.x,.int .i64 (ci:Int),.int .i64 (li:Int)] w' fun e w''=>(∃oa on oc,e=.returned (.tuple #[.agg #[.int .i64 st,.int .i64 sq,.slice oa on oc],.int .i64 0]))∧Below w'.heap.size w' w''))
  (H23:Hid (∀w' W X,Below w.heap.size w w'→Below w'.heap.size w' W→aa2 W (fun k=>w.heap.size≤k) X v→Calls Tryz.prog 31 #[ptr q.x,.int .i64 (ci:Int),.int .i64 (li:Int),.int .i64 u,.int .i64 prv,X] W fun e w''=>e=.returned (.tuple #[.int .i64 0,.int .i64 11])∧Both w0 q p c s G' w''∧∀b,w'.heap.size≤b→b<W.heap.size→w''.heap[b]?=W.heap[b]?)) (hst:¬st=1) (h9:sq=999) :
  Calls Tryz.prog 12 #[ptr q.r,.int .i64 (ci:Int),.int .i64 (li:Int),.int .i64 (k:Int),.int .i64 a,.int .i64 b] w fun e w'=>e=.returned (.bool true)∧Both w0 q p c s G' w':=by
 have HH:=aab h
 have hkn:(k:Int)<3:=by omega
 have hkl2:=(List.getElem?_eq_some_iff.1 hsq).1
 have hkl:(kk:Int)<(s.seq.length:Int):=by omega
 have hcl:ci<s.life.length:=(List.getElem?_eq_some_iff.1 hlf).1
 have hcl2:(ci:Int)<(s.life.length:Int):=by omega
 have c0:=h.cells.a0
 have hs9:(sq==999)=true:=by simpa using h9
 have hst1:(st==1)=false:=by simpa using hst
 clear h9
 clear h
 rcases hcase with ⟨e2,hp0⟩|⟨e2,hp0⟩
 ·subst hp0
  go_enter Tryz.func12,Tryz.ntmps12
  go_wp2_with (first|(go_at_call 11;refine((unhide H10) _).mono ?_;clear H10;rintro e w1 ⟨rfl,hw1⟩;rw[hw1];clear hw1))
  refine((unhide H22) _).mono ?_
  rintro e w1 ⟨X,rfl,hI,hb1⟩
  have d0:w1.cell? ⟨q.r,0,none⟩=some (ptr q.x):=((unhide HH).still hb1).cells.a0
  have HB1:=aab hb1
  have HI:=aab hI
  clear hb1 hI
  go_wp2_with fail
  refine((unhide H15) _ (unhide HB1)).mono ?_
  rintro e w2 ⟨⟨oa,on,oc,rfl⟩,hb2⟩
  have hb12:=(unhide HB1).trans (hb2.mono (unhide HB1).size)
  have HI2:=aab (aaY (unhide HI) hb2)
  have HB12:=aab hb12
  clear hb2 hb12
  obtain⟨W2,hW2⟩:∃W2,w2.alloc (.cells #[.int .i64 st,.int .i64 sq,.slice oa on oc] 46)=W2:=⟨_,rfl⟩
  have hbW:Below w2.heap.size w2 W2:=by
   rw[←hW2]
   exact(Below.refl _ _).alloc (Nat.le_refl _) _
  have hsW:W2.heap.size=w2.heap.size+1:=by rw[←hW2];simp
  have hBW:=((unhide HH).still (unhide HB12)).still hbW
  have x0:=hBW.cells.a0
  have x8:=hBW.cells.a8
  rw[hul]at x8
  have xu:=hBW.cells.u k _ hu
  have HC:=aab ((unhide H23) w2 W2.drew X (unhide HB12) hbW.drew (aaY (unhide HI2) hbW.drew))
  have hbox:W2.heap[w2.heap.size]?=some (.cells #[.int .i64 st,.int .i64 sq,.slice oa on oc] 46 (0,0)):=by
   rw[←hW2]
   exact heap_alloc_new w2 _
  have HBOX:=aab hbox
  have HW2:=aab hW2
  have HSW:=aab hsW
  clear H23 HH H15 HI HB1 d0 c0 hbW hBW hW2 hbox hsW HI2
  go_wp2_with fail
  rw[unhide HW2]
  go_region_held3 (fun w'=>w'.cell? ⟨q.r,0,none⟩=some (ptr q.x)∧w'.cell? ⟨q.r,8,none⟩=some (.slice (some ⟨q.ud,0,none⟩) 3 3)∧w'.cell? ⟨q.ud,k,none⟩=some (.int .i64 u)) (go_keep) ((go_at_call 31;refine(unhide HC).mono ?_;rintro e w3 ⟨rfl,hB3,hkp⟩;have HKP:=aab hkp;have y0:=hB3.cells.a0;have y8:=hB3.cells.a8;have yu:=hB3.cells.u k _ hu;rw[hul]at y8;have HB3:=aab hB3;clear hkp hB3))
  have hbx3:w3.heap[w2.heap.size]?=some (.cells #[.int .i64 st,.int .i64 sq,.slice oa on oc] 46 (0,0)):=((unhide HKP) w2.heap.size (Nat.le_refl _) (by have:=unhide HSW;simp;omega)).trans (unhide HBOX)
  have b0:w3.cell? ⟨w2.heap.size,0,none⟩=some (.int .i64 st):=aaa hbx3 0 _ rfl
  have b1:w3.cell? ⟨w2.heap.size,1,none⟩=some (.int .i64 sq):=aaa hbx3 1 _ rfl
  have y7:=(unhide HB3).cells.a7
  have ys:=(unhide HB3).cells.sq kk _ hsq
  have yz:=(unhide HB3).cells.zs kk
  clear hbx3 HKP HBOX HC x0 x8 xu
  have HBR:=aab (fun n=>(unhide HB3).still (aeO n))
  clear HB3
  go_wp2_with fail
  go_quiet (fail)
  go_wp2_with fail
  go_returns
  exact⟨rfl,(unhide HBR) _⟩
 ·subst hp0
  go_enter Tryz.func12,Tryz.ntmps12
  go_wp2_with (first|(go_at_call 11;refine((unhide H10) _).mono ?_;clear H10;rintro e w1 ⟨rfl,hw1⟩;rw[hw1];clear hw1))
  refine((unhide H22) _).mono ?_
  rintro e w1 ⟨X,rfl,hI,hb1⟩
  have d0:w1.cell? ⟨q.r,0,none⟩=some (ptr q.x):=((unhide HH).still hb1).cells.a0
  have HB1:=aab hb1
  have HI:=aab hI
  clear hb1 hI
  go_wp2_with fail
  refine((unhide H15) _ (unhide HB1)).mono ?_
  rintro e w2 ⟨⟨oa,on,oc,rfl⟩,hb2⟩
  have hb12:=(unhide HB1).trans (hb2.mono (unhide HB1).size)
  have HI2:=aab (aaY (unhide HI) hb2)
  have HB12:=aab hb12
  clear hb2 hb12
  obtain⟨W2,hW2⟩:∃W2,w2.alloc (.cells #[.int .i64 st,.int .i64 sq,.slice oa on oc] 46)=W2:=⟨_,rfl⟩
  have hbW:Below w2.heap.size w2 W2:=by
   rw[←hW2]
   exact(Below.refl _ _).alloc (Nat.le_refl _) _
  have hsW:W2.heap.size=w2.heap.size+1:=by rw[←hW2];simp
  have hBW:=((unhide HH).still (unhide HB12)).still hbW
  have x0:=hBW.cells.a0
  have x8:=hBW.cells.a8
  rw[hul]at x8
  have xu:=hBW.cells.u k _ hu
  have HC:=aab ((unhide H23) w2 W2.drew X (unhide HB12) hbW.drew (aaY (unhide HI2) hbW.drew))
  have hbox:W2.heap[w2.heap.size]?=some (.cells #[.int .i64 st,.int .i64 sq,.slice oa on oc] 46 (0,0)):=by
   rw[←hW2]
   exact heap_alloc_new w2 _
  have HBOX:=aab hbox
  have HW2:=aab hW2
  have HSW:=aab hsW
  clear H23 HH H15 HI HB1 d0 c0 hbW hBW hW2 hbox hsW HI2
  go_wp2_with fail
  rw[unhide HW2]
  go_region_held3 (fun w'=>w'.cell? ⟨q.r,0,none⟩=some (ptr q.x)∧w'.cell? ⟨q.r,8,none⟩=some (.slice (some ⟨q.ud,0,none⟩) 3 3)∧w'.cell? ⟨q.ud,k,none⟩=some (.int .i64 u)) (go_keep) ((go_at_call 31;refine(unhide HC).mono ?_;rintro e w3 ⟨rfl,hB3,hkp⟩;have HKP:=aab hkp;have y0:=hB3.cells.a0;have y8:=hB3.cells.a8;have yu:=hB3.cells.u k _ hu;rw[hul]at y8;have HB3:=aab hB3;clear hkp hB3))
  have hbx3:w3.heap[w2.heap.size]?=some (.cells #[.int .i64 st,.int .i64 sq,.slice oa on oc] 46 (0,0)):=((unhide HKP) w2.heap.size (Nat.le_refl _) (by have:=unhide HSW;simp;omega)).trans (unhide HBOX)
  have b0:w3.cell? ⟨w2.heap.size,0,none⟩=some (.int .i64 st):=aaa hbx3 0 _ rfl
  have b1:w3.cell? ⟨w2.heap.size,1,none⟩=some (.int .i64 sq):=aaa hbx3 1 _ rfl
  have y7:=(unhide HB3).cells.a7
  have ys:=(unhide HB3).cells.sq kk _ hsq
  have yz:=(unhide HB3).cells.zs kk
  clear hbx3 HKP HBOX HC x0 x8 xu
  have HBR:=aab (fun n=>(unhide HB3).still (aeO n))
  clear HB3
  go_wp2_with fail
  go_quiet (fail)
  go_wp2_with fail
  go_returns
  exact⟨rfl,(unhide HBR) _⟩
end Go.Proofs.YtblomippkddgiaaGreatDoor
