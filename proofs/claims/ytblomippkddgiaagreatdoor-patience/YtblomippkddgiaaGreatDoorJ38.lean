/-
  Joined: Status2 Seal Bytes2 STurn.
-/
import Derived.Test.YtblomippkddgiaaGreatDoorJ37
import Derived.Test.YtblomippkddgiaaGreatDoorJ26
import Derived.Lib.ConvBytes
/-
  Status of a landed world.
-/
namespace Go.Proofs.YtblomippkddgiaaGreatDoor
open Go.RowKit

set_option maxRecDepth 100000 in
set_option maxHeartbeats 1000000 in
theorem status_line_no (w : World) (cb lb nl : Nat) (ln : Int) (hk : ln < 0 ∨ (nl : Int) ≤ ln) (b3 : w.cell? ⟨cb, 3, none⟩ = some (.slice (some ⟨lb, 0, none⟩) nl nl)) :
    Calls Tryz.prog 39 #[ptr cb, .int .i64 ln] w fun e w' => e = .returned (.tuple #[.agg #[.int .i64 0, .int .i64 0, .slice none 0 0], .int .i64 14]) ∧ Below w.heap.size w w' := by
  have HB : Hid (Below w.heap.size w (w.alloc (.cells #[.int .i64 0, .int .i64 0, .slice none 0 0] 46))) := (Below.refl _ _).alloc (Nat.le_refl _) _
  have hl := lt_of_cell b3
  by_cases h0 : ln < 0
  · have h1 : ¬ 0 ≤ ln := by omega
    clear hk
    go_enter Tryz.func39, Tryz.ntmps39
    go_wp2_with (first | (go_at_call 73; go_in))
    exact bodyPost_ret (v := .tuple #[.agg #[.int .i64 0, .int .i64 0, .slice none 0 0], .int .i64 14]) (by simp [results, Tryz.results39, go_sem]) rfl ⟨rfl, unhide HB⟩
  · have h1 : 0 ≤ ln := by omega
    have h2 : ¬ ln < (nl : Int) := by omega
    clear hk
    go_enter Tryz.func39, Tryz.ntmps39
    go_wp2_with (first | (go_at_call 73; go_in))
    exact bodyPost_ret (v := .tuple #[.agg #[.int .i64 0, .int .i64 0, .slice none 0 0], .int .i64 14]) (by simp [results, Tryz.results39, go_sem]) rfl ⟨rfl, unhide HB⟩
set_option maxRecDepth 100000 in
set_option maxHeartbeats 1000000 in
theorem status_face_no (w : World) (x cs n cap : Nat) (cl ln : Int) (hx : w.cell? ⟨x, 2, none⟩ = some (.slice (some ⟨cs, 0, none⟩) n cap)) (hc : cl < 0 ∨ (n : Int) ≤ cl) :
    Calls Tryz.prog 16 #[ptr x, .int .i64 cl, .int .i64 ln] w fun e w' => e = .returned (.tuple #[.agg #[.int .i64 0, .int .i64 0, .slice none 0 0], .int .i64 13]) ∧ Below w.heap.size w w' := by
  have HB : Hid (Below w.heap.size w (w.alloc (.cells #[.int .i64 0, .int .i64 0, .slice none 0 0] 46))) := (Below.refl _ _).alloc (Nat.le_refl _) _
  have hl := lt_of_cell hx
  by_cases h0 : cl < 0
  · have h1 : ¬ 0 ≤ cl := by omega
    clear hc
    go_enter Tryz.func16, Tryz.ntmps16
    go_wp2_with (first | (go_at_call 38; go_in))
    exact bodyPost_ret (v := .tuple #[.agg #[.int .i64 0, .int .i64 0, .slice none 0 0], .int .i64 13]) (by simp [results, Tryz.results16, go_sem]) rfl ⟨rfl, unhide HB⟩
  · have h1 : 0 ≤ cl := by omega
    have h2 : ¬ cl < (n : Int) := by omega
    clear hc
    go_enter Tryz.func16, Tryz.ntmps16
    go_wp2_with (first | (go_at_call 38; go_in))
    exact bodyPost_ret (v := .tuple #[.agg #[.int .i64 0, .int .i64 0, .slice none 0 0], .int .i64 13]) (by simp [results, Tryz.results16, go_sem]) rfl ⟨rfl, unhide HB⟩

set_option maxRecDepth 100000 in
set_option maxHeartbeats 1000000 in
theorem status_face (w : World) (x cs n cap cb i : Nat) (ln st sq er : Int) (v : List R.It) (hx : w.cell? ⟨x, 2, none⟩ = some (.slice (some ⟨cs, 0, none⟩) n cap)) (hi : i < n) (hcs : w.cell? ⟨cs, i, none⟩ = some (ptr cb))
    (H30 : Hid (∀ w', Below w.heap.size w w' → Calls Tryz.prog 39 #[ptr cb, .int .i64 ln] w' fun e w'' => (∃ O, e = .returned (.tuple #[.agg #[.int .i64 st, .int .i64 sq, O], .int .i64 er]) ∧ V.Row w'' w'.heap.size O v) ∧ Below w'.heap.size w' w'')) :
    Calls Tryz.prog 16 #[ptr x, .int .i64 (i : Int), .int .i64 ln] w fun e w' => (∃ O, e = .returned (.tuple #[.agg #[.int .i64 st, .int .i64 sq, O], .int .i64 er]) ∧ V.Row w' w.heap.size O v) ∧ Below w.heap.size w w' := by
  have q1 : (0 : Int) ≤ (i : Int) := by omega
  have q2 : (i : Int) < (n : Int) := by omega
  have hl1 := lt_of_cell hx
  have hl2 := lt_of_cell hcs
  have HB : Hid (Below w.heap.size w (w.alloc (.cells #[.int .i64 0, .int .i64 0, .slice none 0 0] 46))) := (Below.refl _ _).alloc (Nat.le_refl _) _
  have HC := hide ((unhide H30) _ (unhide HB))
  clear H30
  go_enter Tryz.func16, Tryz.ntmps16
  go_wp2_with (first | (go_at_call 38; go_in))
  refine (unhide HC).mono ?_
  rintro e w1 ⟨⟨O, rfl, hrow⟩, hb⟩
  obtain ⟨oa, on, oc, hO⟩ := row_shape hrow
  subst hO
  have hs := hb.size
  simp at hs
  have hby : w1.heap[w.heap.size]? = some (.cells #[.int .i64 0, .int .i64 0, .slice none 0 0] 46 (0, 0)) := (hb.block _ (by simp)).trans (heap_alloc_new w _)
  have d0 : w1.cell? ⟨w.heap.size, 0, none⟩ = some (.int .i64 0) := cell_of hby 0 _ rfl
  have d1 : w1.cell? ⟨w.heap.size, 1, none⟩ = some (.int .i64 0) := cell_of hby 1 _ rfl
  have d2 : w1.cell? ⟨w.heap.size, 2, none⟩ = some (.slice none 0 0) := cell_of hby 2 _ rfl
  have z0 : w1.frozen? ⟨w.heap.size, 0, none⟩ = false := open_list hby
  have z1 : w1.frozen? ⟨w.heap.size, 1, none⟩ = false := open_list hby
  have z2 : w1.frozen? ⟨w.heap.size, 2, none⟩ = false := open_list hby
  have HW := hide (((((unhide HB).trans (hb.mono (by simp))).setCell (p := ⟨w.heap.size, 0, none⟩) (by simp) (.int .i64 st)).setCell (p := ⟨w.heap.size, 1, none⟩) (by simp) (.int .i64 sq)).setCell (p := ⟨w.heap.size, 2, none⟩) (by simp) (.slice oa on oc))
  have HR : Hid (V.Row (((w1.setCell ⟨w.heap.size, 0, none⟩ (.int .i64 st)).setCell ⟨w.heap.size, 1, none⟩ (.int .i64 sq)).setCell ⟨w.heap.size, 2, none⟩ (.slice oa on oc)) w.heap.size (.slice oa on oc) v) := by
    have hkp : Keeps (fun k => k = w.heap.size) w1 (((w1.setCell ⟨w.heap.size, 0, none⟩ (.int .i64 st)).setCell ⟨w.heap.size, 1, none⟩ (.int .i64 sq)).setCell ⟨w.heap.size, 2, none⟩ (.slice oa on oc)) := ((keeps_one _).trans (keeps_one _)).trans (keeps_one _)
    refine V.row_base (hkp.row hrow (fun j hj e => ?_)) (by simp)
    have := ((World.ownsRow.lt hrow) j hj).1
    simp at this
    omega
  clear hb hby hrow
  have m0 : w.heap.size < w1.heap.size := by omega
  go_wp2
  exact bodyPost_ret (v := .tuple #[.agg #[.int .i64 st, .int .i64 sq, .slice oa on oc], .int .i64 er]) (by simp [results, Tryz.results16, go_sem, d0, d1, d2]) rfl ⟨⟨_, rfl, unhide HR⟩, unhide HW⟩

theorem LW.status {p : Pl} {F : Foot} {G : R.Wd} {w : World} (h : LW p F G w) (hres : ∀ (i : Nat) (c : R.Cl) (k : Nat) (l : R.Ln), G.clients[i]? = some c → c.lines[k]? = some l → l.result.length ≤ 1000) (cl ln : Int) :
    Calls Tryz.prog 16 #[ptr p.x, .int .i64 cl, .int .i64 ln] w fun e w' => (∃ O, e = stEnd (R.statusP G cl ln) O ∧ V.Row w' w.heap.size O (R.statusP G cl ln).2.2.1) ∧ Below w.heap.size w w' := by
  unfold stEnd R.statusP
  by_cases h1 : cl < 0 ∨ (G.clients.length : Int) ≤ cl
  · rw [if_pos h1]
    refine (status_face_no w p.x p.cs G.clients.length p.cap cl ln (cell_of h.bx 2 _ rfl) h1).mono ?_
    rintro e w' ⟨rfl, hb⟩
    exact ⟨⟨_, rfl, V.row_nil _ _⟩, hb⟩
  · rw [if_neg h1]
    obtain ⟨i, rfl⟩ : ∃ i : Nat, cl = (i : Int) := ⟨cl.toNat, by omega⟩
    have hi : i < G.clients.length := by omega
    have hc := List.getElem?_eq_getElem hi
    have hln := (h.wf.cl i _ hc).lines
    by_cases h2 : ln < 0 ∨ G.c.lines ≤ ln
    · rw [if_pos h2]
      refine (status_face w p.x p.cs G.clients.length p.cap (p.cb i) i ln 0 0 14 [] (cell_of h.bx 2 _ rfl) hi (h.csAt hi) ?_)
      intro w' hb
      refine (status_line_no w' (p.cb i) (p.lb i) _ ln (by omega) (clAt (h.below hb) hc).a3).mono ?_
      rintro e w'' ⟨rfl, hb'⟩
      exact ⟨⟨_, rfl, V.row_nil _ _⟩, hb'⟩
    · rw [if_neg h2]
      obtain ⟨k, rfl⟩ : ∃ k : Nat, ln = (k : Int) := ⟨ln.toNat, by omega⟩
      have hk : k < G.clients[i].lines.length := by omega
      have hl := List.getElem?_eq_getElem hk
      rw [R.lineP_some hc hl]
      refine status_face w p.x p.cs G.clients.length p.cap (p.cb i) i k _ _ 0 _ (cell_of h.bx 2 _ rfl) hi (h.csAt hi) ?_
      intro w' hb
      have h' := h.below hb
      obtain ⟨xs, x, hL, hR, hx, hx1, hla, _, hit⟩ := h'.line hc hl
      have := status_walk w' F (p.cb i) (p.lb i) _ k x _ (hres i _ k _ hc hl) hit hk (clAt h' hc).a3 hla
      rw [hx1.state, hx1.seq] at this
      exact this
end Go.Proofs.YtblomippkddgiaaGreatDoor
/-
  The face: Seal catches what Write gave up with.
-/
namespace Go.Proofs.YtblomippkddgiaaGreatDoor
open Go.RowKit

set_option maxRecDepth 100000 in
set_option maxHeartbeats 1000000 in
theorem scatch_panicking (a0 a1 B : Nat) (n q : Nat) (older : List PanicEntry) (w : World) (h0 : w.cell? ⟨a0, 0, none⟩ = some (.string ⟨#[]⟩)) (h1 : w.cell? ⟨a1, 0, none⟩ = some (.int .i64 0)) (z0 : w.frozen? ⟨a0, 0, none⟩ = false) (z1 : w.frozen? ⟨a1, 0, none⟩ = false) (hb0 : B ≤ a0) (hb1 : B ≤ a1) (hne : ¬ a0 = a1) :
    CallsD Tryz.prog 211 #[.pointer (some ⟨a0, 0, none⟩), .pointer (some ⟨a1, 0, none⟩)] (.panicking ({ v := .iface 86 (faultOf n q), recovered := false } :: older)) w fun e u' w' =>
      e = .returned (.tuple #[]) ∧ u' = .panicking ({ v := .iface 86 (faultOf n q), recovered := true } :: older) ∧ w'.cell? ⟨a0, 0, none⟩ = some (.string ⟨#[]⟩) ∧ w'.cell? ⟨a1, 0, none⟩ = some (.int .i64 n) ∧ Below B w w' := by
  refine callsD_of_wpS Tryz.func211 rfl fun c₀ cs hu => ?_
  apply wpS_seq
  apply wpS_region
  simp [wpOpsS, go_sem, recoverD, hu, Tryz.ntmps211, Exit.thenS]
  rw [show (#[Value.pointer (some { block := a0, off := 0 }), Value.pointer (some { block := a1, off := 0 })] ++ ((Array.replicate 7 undef).setIfInBounds 1 (Value.iface 86 (faultOf n q))).setIfInBounds 0 (Value.iface 86 (faultOf n q))) = #[.pointer (some { block := a0, off := 0 }), .pointer (some { block := a1, off := 0 }), .iface 86 (faultOf n q), .iface 86 (faultOf n q), undef, undef, undef, undef, undef] from rfl]
  refine wpS_of_wp ?_
  have hfl := field_fault n q
  have l0 := lt_of_cell h0
  have l1 := lt_of_cell h1
  go_wp2_with fail
  refine (caught_any n q _).mono ?_
  rintro e w1 ⟨rfl, hb⟩
  have s1 := hb.size
  have g0 : w1.cell? ⟨a0, 0, none⟩ = some (.string ⟨#[]⟩) := (hb.cell (p := ⟨a0, 0, none⟩) l0).trans h0
  have g1 : w1.cell? ⟨a1, 0, none⟩ = some (.int .i64 0) := (hb.cell (p := ⟨a1, 0, none⟩) l1).trans h1
  have y0 : w1.frozen? ⟨a0, 0, none⟩ = false := (hb.frozen (p := ⟨a0, 0, none⟩) l0).trans z0
  have y1 : w1.frozen? ⟨a1, 0, none⟩ = false := (hb.frozen (p := ⟨a1, 0, none⟩) l1).trans z1
  have m0 : a0 < w1.heap.size := by omega
  have m1 : a1 < w1.heap.size := by omega
  have e2 : ¬ a1 = a0 := by omega
  clear h0 h1 z0 z1
  go_wp2
  have F0 : ((w1.setCell { block := a0, off := 0 } (.string ⟨#[]⟩)).setCell { block := a1, off := 0 } (Value.int IntKind.i64 ↑n)).cell? ⟨a0, 0, none⟩ = some (.string ⟨#[]⟩) := by simp [go_sem, g0]
  have F1 : ((w1.setCell { block := a0, off := 0 } (.string ⟨#[]⟩)).setCell { block := a1, off := 0 } (Value.int IntKind.i64 ↑n)).cell? ⟨a1, 0, none⟩ = some (.int .i64 n) := by simp [go_sem, g1]
  have FB : Below B w ((w1.setCell { block := a0, off := 0 } (.string ⟨#[]⟩)).setCell { block := a1, off := 0 } (Value.int IntKind.i64 ↑n)) :=
    ((hb.mono (by omega)).setCell (by simpa using hb0) _).setCell (by simpa using hb1) _
  show bodyPostS Tryz.prog Tryz.f211 c₀ cs _ _ _ _ _
  exact ⟨rfl, _, rfl, _, results_none rfl _ _ _, rfl, rfl, F0, F1, FB⟩

theorem scatch_idle (p0 p1 : Addr) (w : World) :
    CallsD Tryz.prog 211 #[.pointer (some p0), .pointer (some p1)] .returning w fun e u' w' => e = .returned (.tuple #[]) ∧ u' = .returning ∧ w' = w := by
  refine callsD_of_wpS Tryz.func211 rfl fun c₀ cs hu => ?_
  apply wpS_seq
  apply wpS_region
  simp [wpOpsS, go_sem, recoverD, hu, Tryz.ntmps211, Exit.thenS]
  rw [show (#[Value.pointer (some p0), Value.pointer (some p1)] ++ ((Array.replicate 7 undef).setIfInBounds 1 (Value.nilIface)).setIfInBounds 0 (Value.nilIface)) = #[.pointer (some p0), .pointer (some p1), .nilIface, .nilIface, undef, undef, undef, undef, undef] from rfl]
  refine wpS_of_wp ?_
  go_wp2
  exact ⟨rfl, .returning, by cases c₀; simp_all, _, results_none rfl _ _ _, rfl, rfl, rfl⟩

abbrev pcells (k c li ln sq u pa o : Int) (pl : Bool) (S : ByteArray) : Array Value := #[.int .i64 k, .int .i64 c, .int .i64 li, .int .i64 ln, .int .i64 sq, .int .i64 u, .int .i64 pa, .int .i64 o, .bool pl, .string S]
abbrev sface (w : World) (xs : Array Value) : World := ((w.alloc (.cells xs 41)).alloc (.cells #[.string ⟨#[]⟩] 9)).alloc (.cells #[.int .i64 0] 32)
def sealPost (p : Pk) (w : World) (e : Ending) (w' : World) : Prop := Below w.heap.size w w' ∧ ((RightP p ∧ e = .returned (.tuple #[.string (str (sealB p)), .int .i64 0])) ∨ (¬ RightP p ∧ e = .returned (.tuple #[.string ⟨#[]⟩, .int .i64 7])))

set_option maxRecDepth 100000 in
set_option maxHeartbeats 1000000 in
theorem seal_any (p : Pk) (w : World) : Calls Tryz.prog 156 #[pv p] w (sealPost p w) := by
  have hmf : ∀ (fn : Fn) (first cap : Array Value) (w : World), (Instr.makeFunc fn first cap).run Tryz.prog w = .ok (.func fn first cap) w := fun _ _ _ _ => rfl
  obtain ⟨post, hpost⟩ : ∃ post, post = sealPost p w := ⟨_, rfl⟩
  have HNO : Hid (∀ w', Below w.heap.size w w' → ¬ RightP p → post (.returned (.tuple #[.string ⟨#[]⟩, .int .i64 7])) w') := by
    rw [hpost]
    exact fun w' hb hr => ⟨hb, Or.inr ⟨hr, rfl⟩⟩
  have HYES : Hid (∀ w', Below w.heap.size w w' → RightP p → post (.returned (.tuple #[.string (str (sealB p)), .int .i64 0])) w') := by
    rw [hpost]
    exact fun w' hb hr => ⟨hb, Or.inl ⟨hr, rfl⟩⟩
  rw [← hpost]
  clear hpost
  have HH := hide (fun w => write_any p w)
  generalize hSB : str (sealB p) = SB at *
  obtain ⟨k, c, li, ln, sq, u, pa, o, pl, body⟩ := p
  have HB := hide ((((Below.refl w.heap.size w).alloc (Nat.le_refl _) (.cells (pcells k c li ln sq u pa o pl (str body)) 41)).alloc (by simp) (.cells #[.string ⟨#[]⟩] 9)).alloc (by simp; omega) (.cells #[.int .i64 0] 32))
  go_enter_defers Tryz.func156, Tryz.ntmps156
  go_wp2_with fail
  refine ((unhide HH) _).mono ?_
  rintro e w1 ⟨hb, ⟨hr, rfl⟩ | ⟨hn, rfl⟩⟩
  · have hs := hb.size
    simp at hs
    have c0 : w1.cell? ⟨w.heap.size + 1, 0, none⟩ = some (.string ⟨#[]⟩) := (hb.cell (p := ⟨w.heap.size + 1, 0, none⟩) (by simp)).trans (by simp [go_sem])
    have c1 : w1.cell? ⟨w.heap.size + 2, 0, none⟩ = some (.int .i64 0) := (hb.cell (p := ⟨w.heap.size + 2, 0, none⟩) (by simp)).trans (by simp [go_sem])
    have z0 : w1.frozen? ⟨w.heap.size + 1, 0, none⟩ = false := (hb.frozen (p := ⟨w.heap.size + 1, 0, none⟩) (by simp)).trans (by simp [go_sem])
    have z1 : w1.frozen? ⟨w.heap.size + 2, 0, none⟩ = false := (hb.frozen (p := ⟨w.heap.size + 2, 0, none⟩) (by simp)).trans (by simp [go_sem])
    have HB1 := hide ((unhide HB).trans (hb.mono (by simp; omega)))
    rw [hSB]
    clear hb
    go_wp2
    refine leaves_cons (f := 211) (args := #[.pointer (some ⟨w.heap.size + 1, 0, none⟩), .pointer (some ⟨w.heap.size + 2, 0, none⟩)]) (by simp) (by simp [go_sem]) ?_
    refine (scatch_idle _ _ _).mono ?_
    rintro e u' w'' ⟨rfl, rfl, rfl⟩
    simp [Leaves, settle, results, Tryz.results156, go_sem, c0, c1]
    exact (unhide HYES) _ (((unhide HB1).setCell (by simp) _).setCell (by simp; omega) _) hr
  · have hs := hb.size
    simp at hs
    have c0 : w1.cell? ⟨w.heap.size + 1, 0, none⟩ = some (.string ⟨#[]⟩) := (hb.cell (p := ⟨w.heap.size + 1, 0, none⟩) (by simp)).trans (by simp [go_sem])
    have c1 : w1.cell? ⟨w.heap.size + 2, 0, none⟩ = some (.int .i64 0) := (hb.cell (p := ⟨w.heap.size + 2, 0, none⟩) (by simp)).trans (by simp [go_sem])
    have z0 : w1.frozen? ⟨w.heap.size + 1, 0, none⟩ = false := (hb.frozen (p := ⟨w.heap.size + 1, 0, none⟩) (by simp)).trans (by simp [go_sem])
    have z1 : w1.frozen? ⟨w.heap.size + 2, 0, none⟩ = false := (hb.frozen (p := ⟨w.heap.size + 2, 0, none⟩) (by simp)).trans (by simp [go_sem])
    have hb0 : Below w.heap.size w w1 := (unhide HB).trans (hb.mono (by simp; omega))
    go_wp2
    refine leaves_cons (f := 211) (args := #[.pointer (some ⟨w.heap.size + 1, 0, none⟩), .pointer (some ⟨w.heap.size + 2, 0, none⟩)]) (by simp) (by simp [go_sem]) ?_
    refine (scatch_panicking (w.heap.size + 1) (w.heap.size + 2) w.heap.size 7 0 [] _ c0 c1 z0 z1 (by omega) (by omega) (by omega)).mono ?_
    rintro e u' w'' ⟨rfl, rfl, f0, f1, fb⟩
    simp [Leaves, settle, results, Tryz.results156, go_sem, f0, f1]
    exact (unhide HNO) _ (hb0.trans fb) hn

end Go.Proofs.YtblomippkddgiaaGreatDoor
/-
  Bytes that are turned; packets that are opened.
-/
namespace Go.Proofs.YtblomippkddgiaaGreatDoor
open Go.RowKit

/- the bytes l lie in block G, and may be written -/
def RowB (W : World) (G : Nat) (l : List UInt8) : Prop := G < W.heap.size ∧ ∀ j (c : UInt8), l[j]? = some c → W.cell? ⟨G, j, none⟩ = some (.int .u8 (c.toNat : Int)) ∧ W.frozen? ⟨G, j, none⟩ = false
theorem RowB.set {W : World} {G : Nat} {l : List UInt8} (h : RowB W G l) (i : Nat) (x : UInt8) : RowB (W.setCell ⟨G, i, none⟩ (.int .u8 (x.toNat : Int))) G (l.set i x) := by
  refine ⟨by simpa using h.1, fun j c hj => ?_⟩
  by_cases hji : j = i
  · subst hji
    have hl : j < l.length := by
      have := (List.getElem?_eq_some_iff.1 hj).1
      simpa using this
    rw [List.getElem?_set_self hl] at hj
    obtain rfl := Option.some.inj hj
    obtain ⟨h1, h2⟩ := h.2 j _ (List.getElem?_eq_getElem hl)
    exact ⟨by simp [go_sem, h1], by simpa [go_sem] using h2⟩
  · rw [List.getElem?_set_ne (by omega)] at hj
    obtain ⟨h1, h2⟩ := h.2 j c hj
    exact ⟨by simp [go_sem, h1], by simpa [go_sem] using h2⟩
set_option maxRecDepth 100000 in
theorem RowB.conv {W : World} {G : Nat} {l : List UInt8} (h : RowB W G l) (cap : Nat) : (convert 199 9 (.slice (some ⟨G, 0, none⟩) l.length cap)).run Tryz.prog W = .ok (.string (str l)) W := by
  refine run_convert_bytes_back (P := Tryz.prog) W 199 9 5 ⟨G, 0, none⟩ cap l Tryz.underlying199 (by kernel_rfl) Tryz.underlying9 fun j hj => ?_
  rw [Addr.add_lit, Nat.zero_add]
  exact (h.2 j _ (List.getElem?_eq_getElem hj)).1
theorem RowB.drew {W : World} {G : Nat} {l : List UInt8} (h : RowB W G l) : RowB W.drew G l := h
theorem RowB.alloc {W : World} {G : Nat} {l : List UInt8} (h : RowB W G l) (o : Obj) : RowB (W.alloc o) G l := by
  have h1 := h.1
  refine ⟨by simp; omega, fun j c hj => ?_⟩
  obtain ⟨h2, h3⟩ := h.2 j c hj
  exact ⟨(World.cell?_alloc_lt _ _ _ (by exact h1)).trans h2, by simpa [World.frozen?, Below.heap_alloc W o G h1] using h3⟩
set_option maxRecDepth 100000 in
theorem conv_ex (W : World) (l : List UInt8) : ∃ (cap : Nat) (W' : World), (convert 9 199 (.string (str l))).run Tryz.prog W = .ok (.slice (some ⟨W.heap.size, 0, none⟩) l.length cap) W' ∧ RowB W' W.heap.size l ∧ Below W.heap.size W W' := by
  have h := Lib.run_convert_string_bytes (P := Tryz.prog) W 9 199 5 (str l) Tryz.underlying9 Tryz.underlying199 (by kernel_rfl)
  rw [str_size] at h
  refine ⟨_, _, h, ⟨by rw [Lib.bytesWorld_size]; omega, fun j c hj => ⟨?_, ?_⟩⟩, ?_⟩
  · have hl : j < l.length := (List.getElem?_eq_some_iff.1 hj).1
    rw [Lib.bytesWorld_cell W 5 (str l) j (by rw [str_size]; exact hl)]
    simp [List.getD, hj]
  · have hl : j < l.length := (List.getElem?_eq_some_iff.1 hj).1
    have hs : l.length ≤ (Lib.bytesCells W 5 (str l)).size := by
      unfold Lib.bytesCells
      simp
    simp only [World.frozen?, Lib.bytesWorld_at_new]
    simp
    omega
  · refine ⟨?_, ?_, ?_, by rw [Lib.bytesWorld_size]; omega, fun k hk => Lib.bytesWorld_at_old W 5 (str l) k hk⟩
    · simp [Lib.bytesWorld, World.freeze]
      rfl
    · simp [Lib.bytesWorld, World.freeze]
    · simp [Lib.bytesWorld, World.freeze]
      rfl
theorem seal_right (p : Pk) (hr : RightP p) (w : World) : Calls Tryz.prog 156 #[pv p] w fun e w' => e = .returned (.tuple #[.string (str (sealB p)), .int .i64 0]) ∧ Below w.heap.size w w' := by
  refine (seal_any p w).mono ?_
  rintro e w' ⟨hb, ⟨_, rfl⟩ | ⟨hn, _⟩⟩
  · exact ⟨rfl, hb⟩
  · exact absurd hr hn
theorem open_right (p : Pk) (hr : RightP p) (w : World) : Calls Tryz.prog 14 #[.string (str (sealB p))] w fun e w' => e = .returned (.tuple #[pv p, .int .i64 0]) ∧ Below w.heap.size w w' := by
  have hl := sealB_length p
  have hb := body_le hr
  refine (open_any (sealB p) w (by omega)).mono ?_
  unfold openPost
  rw [readP_seal hr]
  rintro e w' ⟨hb, ⟨hn, _⟩ | ⟨p', hp, rfl⟩⟩
  · cases hn
  · cases hp
    exact ⟨rfl, hb⟩
theorem open_none (l : List UInt8) (hn : readP l = none) (hl : l.length ≤ 1000) (w : World) : Calls Tryz.prog 14 #[.string (str l)] w fun e w' => e = .returned (.tuple #[zeroP, .int .i64 7]) ∧ Below w.heap.size w w' := by
  refine (open_any l w (by omega)).mono ?_
  unfold openPost
  rw [hn]
  rintro e w' ⟨hb, ⟨_, rfl⟩ | ⟨p', hp, _⟩⟩
  · exact ⟨rfl, hb⟩
  · cases hp
theorem xor_u8 (a d : UInt8) : bits .xor .u8 (a.toNat : Int) (d.toNat : Int) = ((a ^^^ d).toNat : Int) := by
  have ha := a.toNat_lt
  have hd := d.toNat_lt
  have n1 : (BitVec.ofInt 8 (a.toNat : Int)).toNat = a.toNat := by
    rw [BitVec.ofInt_natCast, BitVec.toNat_ofNat]
    omega
  have n2 : (BitVec.ofInt 8 (d.toNat : Int)).toNat = d.toNat := by
    rw [BitVec.ofInt_natCast, BitVec.toNat_ofNat]
    omega
  show IntKind.u8.wrap ((BitVec.ofInt 8 (a.toNat : Int) ^^^ BitVec.ofInt 8 (d.toNat : Int)).toNat : Int) = _
  rw [BitVec.toNat_xor, n1, n2, UInt8.toNat_xor]
  have hlt : a.toNat ^^^ d.toNat < 2 ^ 8 := Nat.xor_lt_two_pow (by omega) (by omega)
  rw [wrap_u8]
  omega
theorem xor_ne8 (a d : UInt8) (h : d ≠ 0) : a ^^^ d ≠ a := by
  intro e
  apply h
  have : a ^^^ (a ^^^ d) = a ^^^ a := by rw [e]
  simpa [← UInt8.xor_assoc] using this

end Go.Proofs.YtblomippkddgiaaGreatDoor
/-
  The landed server is turned, all else of a world stays.
-/
namespace Go.Proofs.YtblomippkddgiaaGreatDoor
open Go.RowKit

def cliTag (t : TypeId) : Bool := t == 84 || t == 89 || t == 113 || t == 122 || t == 134 || t == 139 || t == 106
def SrvOnly (w : World) (E : Foot) : Prop := ∀ b, E b → (∃ cur t z, w.heap[b]? = some (.cells cur t z) ∧ cliTag t = false) ∨ ∃ cap buf cl a r tm, w.heap[b]? = some (.chan cap buf cl a r tm)
theorem SrvOnly.cells {w : World} {E : Foot} (h : SrvOnly w E) {b : Nat} {cur : Array Value} {t : TypeId} {z : Nat × Nat} (hb : w.heap[b]? = some (.cells cur t z)) (ht : cliTag t = true) : ¬ E b := fun hE => by
  rcases h b hE with ⟨cur', t', z', h1, h2⟩ | ⟨cap, buf, cl, a, r, tm, h1⟩
  · rw [hb] at h1
    cases h1
    rw [ht] at h2
    cases h2
  · rw [hb] at h1
    cases h1
theorem SrvOnly.map {w : World} {E : Foot} (h : SrvOnly w E) {b : Nat} {es : Array MapEntry} {cl : Nat} (hb : w.heap[b]? = some (.map es cl)) : ¬ E b := fun hE => by
  rcases h b hE with ⟨cur', t', z', h1, h2⟩ | ⟨cap, buf, cl, a, r, tm, h1⟩
  · rw [hb] at h1
    cases h1
  · rw [hb] at h1
    cases h1
theorem SrvOnly.one {w : World} {b : Nat} {cur : Array Value} {t : TypeId} {z : Nat × Nat} (h : w.heap[b]? = some (.cells cur t z)) (ht : cliTag t = false) : SrvOnly w (fun k => k = b) := fun k hk => Or.inl ⟨cur, t, z, by subst hk; exact h, ht⟩
theorem SrvOnly.or {w : World} {E E' : Foot} (h : SrvOnly w E) (h' : SrvOnly w E') : SrvOnly w (fun k => E k ∨ E' k) := fun k hk => by
  rcases hk with hk | hk
  · exact h k hk
  · exact h' k hk
theorem SrvOnly.row {w : World} {B n size : Nat} {e : TypeId} {v : Value} {xs : List Value} (hr : w.ownsRow B e size v n xs) (he : cliTag e = false) : SrvOnly w (fun k => v.ownBlock = some k) := fun k hk => by
  rcases hr.2 with ⟨rfl, _⟩ | ⟨g, cap, cur, rfl, _, hg, _⟩
  · cases hk
  · cases hk
    exact Or.inl ⟨_, _, _, hg, he⟩
abbrev atServer (G : R.Wd) (sv : List R.Sv) (lives : List Int) (seen : List R.Sn) (jobs : List R.Jb) : R.Wd := { G with services := sv, lives := lives, seen := seen, jobs := jobs }
theorem LW.srvTurn {p : Pl} {F F' E : Foot} {G : R.Wd} {w w' : World} (h : LW p F G w) {t : SP} {sv : List R.Sv} {lives : List Int} {seen : List R.Sn} {jobs : List R.Jb} (hs : SrvAt p.s p.n p.nm t F' G.c sv lives seen jobs w') (hk : Keeps E w w') (hE : SrvOnly w E) (hF : ∀ k, F k → F' k) (hlt : ∀ k, F' k → k < w'.heap.size) (hwf : R.Wf (atServer G sv lives seen jobs)) (hws : R.WsOk G.c lives seen jobs) (hbd : ∀ (i : Nat) (c : R.Cl), G.clients[i]? = some c → ∀ u, boundOf (atServer G sv lives seen jobs) c u = boundOf G c u) : LW { p with t := t } F' (atServer G sv lives seen jobs) w' := by
  obtain ⟨hx, hn, hcs, hnm⟩ := h.foot
  have map' : ∀ {α : Type} {k : TypeId} {b : Nat} {lit : α → Lit} {g : α → Option Int} {n : Nat}, Mp w k b lit g n → Mp w' k b lit g n := fun hm => by
    obtain ⟨es, q, hq⟩ := hm.block
    exact hm.keep hk (hE.map hq)
  refine ⟨hwf, hws, hk.at h.bx (hE.cells h.bx rfl), ?_, ?_, hs, map' h.names, fun i c hc => hk.at (h.cl i c hc) (hE.cells (h.cl i c hc) rfl), fun i c hc => ?_, fun i c hc => (map' (h.bound i c hc)).congr (hbd i c hc), ⟨hF _ hx, hF _ hn, hF _ hcs, hF _ hnm⟩, fun i hi => ?_, h.inj, hlt⟩
  · obtain ⟨cur, h1, h2⟩ := h.bcs
    exact ⟨cur, hk.at h1 (hE.cells h1 rfl), h2⟩
  · obtain ⟨K, h1, h2, h3⟩ := h.bn
    refine ⟨K, hk.at h1 (hE.cells h1 rfl), hk.row h2 (fun j hj => ?_), fun j hj => hF _ (h3 j hj)⟩
    rcases h2.2 with ⟨rfl, _⟩ | ⟨g, cap, cur, rfl, _, hg, _⟩
    · cases hj
    · cases hj
      exact hE.cells hg rfl
  · obtain ⟨xs, h1, h2, h3⟩ := h.ln i c hc
    exact ⟨xs, hk.at h1 (hE.cells h1 rfl), h2, fun k l x hl hx => (h3 k l x hl hx).keep hk (fun b cur _ hb => hE.cells hb rfl) hF⟩
  · obtain ⟨a1, a2, a3, a4⟩ := h.feet i hi
    exact ⟨hF _ a1, hF _ a2, hF _ a3, a4⟩

/- a service's cells -/
theorem SrvAt.madeAt {s n nm : Nat} {t : SP} {F : Foot} {c : R.Cf} {sv : List R.Sv} {lives : List Int} {seen : List R.Sn} {jobs : List R.Jb} {w : World} (h : SrvAt s n nm t F c sv lives seen jobs w) {u : Nat} {z : R.Sv × MV} (hz : t.zs[u]? = some z) : ∃ g cap cur, t.K = .slice (some ⟨g, 0, none⟩) t.zs.length cap ∧ w.heap[g]? = some (.cells cur 213 (0, 0)) ∧ F g ∧ w.cell? ⟨g, u * 3, none⟩ = some (.int .i64 z.1.kind) ∧ w.cell? ⟨g, u * 3 + 1, none⟩ = some z.2.wk ∧ w.cell? ⟨g, u * 3 + 2, none⟩ = some z.2.dn ∧ t.zs.length ≤ cap ∧ cap ≤ maxLen ∧ cur.size = cap * 3 ∧ cur.toList.take (t.zs.length * 3) = tab mcells t.zs := by
  have hu := (List.getElem?_eq_some_iff.1 hz).1
  rcases id h.made.2 with ⟨_, h0⟩ | ⟨g, cap, cur, hK, _, hg, hcap, hmax, hsz, htk⟩
  · omega
  have q : ∀ j v, j < 3 → (mcells z)[j]? = some v → w.cell? ⟨g, u * 3 + j, none⟩ = some v := fun j v hj hv => by
    have := tab_get mcells_len t.zs u j z hz hj
    rw [hv, ← htk, List.getElem?_take, if_pos (by omega)] at this
    simp [World.cell?, hg]
    simpa using this
  refine ⟨g, cap, cur, hK, hg, h.foot.2.2 g (by rw [hK]; rfl), ?_, q 1 _ (by omega) rfl, q 2 _ (by omega) rfl, hcap, hmax, hsz, htk⟩
  exact q 0 _ (by omega) rfl
theorem zs_get {t : SP} {sv : List R.Sv} (h : t.zs.map (·.1) = sv) {u : Nat} {s : R.Sv} (hs : sv[u]? = some s) : ∃ z, t.zs[u]? = some z ∧ z.1 = s := by
  rw [← h, List.getElem?_map] at hs
  cases hz : t.zs[u]? with
  | none => rw [hz] at hs; cases hs
  | some z => rw [hz] at hs; exact ⟨z, rfl, Option.some.inj hs⟩
theorem map_set {α β : Type} (f : α → β) (l : List α) (i : Nat) (x : α) : (l.set i x).map f = (l.map f).set i (f x) := by
  apply List.ext_getElem?
  intro j
  simp only [List.getElem?_map, List.getElem?_set, List.length_map]
  split
  · split <;> rfl
  · rfl
end Go.Proofs.YtblomippkddgiaaGreatDoor
