/-
  Joined: Status Status2 Tab2 NDel.
-/
import Derived.Test.YtblomippkddgiaaGreatDoorJ46
import Derived.Test.YtblomippkddgiaaGreatDoorJ26
import Derived.Test.YtblomippkddgiaaGreatDoorJ02
/-
  Status: how a line is. Lists that are handed out are copies.
-/
namespace Go.Proofs.YtblomippkddgiaaGreatDoor
open Go.RowKit

set_option maxRecDepth 100000 in
theorem clone_nil (w : World) : Calls Tryz.prog 74 #[.slice none 0 0] w fun e w' => e = .returned (.slice none 0 0) ∧ w' = w := by
  have hq : ∀ w, (binOp .eql 44 (.slice none 0 0) (.slice none 0 0)).run Tryz.prog w = .ok (.bool true) w := fun w => by kernel_rfl
  go_enter Tryz.func74, Tryz.ntmps74
  go_wp2
  go_returns
  exact ⟨rfl, rfl⟩
theorem flat_src {w : World} {b off : Nat} : ∀ (v : List V.It), (∀ j x, v[j]? = some x → w.cell? ⟨b, off + j * 2, none⟩ = some (.int .i64 x.1) ∧ w.cell? ⟨b, off + j * 2 + 1, none⟩ = some (.string x.2)) → ∀ j u, (V.flat v)[j]? = some u → w.cell? ((⟨b, off, none⟩ : Addr).add j) = some u := fun v h j u hj => by
  have hl := (List.getElem?_eq_some_iff.1 hj).1
  rw [V.flat_length] at hl
  have hx : v[j / 2]? = some v[j / 2] := List.getElem?_eq_getElem (by omega)
  obtain ⟨f0, f1⟩ := V.flat_get v (j / 2) _ hx
  obtain ⟨c0, c1⟩ := h (j / 2) _ hx
  rw [Addr.add_lit]
  rcases Nat.mod_two_eq_zero_or_one j with q | q
  · have e : j / 2 * 2 = j := by omega
    rw [e] at f0 c0
    rw [hj] at f0
    cases f0
    exact c0
  · have e : j / 2 * 2 + 1 = j := by omega
    rw [e] at f1
    rw [hj] at f1
    cases f1
    rw [Nat.add_assoc, e] at c1
    exact c1
set_option maxRecDepth 100000 in
set_option maxHeartbeats 1000000 in
theorem clone_some (w : World) (b off cap : Nat) (v : List V.It) (hn : v.length ≤ 1000) (h : ∀ j x, v[j]? = some x → w.cell? ⟨b, off + j * 2, none⟩ = some (.int .i64 x.1) ∧ w.cell? ⟨b, off + j * 2 + 1, none⟩ = some (.string x.2)) (hb : b < w.heap.size) :
    Calls Tryz.prog 74 #[.slice (some ⟨b, off, none⟩) v.length cap] w fun e w' => (∃ O, e = .returned O ∧ V.Row w' w.heap.size O v ∧ ¬ O = .slice none 0 0) ∧ Below w.heap.size w w' := by
  have hq : ∀ w, (binOp .eql 44 (.slice (some ⟨b, off, none⟩) v.length cap) (.slice none 0 0)).run Tryz.prog w = .ok (.bool false) w := fun w => by rfl
  obtain ⟨i0, hi, hz0, hz1, hz2⟩ := info_parts V.info31
  have hB : Below w.heap.size w (w.alloc (.cells #[] 106)) := (Below.refl _ _).alloc (Nat.le_refl _) _
  have HSRC : Hid (∀ j u, (V.flat v)[j]? = some u → (w.alloc (.cells #[] 106)).cell? ((⟨b, off, none⟩ : Addr).add j) = some u) := flat_src (w := w.alloc (.cells #[] 106)) v (fun j x hx => by
    obtain ⟨h1, h2⟩ := h j x hx
    exact ⟨(hB.cell (p := ⟨b, _, none⟩) hb).trans h1, (hB.cell (p := ⟨b, _, none⟩) hb).trans h2⟩)
  have HROW : Hid ((w.alloc (.cells #[] 106)).ownsRow w.heap.size 106 2 (.slice (some ⟨w.heap.size, 0, none⟩) 0 0) 0 []) := ⟨rfl, Or.inr ⟨w.heap.size, 0, #[], rfl, Nat.le_refl _, heap_alloc_new w _, Nat.le_refl _, Nat.zero_le _, rfl, rfl⟩⟩
  have hfl := V.flat_length v
  have HB := hide hB
  clear h
  go_enter Tryz.func74, Tryz.ntmps74
  go_wp2_with (at_builtin; go_must (refine wpList_append_own_at _ rfl (.tmp 5) (.tmp 6) 44 rfl w.heap.size 106 i0 (.agg #[.int .i64 0, .string ⟨#[]⟩]) 2 24 Tryz.underlying44 hi hz0 hz1 hz2 rfl (by decide) (.slice (some ⟨w.heap.size, 0, none⟩) 0 0) 0 [] rfl (unhide HROW) ⟨b, off, none⟩ v.length cap (V.flat v) rfl hfl (unhide HSRC) (V.flat_one v) (by unfold maxLen; omega) (by omega) (by simp) ?_))
  intro v' wz hown hgrow hnil _
  obtain ⟨va, vn, vc, hvs⟩ := row_shape hown
  subst hvs
  have hz : Below w.heap.size w wz := (unhide HB).grown hgrow (by simp) (fun k hk => by cases hk; exact Nat.le_refl _)
  have HO := hide hown
  have HN := hide hnil
  clear hown hgrow hnil
  go_wp2
  go_ret
  refine ⟨⟨_, rfl, ?_, fun e => ?_⟩, hz⟩
  · exact unhide HO
  · exact (unhide HN) e
/- a copy of items that nobody writes into -/
theorem clone_it {w : World} {F : Foot} {X : Value} {v : List R.It} (h : ItAt w F X v) (hn : v.length ≤ 1000) : Calls Tryz.prog 74 #[X] w fun e w' => (∃ O, e = .returned O ∧ V.Row w' w.heap.size O v ∧ (O = .slice none 0 0 ↔ v = [])) ∧ Below w.heap.size w w' := by
  rcases h with ⟨rfl, rfl⟩ | ⟨b, off, cap, cur, hne, rfl, _, _, h4, h5⟩
  · refine (clone_nil w).mono ?_
    rintro e w' ⟨rfl, rfl⟩
    exact ⟨⟨_, rfl, V.row_nil _ _, by simp⟩, Below.refl _ _⟩
  · refine (clone_some w b off cap v hn (fun j x hx => ?_) (Array.getElem?_eq_some_iff.1 h4).1).mono ?_
    · obtain ⟨r1, r2⟩ := h5 j x hx
      exact ⟨by simp [World.cell?, h4, r1], by simp [World.cell?, h4, r2]⟩
    · rintro e w' ⟨⟨O, rfl, h1, h2⟩, hb⟩
      exact ⟨⟨O, rfl, h1, fun e => absurd e h2, fun e => absurd e hne⟩, hb⟩

set_option maxRecDepth 100000 in
theorem cf74 : ∀ args w, (callFunc 74 args).run Tryz.prog w = .ok (.enter 74 args) w := fun _ _ => rfl
/- what Status answers -/
def stEnd (r : Int × Int × List R.It × Int) (O : Value) : Ending := .returned (.tuple #[.agg #[.int .i64 r.1, .int .i64 r.2.1, O], .int .i64 r.2.2.2])

set_option maxRecDepth 100000 in
set_option maxHeartbeats 1000000 in
theorem status_walk (w : World) (F : Foot) (cb lb nl k : Nat) (x : LLn) (v : List R.It) (hv : v.length ≤ 1000) (hit : ItAt w F x.rv v) (hk : k < nl) (b3 : w.cell? ⟨cb, 3, none⟩ = some (.slice (some ⟨lb, 0, none⟩) nl nl)) (ha : LnAt w lb k x) :
    Calls Tryz.prog 39 #[ptr cb, .int .i64 (k : Int)] w fun e w' => (∃ O, e = .returned (.tuple #[.agg #[.int .i64 x.state, .int .i64 x.seq, O], .int .i64 0]) ∧ V.Row w' w.heap.size O v) ∧ Below w.heap.size w w' := by
  obtain ⟨ra, rn, rc, hrv⟩ := it_slice hit
  have HCL : Hid (∀ w', Below w.heap.size w w' → Calls Tryz.prog 74 #[.slice ra rn rc] w' fun e w'' => (∃ a n c, e = .returned (.slice a n c) ∧ V.Row w'' w'.heap.size (.slice a n c) v) ∧ Below w'.heap.size w' w'') := fun w' hb => by
    have hit' : ItAt w' F (.slice ra rn rc) v := by
      rw [← hrv]
      exact hit.keep (Keeps.ofBelow hb (fun _ => False)) (fun _ _ _ _ h => h) (fun _ q => q)
    refine (clone_it hit' hv).mono ?_
    rintro e w'' ⟨⟨O, rfl, h1, _⟩, h2⟩
    obtain ⟨a, n, c, rfl⟩ := row_shape h1
    exact ⟨⟨a, n, c, rfl, h1⟩, h2⟩
  obtain ⟨st, sq, rv, u, pc, m, ac, cm, wt, tr⟩ := x
  obtain ⟨a0, a1, a2, a3, a4, a5, a6, a7, a8, a9⟩ := ha
  simp only at a0 a1 a2 a3 a4 a5 a6 a7 a8 a9 hrv hit
  rw [hrv] at a2
  generalize str m = SM at *
  generalize str cm = SC at *
  have q1 : (0 : Int) ≤ (k : Int) := by omega
  have q2 : (k : Int) < (nl : Int) := by omega
  have hl1 := lt_of_cell b3
  have hl2 := lt_of_cell a0
  simp only
  obtain ⟨BX, hBX⟩ : ∃ BX, (w.alloc (.cells #[.int .i64 0, .int .i64 0, .slice none 0 0] 46)).alloc (.cells #[.int .i64 st, .int .i64 sq, .slice ra rn rc, .int .i64 u, .int .i64 pc, .string SM, .int .i64 ac, .string SC, .int .i64 wt, .int .i64 tr] 139) = BX := ⟨_, rfl⟩
  have HB : Hid (Below w.heap.size w BX) := by
    rw [← hBX]
    exact ((Below.refl _ _).alloc (Nat.le_refl _) _).alloc (by simp) _
  have hbx : BX.heap[w.heap.size + 1]? = some (.cells #[.int .i64 st, .int .i64 sq, .slice ra rn rc, .int .i64 u, .int .i64 pc, .string SM, .int .i64 ac, .string SC, .int .i64 wt, .int .i64 tr] 139 (0, 0)) := by
    rw [← hBX, ← World.size_alloc w]
    exact heap_alloc_new _ _
  have hby : BX.heap[w.heap.size]? = some (.cells #[.int .i64 0, .int .i64 0, .slice none 0 0] 46 (0, 0)) := by
    rw [← hBX]
    exact (Below.heap_alloc _ _ _ (by simp)).trans (heap_alloc_new w _)
  have c0 : BX.cell? ⟨w.heap.size + 1, 0, none⟩ = some (.int .i64 st) := cell_of hbx 0 _ rfl
  have c1 : BX.cell? ⟨w.heap.size + 1, 1, none⟩ = some (.int .i64 sq) := cell_of hbx 1 _ rfl
  have c2 : BX.cell? ⟨w.heap.size + 1, 2, none⟩ = some (.slice ra rn rc) := cell_of hbx 2 _ rfl
  have hs : BX.heap.size = w.heap.size + 2 := by rw [← hBX]; simp
  have HBX := hide hBX
  have HBY := hide hby
  have HC := hide ((unhide HCL) BX.drew (unhide HB).drew)
  have HEND : Hid (∀ (w3 : World) (a : Option Addr) (n c : Nat), V.Row w3 BX.drew.heap.size (.slice a n c) v → Below BX.drew.heap.size BX.drew w3 → (w3.cell? ⟨w.heap.size, 0, none⟩ = some (.int .i64 0) ∧ w3.cell? ⟨w.heap.size, 1, none⟩ = some (.int .i64 0) ∧ w3.cell? ⟨w.heap.size, 2, none⟩ = some (.slice none 0 0) ∧ (∀ j, w3.frozen? ⟨w.heap.size, j, none⟩ = false) ∧ w.heap.size < w3.heap.size ∧ w3.cell? ⟨w.heap.size + 1, 0, none⟩ = some (.int .i64 st) ∧ w3.cell? ⟨w.heap.size + 1, 1, none⟩ = some (.int .i64 sq) ∧ w3.cell? ⟨w.heap.size + 1, 2, none⟩ = some (.slice ra rn rc)) ∧ V.Row (((w3.setCell ⟨w.heap.size, 0, none⟩ (.int .i64 st)).setCell ⟨w.heap.size, 1, none⟩ (.int .i64 sq)).setCell ⟨w.heap.size, 2, none⟩ (.slice a n c)) w.heap.size (.slice a n c) v ∧ Below w.heap.size w (((w3.setCell ⟨w.heap.size, 0, none⟩ (.int .i64 st)).setCell ⟨w.heap.size, 1, none⟩ (.int .i64 sq)).setCell ⟨w.heap.size, 2, none⟩ (.slice a n c))) := fun w3 a n c hrow hb3 => by
    have hds : BX.drew.heap.size = w.heap.size + 2 := hs
    have g3 : w3.heap[w.heap.size]? = some (.cells #[.int .i64 0, .int .i64 0, .slice none 0 0] 46 (0, 0)) := (hb3.block _ (by omega)).trans (unhide HBY)
    have g4 := (hb3.block (w.heap.size + 1) (by omega)).trans (show BX.drew.heap[w.heap.size + 1]? = _ from hbx)
    have hbw : Below w.heap.size w w3 := (unhide HB).drew.trans (hb3.mono (by omega))
    refine ⟨⟨cell_of g3 0 _ rfl, cell_of g3 1 _ rfl, cell_of g3 2 _ rfl, fun j => open_list g3, lt_of_block g3, cell_of g4 0 _ rfl, cell_of g4 1 _ rfl, cell_of g4 2 _ rfl⟩, ?_, ((hbw.setCell (by simp) _).setCell (by simp) _).setCell (by simp) _⟩
    have hkp : Keeps (fun k => k = w.heap.size) w3 (((w3.setCell ⟨w.heap.size, 0, none⟩ (.int .i64 st)).setCell ⟨w.heap.size, 1, none⟩ (.int .i64 sq)).setCell ⟨w.heap.size, 2, none⟩ (.slice a n c)) := ((keeps_one _).trans (keeps_one _)).trans (keeps_one _)
    refine V.row_base (hkp.row hrow (fun j hj e => ?_)) (by omega)
    have := ((World.ownsRow.lt hrow) j hj).1
    omega
  clear hBX hbx hby HCL hit hrv hs
  go_enter Tryz.func39, Tryz.ntmps39
  go_wp2_with (first | (go_at_call 73; go_in))
  rw [unhide HBX]
  go_region_held3 (fun w' => w'.cell? ⟨w.heap.size + 1, 0, none⟩ = some (.int .i64 st) ∧ w'.cell? ⟨w.heap.size + 1, 1, none⟩ = some (.int .i64 sq) ∧ w'.cell? ⟨w.heap.size + 1, 2, none⟩ = some (.slice ra rn rc)) (go_keep) ((go_at_call 74; refine (unhide HC).mono ?_; rintro e w3 ⟨⟨oa, on, oc, rfl, hrow⟩, hb3⟩; have hend := (unhide HEND) w3 oa on oc hrow hb3; obtain ⟨⟨d0, d1, d2, zz, m0, x0, x1, x2⟩, hr, hbw⟩ := hend; have HR := hide hr; have HBW := hide hbw; clear hrow hb3 hr hbw))
  all_goals
    go_wp2
    exact bodyPost_ret (v := .tuple #[.agg #[.int .i64 st, .int .i64 sq, .slice oa on oc], .int .i64 0]) (by simp [results, Tryz.results39, go_sem, d0, d1, d2]) rfl ⟨⟨_, rfl, unhide HR⟩, unhide HBW⟩
end Go.Proofs.YtblomippkddgiaaGreatDoor
/-
  Status of a landed world.
-/
namespace Go.Proofs.YtblomippkddgiaaGreatDoor
open Go.RowKit

set_option maxRecDepth 100000 in
set_option maxHeartbeats 1000000 in
theorem status_line_no (w : World) (cb lb nl : Nat) (ln : Int) (hk : ln < 0 ∨ (nl : Int) ≤ ln) (b3 : w.cell? ⟨cb, 3, none⟩ = some (.slice (some ⟨lb, 0, none⟩) nl nl)) :
    Calls Tryz.prog 39 #[ptr cb, .int .i64 ln] w fun e w' => e = .returned (.tuple #[.agg #[.int .i64 0, .int .i64 0, .slice none 0 0], .int .i64 14]) ∧ Below w.heap.size w w' := by
  have HB : Hid (Below w.heap.size w (w.alloc (.cells #[.int .i64 0, .int .i64 0, .slice none 0 0] 46))) := (Below.refl _ _).alloc (Nat.le_refl _) _
  have hl := lt_of_cell b3
  by_cases h0 : ln < 0
  · have h1 : ¬ 0 ≤ ln := by omega
    clear hk
    go_enter Tryz.func39, Tryz.ntmps39
    go_wp2_with (first | (go_at_call 73; go_in))
    exact bodyPost_ret (v := .tuple #[.agg #[.int .i64 0, .int .i64 0, .slice none 0 0], .int .i64 14]) (by simp [results, Tryz.results39, go_sem]) rfl ⟨rfl, unhide HB⟩
  · have h1 : 0 ≤ ln := by omega
    have h2 : ¬ ln < (nl : Int) := by omega
    clear hk
    go_enter Tryz.func39, Tryz.ntmps39
    go_wp2_with (first | (go_at_call 73; go_in))
    exact bodyPost_ret (v := .tuple #[.agg #[.int .i64 0, .int .i64 0, .slice none 0 0], .int .i64 14]) (by simp [results, Tryz.results39, go_sem]) rfl ⟨rfl, unhide HB⟩
set_option maxRecDepth 100000 in
set_option maxHeartbeats 1000000 in
theorem status_face_no (w : World) (x cs n cap : Nat) (cl ln : Int) (hx : w.cell? ⟨x, 2, none⟩ = some (.slice (some ⟨cs, 0, none⟩) n cap)) (hc : cl < 0 ∨ (n : Int) ≤ cl) :
    Calls Tryz.prog 16 #[ptr x, .int .i64 cl, .int .i64 ln] w fun e w' => e = .returned (.tuple #[.agg #[.int .i64 0, .int .i64 0, .slice none 0 0], .int .i64 13]) ∧ Below w.heap.size w w' := by
  have HB : Hid (Below w.heap.size w (w.alloc (.cells #[.int .i64 0, .int .i64 0, .slice none 0 0] 46))) := (Below.refl _ _).alloc (Nat.le_refl _) _
  have hl := lt_of_cell hx
  by_cases h0 : cl < 0
  · have h1 : ¬ 0 ≤ cl := by omega
    clear hc
    go_enter Tryz.func16, Tryz.ntmps16
    go_wp2_with (first | (go_at_call 38; go_in))
    exact bodyPost_ret (v := .tuple #[.agg #[.int .i64 0, .int .i64 0, .slice none 0 0], .int .i64 13]) (by simp [results, Tryz.results16, go_sem]) rfl ⟨rfl, unhide HB⟩
  · have h1 : 0 ≤ cl := by omega
    have h2 : ¬ cl < (n : Int) := by omega
    clear hc
    go_enter Tryz.func16, Tryz.ntmps16
    go_wp2_with (first | (go_at_call 38; go_in))
    exact bodyPost_ret (v := .tuple #[.agg #[.int .i64 0, .int .i64 0, .slice none 0 0], .int .i64 13]) (by simp [results, Tryz.results16, go_sem]) rfl ⟨rfl, unhide HB⟩

set_option maxRecDepth 100000 in
set_option maxHeartbeats 1000000 in
theorem status_face (w : World) (x cs n cap cb i : Nat) (ln st sq er : Int) (v : List R.It) (hx : w.cell? ⟨x, 2, none⟩ = some (.slice (some ⟨cs, 0, none⟩) n cap)) (hi : i < n) (hcs : w.cell? ⟨cs, i, none⟩ = some (ptr cb))
    (H30 : Hid (∀ w', Below w.heap.size w w' → Calls Tryz.prog 39 #[ptr cb, .int .i64 ln] w' fun e w'' => (∃ O, e = .returned (.tuple #[.agg #[.int .i64 st, .int .i64 sq, O], .int .i64 er]) ∧ V.Row w'' w'.heap.size O v) ∧ Below w'.heap.size w' w'')) :
    Calls Tryz.prog 16 #[ptr x, .int .i64 (i : Int), .int .i64 ln] w fun e w' => (∃ O, e = .returned (.tuple #[.agg #[.int .i64 st, .int .i64 sq, O], .int .i64 er]) ∧ V.Row w' w.heap.size O v) ∧ Below w.heap.size w w' := by
  have q1 : (0 : Int) ≤ (i : Int) := by omega
  have q2 : (i : Int) < (n : Int) := by omega
  have hl1 := lt_of_cell hx
  have hl2 := lt_of_cell hcs
  have HB : Hid (Below w.heap.size w (w.alloc (.cells #[.int .i64 0, .int .i64 0, .slice none 0 0] 46))) := (Below.refl _ _).alloc (Nat.le_refl _) _
  have HC := hide ((unhide H30) _ (unhide HB))
  clear H30
  go_enter Tryz.func16, Tryz.ntmps16
  go_wp2_with (first | (go_at_call 38; go_in))
  refine (unhide HC).mono ?_
  rintro e w1 ⟨⟨O, rfl, hrow⟩, hb⟩
  obtain ⟨oa, on, oc, hO⟩ := row_shape hrow
  subst hO
  have hs := hb.size
  simp at hs
  have hby : w1.heap[w.heap.size]? = some (.cells #[.int .i64 0, .int .i64 0, .slice none 0 0] 46 (0, 0)) := (hb.block _ (by simp)).trans (heap_alloc_new w _)
  have d0 : w1.cell? ⟨w.heap.size, 0, none⟩ = some (.int .i64 0) := cell_of hby 0 _ rfl
  have d1 : w1.cell? ⟨w.heap.size, 1, none⟩ = some (.int .i64 0) := cell_of hby 1 _ rfl
  have d2 : w1.cell? ⟨w.heap.size, 2, none⟩ = some (.slice none 0 0) := cell_of hby 2 _ rfl
  have z0 : w1.frozen? ⟨w.heap.size, 0, none⟩ = false := open_list hby
  have z1 : w1.frozen? ⟨w.heap.size, 1, none⟩ = false := open_list hby
  have z2 : w1.frozen? ⟨w.heap.size, 2, none⟩ = false := open_list hby
  have HW := hide (((((unhide HB).trans (hb.mono (by simp))).setCell (p := ⟨w.heap.size, 0, none⟩) (by simp) (.int .i64 st)).setCell (p := ⟨w.heap.size, 1, none⟩) (by simp) (.int .i64 sq)).setCell (p := ⟨w.heap.size, 2, none⟩) (by simp) (.slice oa on oc))
  have HR : Hid (V.Row (((w1.setCell ⟨w.heap.size, 0, none⟩ (.int .i64 st)).setCell ⟨w.heap.size, 1, none⟩ (.int .i64 sq)).setCell ⟨w.heap.size, 2, none⟩ (.slice oa on oc)) w.heap.size (.slice oa on oc) v) := by
    have hkp : Keeps (fun k => k = w.heap.size) w1 (((w1.setCell ⟨w.heap.size, 0, none⟩ (.int .i64 st)).setCell ⟨w.heap.size, 1, none⟩ (.int .i64 sq)).setCell ⟨w.heap.size, 2, none⟩ (.slice oa on oc)) := ((keeps_one _).trans (keeps_one _)).trans (keeps_one _)
    refine V.row_base (hkp.row hrow (fun j hj e => ?_)) (by simp)
    have := ((World.ownsRow.lt hrow) j hj).1
    simp at this
    omega
  clear hb hby hrow
  have m0 : w.heap.size < w1.heap.size := by omega
  go_wp2
  exact bodyPost_ret (v := .tuple #[.agg #[.int .i64 st, .int .i64 sq, .slice oa on oc], .int .i64 er]) (by simp [results, Tryz.results16, go_sem, d0, d1, d2]) rfl ⟨⟨_, rfl, unhide HR⟩, unhide HW⟩

theorem LW.status {p : Pl} {F : Foot} {G : R.Wd} {w : World} (h : LW p F G w) (hres : ∀ (i : Nat) (c : R.Cl) (k : Nat) (l : R.Ln), G.clients[i]? = some c → c.lines[k]? = some l → l.result.length ≤ 1000) (cl ln : Int) :
    Calls Tryz.prog 16 #[ptr p.x, .int .i64 cl, .int .i64 ln] w fun e w' => (∃ O, e = stEnd (R.statusP G cl ln) O ∧ V.Row w' w.heap.size O (R.statusP G cl ln).2.2.1) ∧ Below w.heap.size w w' := by
  unfold stEnd R.statusP
  by_cases h1 : cl < 0 ∨ (G.clients.length : Int) ≤ cl
  · rw [if_pos h1]
    refine (status_face_no w p.x p.cs G.clients.length p.cap cl ln (cell_of h.bx 2 _ rfl) h1).mono ?_
    rintro e w' ⟨rfl, hb⟩
    exact ⟨⟨_, rfl, V.row_nil _ _⟩, hb⟩
  · rw [if_neg h1]
    obtain ⟨i, rfl⟩ : ∃ i : Nat, cl = (i : Int) := ⟨cl.toNat, by omega⟩
    have hi : i < G.clients.length := by omega
    have hc := List.getElem?_eq_getElem hi
    have hln := (h.wf.cl i _ hc).lines
    by_cases h2 : ln < 0 ∨ G.c.lines ≤ ln
    · rw [if_pos h2]
      refine (status_face w p.x p.cs G.clients.length p.cap (p.cb i) i ln 0 0 14 [] (cell_of h.bx 2 _ rfl) hi (h.csAt hi) ?_)
      intro w' hb
      refine (status_line_no w' (p.cb i) (p.lb i) _ ln (by omega) (clAt (h.below hb) hc).a3).mono ?_
      rintro e w'' ⟨rfl, hb'⟩
      exact ⟨⟨_, rfl, V.row_nil _ _⟩, hb'⟩
    · rw [if_neg h2]
      obtain ⟨k, rfl⟩ : ∃ k : Nat, ln = (k : Int) := ⟨ln.toNat, by omega⟩
      have hk : k < G.clients[i].lines.length := by omega
      have hl := List.getElem?_eq_getElem hk
      rw [R.lineP_some hc hl]
      refine status_face w p.x p.cs G.clients.length p.cap (p.cb i) i k _ _ 0 _ (cell_of h.bx 2 _ rfl) hi (h.csAt hi) ?_
      intro w' hb
      have h' := h.below hb
      obtain ⟨xs, x, hL, hR, hx, hx1, hla, _, hit⟩ := h'.line hc hl
      have := status_walk w' F (p.cb i) (p.lb i) _ k x _ (hres i _ k _ hc hl) hit hk (clAt h' hc).a3 hla
      rw [hx1.state, hx1.seq] at this
      exact this
end Go.Proofs.YtblomippkddgiaaGreatDoor
/-
  Rows of things: their beginnings and their ends.
-/
namespace Go.Proofs.YtblomippkddgiaaGreatDoor
open Go.RowKit

theorem tab_take {α : Type} {f : α → List Value} {n : Nat} (hf : ∀ x, (f x).length = n) : ∀ (xs : List α) (k : Nat), (tab f xs).take (k * n) = tab f (xs.take k)
  | [], k => by simp [tab]
  | x :: xs, 0 => by simp [tab]
  | x :: xs, k + 1 => by
    have ih := tab_take hf xs k
    simp only [tab, List.flatMap_cons, List.take_succ_cons] at ih ⊢
    rw [Nat.succ_mul, Nat.add_comm, ← hf x, List.take_length_add_append, hf x, ih]
theorem tab_drop {α : Type} {f : α → List Value} {n : Nat} (hf : ∀ x, (f x).length = n) : ∀ (xs : List α) (k : Nat), (tab f xs).drop (k * n) = tab f (xs.drop k)
  | [], k => by simp [tab]
  | x :: xs, 0 => by simp [tab]
  | x :: xs, k + 1 => by
    have ih := tab_drop hf xs k
    simp only [tab, List.flatMap_cons, List.drop_succ_cons] at ih ⊢
    rw [Nat.succ_mul, Nat.add_comm, ← hf x, List.drop_length_add_append, hf x, ih]
theorem tab_append {α : Type} (f : α → List Value) (xs ys : List α) : tab f (xs ++ ys) = tab f xs ++ tab f ys := by simp [tab]
end Go.Proofs.YtblomippkddgiaaGreatDoor
/-
  slices.Delete of one element, in place.
-/
namespace Go.Proofs.YtblomippkddgiaaGreatDoor
open Go.RowKit

theorem setRow_at {w : World} {g : Nat} {cur cs : Array Value} {e : TypeId} (h : w.heap[g]? = some (.cells cur e (0, 0))) : (w.setRow g cs).heap[g]? = some (.cells cs e (0, 0)) := by
  simp [World.setRow, Array.getElem?_modify, h]
theorem setRow_keeps (w : World) (g : Nat) (cs : Array Value) : Keeps (fun k => k = g) w (w.setRow g cs) := by
  refine ⟨rfl, rfl, rfl, by simp [World.setRow], fun k _ hn => ?_⟩
  simp only [World.setRow, Array.getElem?_modify]
  rw [if_neg (fun e => hn e.symm)]
theorem tab_erase {α : Type} {f : α → List Value} {n : Nat} (hf : ∀ x, (f x).length = n) (xs : List α) (i : Nat) : tab f (xs.eraseIdx i) = (tab f xs).take (i * n) ++ (tab f xs).drop ((i + 1) * n) := by
  rw [List.eraseIdx_eq_take_drop_succ, tab_append, tab_take hf, tab_drop hf]

/- what is left in the row, the tail cleared -/
theorem del_rows {L T Z : List Value} {n cap k i : Nat} (hk : 0 < k) (hL : L.length = cap * k) (hn : n ≤ cap) (hT : L.take (n * k) = T) (hi : i < n) (hZ : Z.length = k) :
    let C1 := L.take (i * k) ++ T.drop ((i + 1) * k) ++ L.drop (i * k + (T.drop ((i + 1) * k)).length)
    let C2 := C1.take ((n - 1) * k) ++ Z ++ C1.drop ((n - 1) * k + k)
    C1.length = cap * k ∧ C2.length = cap * k ∧ C2.take ((n - 1) * k) = T.take (i * k) ++ T.drop ((i + 1) * k) ∧ T.length = n * k ∧ (T.drop ((i + 1) * k)).length = (n - (i + 1)) * k := by
  have hnk : n * k ≤ cap * k := Nat.mul_le_mul_right _ hn
  have hTl : T.length = n * k := by rw [← hT, List.length_take]; omega
  have hik : (i + 1) * k ≤ n * k := Nat.mul_le_mul_right _ hi
  have hik' : (i + 1) * k = i * k + k := Nat.succ_mul i k
  have hnk' : (n - 1) * k + k = n * k := by rw [← Nat.succ_mul]; congr 1; omega
  have hd : (T.drop ((i + 1) * k)).length = (n - (i + 1)) * k := by rw [List.length_drop, hTl, Nat.sub_mul]
  have hd' : (n - (i + 1)) * k = n * k - (i + 1) * k := Nat.sub_mul _ _ _
  have hti : T.take (i * k) = L.take (i * k) := by rw [← hT, List.take_take, Nat.min_eq_left (by omega)]
  intro C1 C2
  have hC1 : C1.length = cap * k := by
    simp only [C1, List.length_append, List.length_take, List.length_drop, hL, hd] at *
    omega
  have hhead : C1.take ((n - 1) * k) = L.take (i * k) ++ T.drop ((i + 1) * k) := by
    simp only [C1]
    rw [List.take_append_of_le_length (by rw [List.length_append, List.length_take, hd, hL]; omega)]
    apply List.take_of_length_le
    rw [List.length_append, List.length_take, hd, hL]
    omega
  refine ⟨hC1, ?_, ?_, hTl, hd⟩
  · simp only [C2, List.length_append, List.length_take, List.length_drop, hC1, hZ]
    omega
  · simp only [C2]
    rw [List.append_assoc, List.take_append_of_le_length (by rw [List.length_take, hC1]; omega), List.take_take, Nat.min_self, hhead, hti]
end Go.Proofs.YtblomippkddgiaaGreatDoor
