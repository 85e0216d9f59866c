/-
  The law's 'grow': its walk, up to a node's letter and digit.
-/
import Derived.Test.YtblomippkddgiaaVGrowC
import Derived.Test.YtblomippkddgiaaVGrowG
namespace Go.Proofs.Ytblomippkddgiaa.V
open Go.RowKit

theorem use_act6 {P : Program} {code : Code} {Q : Exit → Act → World → Prop} {W : World} {tb rb A n : Nat} {dv kv r6 : Value} (T : Array Value) (h : ∀ u : Nat → Value, Code.wp P code Q (growAct tb rb A n dv kv r6 u) W) (he : T = (growAct tb rb A n dv kv r6 (fun i => T.getD i undef)).tmps) : Code.wp P code Q { tmps := T, defers := [] } W := by
  have h2 := h (fun i => T.getD i undef)
  have h3 : ({ tmps := T, defers := [] } : Act) = growAct tb rb A n dv kv r6 (fun i => T.getD i undef) := by
    conv => lhs; rw [he]
  rw [h3]
  exact h2
def letterN (k : Nat) : Nat := [98, 99, 105, 101, 101, 97, 113, 114, 117].getD k 0
theorem letter_at : ∀ (k : Nat) (h : k < (⟨#[98, 99, 105, 101, 101, 97, 113, 114, 117]⟩ : ByteArray).size), ((⟨#[98, 99, 105, 101, 101, 97, 113, 114, 117]⟩ : ByteArray)[k]'h).toNat = letterN k := by decide +kernel
theorem Gs.drew {w0 : World} {tb rb : Nat} {V : Value} {P : List Nd} {NV : Value} {m : Nat} {w : World} (h : Gs w0 tb rb V P NV m w) : Gs w0 tb rb V P NV m w.drew :=
  ⟨⟨h.tree.cell, h.tree.row, h.tree.kids, h.tree.b0, h.tree.sep, h.tree.sepk⟩, h.raw, h.sep, h.below.drew⟩
/- what is asked of the rest -/
def RestSaid (w0 w : World) (tb rb : Nat) (V : Value) (P : List Nd) (NV : Value) (m D n : Nat) : Prop := ∀ (N1 : Value) (A j kf : Nat) (W : World) (u : Nat → Value), kf < 9 → j < 9 → (kf ≤ 4 ∨ (D ≠ 0 ∧ n ≤ 5)) → GL w0 w tb rb V P NV (m + 1 + 1) A (letterN kf) (1 + j) D W (P ++ [zeroNd]) N1 (m + 1 + 1) (.slice none 0 0) [] →
  Code.wp Try.prog (growRest Try.f18) (bodyPost Try.prog Try.f18 (GrowPost w0 w tb rb V P NV m (D + 1))) (growAct tb rb A n (.int .i64 ((D : Int) + 1)) (.int .i64 kf) (.int .i64 0) u) W

set_option maxRecDepth 100000 in
set_option maxHeartbeats 4000000 in
theorem grow_zero (w0 w : World) (tb rb : Nat) (V : Value) (P : List Nd) (NV : Value) (m D : Nat) (hV : RawOk w0 V) (hr0 : w0.heap.size ≤ rb) (hG : Gs w0 tb rb V P NV m w) (hP : P.length ≤ 8) (hD : D ≤ 3) (hm : m + 10 ^ (D + 1) ≤ 1000000) (HREST : RestSaid w0 w tb rb V P NV m D P.length) (hD0 : D = 0) :
    Calls Try.prog 18 #[.pointer (some ⟨tb, 0, none⟩), .pointer (some ⟨rb, 0, none⟩), .int .i64 ((D : Int) + 1)] w (GrowPost w0 w tb rb V P NV m (D + 1)) := by
  subst hD0
  obtain ⟨j0, hj0, hz0, hz1, hz2⟩ := info_parts info78
  obtain ⟨na, nn, nc, hsh⟩ := row_shape hG.tree.row
  subst hsh
  have hnn : nn = P.length := by
    rcases hG.tree.row.2 with ⟨hv, h0⟩ | ⟨g, cap, cur, hv, _⟩
    · cases hv
      omega
    · cases hv
      rfl
  subst hnn
  have t0 : w.cell? ⟨tb, 0, none⟩ = some (.slice na P.length nc) := by simp [World.cell?, hG.tree.cell]
  have how := hG.tree.row
  have htl := lt_of_block hG.tree.cell
  have h0 := hG.below.size
  have HG := hide hG
  have HV := hide hV
  have hms : m ≤ 999990 := by
    have h1 := ten_pow 0
    omega
  obtain ⟨n, hn⟩ : ∃ n, n = P.length := ⟨_, rfl⟩
  have HNN := hide hn
  have HRE := hide (show RestSaid w0 w tb rb V P (.slice na P.length nc) m 0 n by rw [hn]; exact HREST)
  rw [← hn] at t0 how hP
  clear hG hV hm hn HREST
  go_enter Try.func18, Try.ntmps18
  go_wp2_with (at_builtin; go_must (refine wpList_append_own_at _ rfl (.tmp 19) (.tmp 21) 47 rfl w0.heap.size 90 j0 _ 3 40 Try.underlying47 hj0 hz0 hz1 hz2 rfl (by decide) _ n (nflat P) rfl (by exact how.alloc _) ⟨w.heap.size, 0, none⟩ 1 1 [.int .u8 0, .int .i64 0, .slice none 0 0] rfl rfl (by exact cells_three w) three_one (by unfold maxLen; omega) (by omega) (by simp; omega) ?_))
  intro N1 w2 hown hgrow _ hat
  obtain ⟨ta, tn, tc, hts⟩ := row_shape hown
  subst hts
  rw [unhide HNN] at hown
  obtain ⟨hc2, hgs, hwf⟩ := gs_push (unhide HG) hown (by rw [← unhide HNN]; exact hgrow) (by rw [← unhide HNN]; simpa using hat)
  have k1 : w2.cell? ⟨tb, 0, none⟩ = some (.slice na n nc) := by rw [unhide HNN]; simp [World.cell?, hc2]
  have k2 : w2.frozen? ⟨tb, 0, none⟩ = false := by simp [World.frozen?, hc2]
  have HG2 := hide hgs
  have HW2 := hide hwf
  clear hown hgrow hat hgs hwf how t0 hc2
  go_wp2_with fail
  generalize w2.setCell ⟨tb, 0, none⟩ (.slice ta tn tc) = W2 at *
  refine (rawNext_any w0 W2 rb V m 9 (unhide HV) (unhide HG2).below hr0 (unhide HG2).raw (by omega) (by omega) (by omega)).mono ?_
  rintro e wa ⟨⟨k, hk, rfl⟩, hx⟩
  obtain ⟨hga, hwa⟩ := (unhide HG2).next hx
  have HGA := hide hga.drew
  have HWA := hide (((unhide HW2).trans hwa).above (w'' := wa.drew) (Nat.le_refl _) (fun _ _ => rfl))
  have HGZ := hide (gl_start (c := 0) (d := 0) (D := 0) (A := wa.heap.size) hga ((unhide HW2).trans hwa) (by rw [← unhide HNN]; exact hP) rfl (Nat.le_refl _) h0).drew
  have hrl : rb < wa.heap.size := lt_of_block hga.raw
  have hne : wa.heap.size ≠ rb := by omega
  have hP8 : P.length ≤ 8 := by rw [← unhide HNN]; exact hP
  have HP8 := hide hP8
  clear hx hga hwa HG2 HW2 k1 k2 hP8
  have hk5 : (k : Int) % 5 = ((k % 5 : Nat) : Int) := by omega
  have hkf : k % 5 < 5 := Nat.mod_lt _ (by omega)
  generalize k % 5 = kf at hk5 hkf
  have hk9 : kf < 9 := by omega
  have hk9' : (kf : Int) < 9 := by omega
  have hlet := letter_at kf hk9
  go_wp2_with fail
  rename_i K hK
  go_region_with (go_at_call 43; refine (rawNext_any w0 _ rb V (m + 1) 9 (unhide HV) ?_ hr0 ?_ ?_ ?_ ?_).mono ?_; (first | exact (unhide HGA).below | exact (unhide HGZ).gs.below); (first | exact (unhide HGA).raw | exact (unhide HGZ).gs.raw); omega; omega; omega; rintro e wb ⟨⟨j, hj, rfl⟩, hx⟩; have hwj : IntKind.i64.wrap (1 + (j : Int)) = 1 + (j : Int) := (by rw [IntKind.wrap_i64]; omega); first | (have HGL := hide (fun c d => gl_cells ((unhide HGZ).next hx) c d); have hz := zero_cell hx hne (unhide HGZ).bx.box; obtain ⟨q0, q1, q2, q3, q4, q5⟩ := hz) | (have hgb := (unhide HGA).next hx; have HGL := hide (fun (c d : Nat) => gl_start (c := c) (d := d) (D := 0) (A := wb.heap.size) (M := m + 1 + 1) hgb.1 ((unhide HWA).trans hgb.2) (unhide HP8) rfl (Nat.le_refl _) h0); clear hgb))
  all_goals
    show K _ _
    refine hK _ _ ?_
    have hg := (unhide HGL) (letterN kf) (1 + j)
    refine use_act6 _ (fun u => (unhide HRE) _ _ j kf _ u hk9 hj (Or.inl (by omega)) hg) ?_
    rfl

set_option maxRecDepth 100000 in
set_option maxHeartbeats 4000000 in
theorem grow_late (w0 w : World) (tb rb : Nat) (V : Value) (P : List Nd) (NV : Value) (m D : Nat) (hV : RawOk w0 V) (hr0 : w0.heap.size ≤ rb) (hG : Gs w0 tb rb V P NV m w) (hP : P.length ≤ 8) (_hD : D ≤ 3) (hm : m + 10 ^ (D + 1) ≤ 1000000) (HREST : RestSaid w0 w tb rb V P NV m D P.length) (hD0 : ¬ D = 0) (h5 : 5 < P.length) :
    Calls Try.prog 18 #[.pointer (some ⟨tb, 0, none⟩), .pointer (some ⟨rb, 0, none⟩), .int .i64 ((D : Int) + 1)] w (GrowPost w0 w tb rb V P NV m (D + 1)) := by
  obtain ⟨j0, hj0, hz0, hz1, hz2⟩ := info_parts info78
  obtain ⟨na, nn, nc, hsh⟩ := row_shape hG.tree.row
  subst hsh
  have hnn : nn = P.length := by
    rcases hG.tree.row.2 with ⟨hv, h0⟩ | ⟨g, cap, cur, hv, _⟩
    · cases hv
      omega
    · cases hv
      rfl
  subst hnn
  have t0 : w.cell? ⟨tb, 0, none⟩ = some (.slice na P.length nc) := by simp [World.cell?, hG.tree.cell]
  have how := hG.tree.row
  have htl := lt_of_block hG.tree.cell
  have h0 := hG.below.size
  have HG := hide hG
  have HV := hide hV
  have hms : m ≤ 999990 := by
    have h1 := ten_pow D
    omega
  obtain ⟨n, hn⟩ : ∃ n, n = P.length := ⟨_, rfl⟩
  have HNN := hide hn
  have HRE := hide (show RestSaid w0 w tb rb V P (.slice na P.length nc) m D n by rw [hn]; exact HREST)
  rw [← hn] at t0 how hP h5
  clear hG hV hm hn HREST
  go_enter Try.func18, Try.ntmps18
  go_wp2_with (at_builtin; go_must (refine wpList_append_own_at _ rfl (.tmp 19) (.tmp 21) 47 rfl w0.heap.size 90 j0 _ 3 40 Try.underlying47 hj0 hz0 hz1 hz2 rfl (by decide) _ n (nflat P) rfl (by exact how.alloc _) ⟨w.heap.size, 0, none⟩ 1 1 [.int .u8 0, .int .i64 0, .slice none 0 0] rfl rfl (by exact cells_three w) three_one (by unfold maxLen; omega) (by omega) (by simp; omega) ?_))
  intro N1 w2 hown hgrow _ hat
  obtain ⟨ta, tn, tc, hts⟩ := row_shape hown
  subst hts
  rw [unhide HNN] at hown
  obtain ⟨hc2, hgs, hwf⟩ := gs_push (unhide HG) hown (by rw [← unhide HNN]; exact hgrow) (by rw [← unhide HNN]; simpa using hat)
  have k1 : w2.cell? ⟨tb, 0, none⟩ = some (.slice na n nc) := by rw [unhide HNN]; simp [World.cell?, hc2]
  have k2 : w2.frozen? ⟨tb, 0, none⟩ = false := by simp [World.frozen?, hc2]
  have HG2 := hide hgs
  have HW2 := hide hwf
  clear hown hgrow hat hgs hwf how t0 hc2
  go_wp2_with fail
  generalize w2.setCell ⟨tb, 0, none⟩ (.slice ta tn tc) = W2 at *
  refine (rawNext_any w0 W2 rb V m 9 (unhide HV) (unhide HG2).below hr0 (unhide HG2).raw (by omega) (by omega) (by omega)).mono ?_
  rintro e wa ⟨⟨k, hk, rfl⟩, hx⟩
  obtain ⟨hga, hwa⟩ := (unhide HG2).next hx
  have HGA := hide hga.drew
  have HWA := hide (((unhide HW2).trans hwa).above (w'' := wa.drew) (Nat.le_refl _) (fun _ _ => rfl))
  have HGZ := hide (gl_start (c := 0) (d := 0) (D := D) (A := wa.heap.size) hga ((unhide HW2).trans hwa) (by rw [← unhide HNN]; exact hP) rfl (Nat.le_refl _) h0).drew
  have hrl : rb < wa.heap.size := lt_of_block hga.raw
  have hne : wa.heap.size ≠ rb := by omega
  have hP8 : P.length ≤ 8 := by rw [← unhide HNN]; exact hP
  have HP8 := hide hP8
  clear hx hga hwa HG2 HW2 k1 k2 hP8
  have h5' : (5 : Int) < (n : Int) := by omega
  have hk5 : (k : Int) % 5 = ((k % 5 : Nat) : Int) := by omega
  have hkf : k % 5 < 5 := Nat.mod_lt _ (by omega)
  generalize k % 5 = kf at hk5 hkf
  have hk9 : kf < 9 := by omega
  have hk9' : (kf : Int) < 9 := by omega
  have hlet := letter_at kf hk9
  go_wp2_with fail
  rename_i K hK
  go_region_with (go_at_call 43; refine (rawNext_any w0 _ rb V (m + 1) 9 (unhide HV) ?_ hr0 ?_ ?_ ?_ ?_).mono ?_; (first | exact (unhide HGA).below | exact (unhide HGZ).gs.below); (first | exact (unhide HGA).raw | exact (unhide HGZ).gs.raw); omega; omega; omega; rintro e wb ⟨⟨j, hj, rfl⟩, hx⟩; have hwj : IntKind.i64.wrap (1 + (j : Int)) = 1 + (j : Int) := (by rw [IntKind.wrap_i64]; omega); first | (have HGL := hide (fun c d => gl_cells ((unhide HGZ).next hx) c d); have hz := zero_cell hx hne (unhide HGZ).bx.box; obtain ⟨q0, q1, q2, q3, q4, q5⟩ := hz) | (have hgb := (unhide HGA).next hx; have HGL := hide (fun (c d : Nat) => gl_start (c := c) (d := d) (D := D) (A := wb.heap.size) (M := m + 1 + 1) hgb.1 ((unhide HWA).trans hgb.2) (unhide HP8) rfl (Nat.le_refl _) h0); clear hgb))
  all_goals
    show K _ _
    refine hK _ _ ?_
    have hg := (unhide HGL) (letterN kf) (1 + j)
    refine use_act6 _ (fun u => (unhide HRE) _ _ j kf _ u hk9 hj (Or.inl (by omega)) hg) ?_
    rfl

set_option maxRecDepth 100000 in
set_option maxHeartbeats 4000000 in
theorem grow_early (w0 w : World) (tb rb : Nat) (V : Value) (P : List Nd) (NV : Value) (m D : Nat) (hV : RawOk w0 V) (hr0 : w0.heap.size ≤ rb) (hG : Gs w0 tb rb V P NV m w) (hP : P.length ≤ 8) (_hD : D ≤ 3) (hm : m + 10 ^ (D + 1) ≤ 1000000) (HREST : RestSaid w0 w tb rb V P NV m D P.length) (hD0 : ¬ D = 0) (h5 : ¬ 5 < P.length) :
    Calls Try.prog 18 #[.pointer (some ⟨tb, 0, none⟩), .pointer (some ⟨rb, 0, none⟩), .int .i64 ((D : Int) + 1)] w (GrowPost w0 w tb rb V P NV m (D + 1)) := by
  obtain ⟨j0, hj0, hz0, hz1, hz2⟩ := info_parts info78
  obtain ⟨na, nn, nc, hsh⟩ := row_shape hG.tree.row
  subst hsh
  have hnn : nn = P.length := by
    rcases hG.tree.row.2 with ⟨hv, h0⟩ | ⟨g, cap, cur, hv, _⟩
    · cases hv
      omega
    · cases hv
      rfl
  subst hnn
  have t0 : w.cell? ⟨tb, 0, none⟩ = some (.slice na P.length nc) := by simp [World.cell?, hG.tree.cell]
  have how := hG.tree.row
  have htl := lt_of_block hG.tree.cell
  have h0 := hG.below.size
  have HG := hide hG
  have HV := hide hV
  have hms : m ≤ 999990 := by
    have h1 := ten_pow D
    omega
  obtain ⟨n, hn⟩ : ∃ n, n = P.length := ⟨_, rfl⟩
  have HNN := hide hn
  have HRE := hide (show RestSaid w0 w tb rb V P (.slice na P.length nc) m D n by rw [hn]; exact HREST)
  rw [← hn] at t0 how hP h5
  clear hG hV hm hn HREST
  go_enter Try.func18, Try.ntmps18
  go_wp2_with (at_builtin; go_must (refine wpList_append_own_at _ rfl (.tmp 19) (.tmp 21) 47 rfl w0.heap.size 90 j0 _ 3 40 Try.underlying47 hj0 hz0 hz1 hz2 rfl (by decide) _ n (nflat P) rfl (by exact how.alloc _) ⟨w.heap.size, 0, none⟩ 1 1 [.int .u8 0, .int .i64 0, .slice none 0 0] rfl rfl (by exact cells_three w) three_one (by unfold maxLen; omega) (by omega) (by simp; omega) ?_))
  intro N1 w2 hown hgrow _ hat
  obtain ⟨ta, tn, tc, hts⟩ := row_shape hown
  subst hts
  rw [unhide HNN] at hown
  obtain ⟨hc2, hgs, hwf⟩ := gs_push (unhide HG) hown (by rw [← unhide HNN]; exact hgrow) (by rw [← unhide HNN]; simpa using hat)
  have k1 : w2.cell? ⟨tb, 0, none⟩ = some (.slice na n nc) := by rw [unhide HNN]; simp [World.cell?, hc2]
  have k2 : w2.frozen? ⟨tb, 0, none⟩ = false := by simp [World.frozen?, hc2]
  have HG2 := hide hgs
  have HW2 := hide hwf
  clear hown hgrow hat hgs hwf how t0 hc2
  go_wp2_with fail
  generalize w2.setCell ⟨tb, 0, none⟩ (.slice ta tn tc) = W2 at *
  refine (rawNext_any w0 W2 rb V m 9 (unhide HV) (unhide HG2).below hr0 (unhide HG2).raw (by omega) (by omega) (by omega)).mono ?_
  rintro e wa ⟨⟨k, hk, rfl⟩, hx⟩
  obtain ⟨hga, hwa⟩ := (unhide HG2).next hx
  have HGA := hide hga.drew
  have HWA := hide (((unhide HW2).trans hwa).above (w'' := wa.drew) (Nat.le_refl _) (fun _ _ => rfl))
  have HGZ := hide (gl_start (c := 0) (d := 0) (D := D) (A := wa.heap.size) hga ((unhide HW2).trans hwa) (by rw [← unhide HNN]; exact hP) rfl (Nat.le_refl _) h0).drew
  have hrl : rb < wa.heap.size := lt_of_block hga.raw
  have hne : wa.heap.size ≠ rb := by omega
  have hP8 : P.length ≤ 8 := by rw [← unhide HNN]; exact hP
  have HP8 := hide hP8
  clear hx hga hwa HG2 HW2 k1 k2 hP8
  have h5' : ¬ (5 : Int) < (n : Int) := by omega
  have hd1 : ((D : Int) + 1 == 1) = false := by simp; omega
  have hd2 : ¬ (D : Int) = 0 := by omega
  have hd3 : ¬ (D : Int) + 1 = 1 := by omega
  obtain ⟨kf, hkf⟩ : ∃ kf, kf = k := ⟨_, rfl⟩
  subst hkf
  have hk9 : kf < 9 := hk
  have hk9' : (kf : Int) < 9 := by omega
  have hlet := letter_at kf hk9
  go_wp2_with fail
  rename_i K hK
  go_region_with (go_at_call 43; refine (rawNext_any w0 _ rb V (m + 1) 9 (unhide HV) ?_ hr0 ?_ ?_ ?_ ?_).mono ?_; (first | exact (unhide HGA).below | exact (unhide HGZ).gs.below); (first | exact (unhide HGA).raw | exact (unhide HGZ).gs.raw); omega; omega; omega; rintro e wb ⟨⟨j, hj, rfl⟩, hx⟩; have hwj : IntKind.i64.wrap (1 + (j : Int)) = 1 + (j : Int) := (by rw [IntKind.wrap_i64]; omega); first | (have HGL := hide (fun c d => gl_cells ((unhide HGZ).next hx) c d); have hz := zero_cell hx hne (unhide HGZ).bx.box; obtain ⟨q0, q1, q2, q3, q4, q5⟩ := hz) | (have hgb := (unhide HGA).next hx; have HGL := hide (fun (c d : Nat) => gl_start (c := c) (d := d) (D := D) (A := wb.heap.size) (M := m + 1 + 1) hgb.1 ((unhide HWA).trans hgb.2) (unhide HP8) rfl (Nat.le_refl _) h0); clear hgb))
  all_goals
    show K _ _
    refine hK _ _ ?_
    have hg := (unhide HGL) (letterN kf) (1 + j)
    refine use_act6 _ (fun u => (unhide HRE) _ _ j kf _ u hk9 hj (Or.inr ⟨hD0, by omega⟩) hg) ?_
    rfl

end Go.Proofs.Ytblomippkddgiaa.V

/-
  The law's 'grow': it grows a type.
-/
namespace Go.Proofs.Ytblomippkddgiaa.V
open Go.RowKit

theorem rest_all (w0 w : World) (tb rb : Nat) (V : Value) (P : List Nd) (NV : Value) (m D : Nat) (hV : RawOk w0 V) (hr0 : w0.heap.size ≤ rb) (hG : D ≠ 0 → GrowSaid w0 tb rb V D) (hD : D ≤ 3) (hm : m + 10 ^ (D + 1) ≤ 1000000) : RestSaid w0 w tb rb V P NV m D P.length := by
  intro N1 A j kf W u hk9 hj hcase hgl
  obtain ⟨tp, tp1⟩ := ten_pow D
  have hM : m + 1 + 1 ≤ m + 10 ^ (D + 1) := by omega
  have hcs : kf = 0 ∨ kf = 1 ∨ kf = 2 ∨ kf = 3 ∨ kf = 4 ∨ kf = 5 ∨ kf = 6 ∨ kf = 7 ∨ kf = 8 := by omega
  have hbig : 4 < kf → GrowSaid w0 tb rb V D ∧ (P ++ [zeroNd]).length ≤ 8 ∧ 10 ≤ 10 ^ D := fun h => by
    rcases hcase with h' | ⟨h1, h2⟩
    · omega
    · refine ⟨hG h1, by rw [List.length_append]; simp only [List.length_singleton]; omega, ?_⟩
      obtain ⟨d, rfl⟩ : ∃ d, D = d + 1 := ⟨D - 1, by omega⟩
      have := ten_pow d
      omega
  rcases hcs with rfl | rfl | rfl | rfl | rfl | rfl | rfl | rfl | rfl
  · exact rest_b w0 w tb rb V P NV m _ A _ D W _ N1 _ _ u hgl hM
  · exact rest_c w0 w tb rb V P NV m _ A _ D W _ N1 _ _ u hgl hM
  · exact rest_i w0 w tb rb V P NV m _ A _ D W _ N1 _ _ u hgl hM
  · exact rest_s w0 w tb rb V P NV m _ A _ D W _ N1 _ _ u hgl hM
  · exact rest_e w0 w tb rb V P NV m _ A _ D W _ N1 _ _ u hgl hM (by omega) (by omega)
  · obtain ⟨h1, h2, h3⟩ := hbig (by omega)
    exact rest_a w0 w tb rb V P NV m _ A _ D W _ N1 _ u none 0 hV hr0 h1 hgl h2 hD (by omega) (by omega)
  · obtain ⟨h1, h2, h3⟩ := hbig (by omega)
    exact rest_q w0 w tb rb V P NV m _ A _ D W _ N1 _ u none 0 hV hr0 h1 hgl h2 hD (by omega) (by omega)
  · obtain ⟨h1, h2, h3⟩ := hbig (by omega)
    exact rest_r w0 w tb rb V P NV m _ A _ D W _ N1 _ u none 0 hV hr0 h1 hgl h2 hD (by omega) (by omega)
  · obtain ⟨h1, h2, h3⟩ := hbig (by omega)
    exact rest_u w0 w tb rb V P NV m _ A _ D W _ N1 _ u none 0 hV hr0 h1 hgl h2 hD (by omega) (by omega)

theorem grow_any (w0 : World) (tb rb : Nat) (V : Value) (hV : RawOk w0 V) (hr0 : w0.heap.size ≤ rb) : ∀ D, D ≤ 3 → GrowSaid w0 tb rb V (D + 1) := by
  intro D
  induction D with
  | zero =>
    intro hD P NV m w hG hP hm
    exact grow_zero w0 w tb rb V P NV m 0 hV hr0 hG hP hD hm (rest_all w0 w tb rb V P NV m 0 hV hr0 (fun h => absurd rfl h) hD hm) rfl
  | succ D ih =>
    intro hD P NV m w hG hP hm
    have hR := rest_all w0 w tb rb V P NV m (D + 1) hV hr0 (fun _ => ih (by omega)) hD hm
    by_cases h5 : 5 < P.length
    · exact grow_late w0 w tb rb V P NV m (D + 1) hV hr0 hG hP hD hm hR (by omega) h5
    · exact grow_early w0 w tb rb V P NV m (D + 1) hV hr0 hG hP hD hm hR (by omega) h5

end Go.Proofs.Ytblomippkddgiaa.V
