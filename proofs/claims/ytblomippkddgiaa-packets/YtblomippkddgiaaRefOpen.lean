/-
  The document's own Open.
-/
import Derived.Test.YtblomippkddgiaaRefSeal
namespace Go.Proofs.Ytblomippkddgiaa
open Go.RowKit

abbrev openEnd (r : Option Pk) : Ending := match r with
  | none => .returned (.tuple #[zeroP, .int .i64 7])
  | some p => .returned (.tuple #[pv p, .int .i64 0])

theorem u8_wrap (c : UInt8) : IntKind.i64.wrap (c.toNat : Int) = (c.toNat : Int) := by
  have := c.toNat_lt
  rw [IntKind.wrap_i64]
  omega
theorem mul_wrap (c : UInt8) : IntKind.i64.wrap (256 * (c.toNat : Int)) = 256 * (c.toNat : Int) := by
  have := c.toNat_lt
  rw [IntKind.wrap_i64]
  omega
theorem add_wrap (a c : UInt8) : IntKind.i64.wrap (256 * (a.toNat : Int) + (c.toNat : Int)) = 256 * (a.toNat : Int) + (c.toNat : Int) := by
  have := a.toNat_lt
  have := c.toNat_lt
  rw [IntKind.wrap_i64]
  omega

set_option maxRecDepth 100000 in
set_option maxHeartbeats 1000000 in
theorem refOpen_short (S : ByteArray) (w : World) (h : (S.size : Int) < 13) : Calls Try.prog 50 #[.string S] w fun e w' => e = .returned (.tuple #[zeroP, .int .i64 7]) ∧ Below w.heap.size w w' := by
  go_enter Try.func50, Try.ntmps50
  go_wp2
  refine bodyPost_ret (v := .tuple #[zeroP, .int .i64 7]) (by simp [results, Try.results50, go_sem]) rfl ⟨rfl, (Below.refl _ _).alloc (Nat.le_refl _) _⟩

def openQ (S : ByteArray) (r : Bool) (ST : ByteArray) (v : Value) (w : World) : Ending → World → Prop := fun e w' => e = .returned (if r = true ∧ ST = S then .tuple #[v, .int .i64 0] else .tuple #[zeroP, .int .i64 7]) ∧ Below w.heap.size w w'

abbrev opened (S : ByteArray) (h13 : 13 ≤ S.size) : Array Value := #[.int .i64 ((S[0]'(Nat.lt_of_lt_of_le (by decide) h13)).toNat : Int), .int .i64 ((S[1]'(Nat.lt_of_lt_of_le (by decide) h13)).toNat : Int), .int .i64 ((S[2]'(Nat.lt_of_lt_of_le (by decide) h13)).toNat : Int), .int .i64 ((S[3]'(Nat.lt_of_lt_of_le (by decide) h13)).toNat : Int), .int .i64 (256 * ((S[4]'(Nat.lt_of_lt_of_le (by decide) h13)).toNat : Int) + ((S[5]'(Nat.lt_of_lt_of_le (by decide) h13)).toNat : Int)), .int .i64 ((S[6]'(Nat.lt_of_lt_of_le (by decide) h13)).toNat : Int), .int .i64 ((S[7]'(Nat.lt_of_lt_of_le (by decide) h13)).toNat : Int), .int .i64 ((S[8]'(Nat.lt_of_lt_of_le (by decide) h13)).toNat : Int), .bool (((S[9]'(Nat.lt_of_lt_of_le (by decide) h13)).toNat : Int) == 1), .string (S.extract 11 (S.size - 2))]

set_option maxRecDepth 100000 in
set_option maxHeartbeats 4000000 in
theorem refOpen_long (S ST : ByteArray) (r : Bool) (w : World) (h13 : 13 ≤ S.size) (hm : (S.size : Int) ≤ 9223372036854775807)
    (H69 : ∀ w, Calls Try.prog 69 #[.agg #[.int .i64 ((S[0]'(Nat.lt_of_lt_of_le (by decide) h13)).toNat : Int), .int .i64 ((S[1]'(Nat.lt_of_lt_of_le (by decide) h13)).toNat : Int), .int .i64 ((S[2]'(Nat.lt_of_lt_of_le (by decide) h13)).toNat : Int), .int .i64 ((S[3]'(Nat.lt_of_lt_of_le (by decide) h13)).toNat : Int), .int .i64 (256 * ((S[4]'(Nat.lt_of_lt_of_le (by decide) h13)).toNat : Int) + ((S[5]'(Nat.lt_of_lt_of_le (by decide) h13)).toNat : Int)), .int .i64 ((S[6]'(Nat.lt_of_lt_of_le (by decide) h13)).toNat : Int), .int .i64 ((S[7]'(Nat.lt_of_lt_of_le (by decide) h13)).toNat : Int), .int .i64 ((S[8]'(Nat.lt_of_lt_of_le (by decide) h13)).toNat : Int), .bool (((S[9]'(Nat.lt_of_lt_of_le (by decide) h13)).toNat : Int) == 1), .string (S.extract 11 (S.size - 2))]] w (saysR r w))
    (H70 : r = true → ∀ w, Calls Try.prog 70 #[.agg #[.int .i64 ((S[0]'(Nat.lt_of_lt_of_le (by decide) h13)).toNat : Int), .int .i64 ((S[1]'(Nat.lt_of_lt_of_le (by decide) h13)).toNat : Int), .int .i64 ((S[2]'(Nat.lt_of_lt_of_le (by decide) h13)).toNat : Int), .int .i64 ((S[3]'(Nat.lt_of_lt_of_le (by decide) h13)).toNat : Int), .int .i64 (256 * ((S[4]'(Nat.lt_of_lt_of_le (by decide) h13)).toNat : Int) + ((S[5]'(Nat.lt_of_lt_of_le (by decide) h13)).toNat : Int)), .int .i64 ((S[6]'(Nat.lt_of_lt_of_le (by decide) h13)).toNat : Int), .int .i64 ((S[7]'(Nat.lt_of_lt_of_le (by decide) h13)).toNat : Int), .int .i64 ((S[8]'(Nat.lt_of_lt_of_le (by decide) h13)).toNat : Int), .bool (((S[9]'(Nat.lt_of_lt_of_le (by decide) h13)).toNat : Int) == 1), .string (S.extract 11 (S.size - 2))]] w fun e w' => e = .returned (.string ST) ∧ Below w.heap.size w w') :
    Calls Try.prog 50 #[.string S] w (openQ S r ST (.agg #[.int .i64 ((S[0]'(Nat.lt_of_lt_of_le (by decide) h13)).toNat : Int), .int .i64 ((S[1]'(Nat.lt_of_lt_of_le (by decide) h13)).toNat : Int), .int .i64 ((S[2]'(Nat.lt_of_lt_of_le (by decide) h13)).toNat : Int), .int .i64 ((S[3]'(Nat.lt_of_lt_of_le (by decide) h13)).toNat : Int), .int .i64 (256 * ((S[4]'(Nat.lt_of_lt_of_le (by decide) h13)).toNat : Int) + ((S[5]'(Nat.lt_of_lt_of_le (by decide) h13)).toNat : Int)), .int .i64 ((S[6]'(Nat.lt_of_lt_of_le (by decide) h13)).toNat : Int), .int .i64 ((S[7]'(Nat.lt_of_lt_of_le (by decide) h13)).toNat : Int), .int .i64 ((S[8]'(Nat.lt_of_lt_of_le (by decide) h13)).toNat : Int), .bool (((S[9]'(Nat.lt_of_lt_of_le (by decide) h13)).toNat : Int) == 1), .string (S.extract 11 (S.size - 2))]) w) := by
  have K69 := hide H69
  have K70 := hide H70
  obtain ⟨W, hW⟩ : ∃ W, w.alloc (.cells zeroCells 59) = W := ⟨_, rfl⟩
  have HW := hide hW
  have HWS : Hid (W.heap.size = w.heap.size + 1) := by
    rw [← hW]
    show _ = _
    simp
  have HWZ : Hid (W.heap[w.heap.size]? = some (.cells zeroCells 59 (0, 0))) := by
    rw [← hW]
    exact heap_alloc_new w _
  have HWB : Hid (Below w.heap.size w W) := by
    rw [← hW]
    exact (Below.refl _ _).alloc (Nat.le_refl _) _
  clear hW H69 H70
  have h : ¬ (S.size : Int) < 13 := by omega
  have H13 := hide h13
  have hq : IntKind.i64.wrap ((S.size : Int) - 2) = (S.size : Int) - 2 := by rw [IntKind.wrap_i64]; omega
  have hq1 : (11 : Int) ≤ (S.size : Int) - 2 := by omega
  have hq2 : (S.size : Int) - 2 ≤ (S.size : Int) := by omega
  have l0 : 0 < S.size := by omega
  have l1 : (1 : Int) < (S.size : Int) := by omega
  have l2 : (2 : Int) < (S.size : Int) := by omega
  have l3 : (3 : Int) < (S.size : Int) := by omega
  have l4 : (4 : Int) < (S.size : Int) := by omega
  have l5 : (5 : Int) < (S.size : Int) := by omega
  have l6 : (6 : Int) < (S.size : Int) := by omega
  have l7 : (7 : Int) < (S.size : Int) := by omega
  have l8 : (8 : Int) < (S.size : Int) := by omega
  have l9 : (9 : Int) < (S.size : Int) := by omega
  have hq3 : (0 : Int) ≤ (S.size : Int) - 2 := by omega
  obtain ⟨post, hpost⟩ : ∃ post, openQ S r ST (.agg #[.int .i64 ((S[0]'(Nat.lt_of_lt_of_le (by decide) h13)).toNat : Int), .int .i64 ((S[1]'(Nat.lt_of_lt_of_le (by decide) h13)).toNat : Int), .int .i64 ((S[2]'(Nat.lt_of_lt_of_le (by decide) h13)).toNat : Int), .int .i64 ((S[3]'(Nat.lt_of_lt_of_le (by decide) h13)).toNat : Int), .int .i64 (256 * ((S[4]'(Nat.lt_of_lt_of_le (by decide) h13)).toNat : Int) + ((S[5]'(Nat.lt_of_lt_of_le (by decide) h13)).toNat : Int)), .int .i64 ((S[6]'(Nat.lt_of_lt_of_le (by decide) h13)).toNat : Int), .int .i64 ((S[7]'(Nat.lt_of_lt_of_le (by decide) h13)).toNat : Int), .int .i64 ((S[8]'(Nat.lt_of_lt_of_le (by decide) h13)).toNat : Int), .bool (((S[9]'(Nat.lt_of_lt_of_le (by decide) h13)).toNat : Int) == 1), .string (S.extract 11 (S.size - 2))]) w = post := ⟨_, rfl⟩
  have HP := hide hpost
  rw [hpost]
  clear hpost
  go_enter Try.func50, Try.ntmps50
  go_wp2_with fail
  rw [unhide HW]
  refine wp_region_any (by kernel_rfl) ?_
  try (change wpAny _ _ _ _ _ _ _ (World.drew _))
  refine wpAny_take (i := 0) (v := ?_) rfl (by kernel_rfl) (by kernel_rfl) (by kernel_rfl) (fun _ _ _ h => h) (Or.inl ⟨by rfl, ?_⟩) ?_
  rotate_left
  · intro w
    go_simp
    try with_reducible rfl
  simp only [Act.put, List.setIfInBounds_toArray, List.set_cons_zero, List.set_cons_succ, List.getElem_toArray, List.getElem_cons_zero]
  refine wpAny_take (i := 1) (v := ?_) rfl (by kernel_rfl) (by kernel_rfl) (by kernel_rfl) (fun _ _ _ h => h) (Or.inl ⟨by rfl, ?_⟩) ?_
  rotate_left
  · intro w
    go_simp
    try with_reducible rfl
  simp only [Act.put, List.setIfInBounds_toArray, List.set_cons_zero, List.set_cons_succ, List.getElem_toArray, List.getElem_cons_zero, List.getElem_cons_succ]
  refine wpAny_take (i := 2) (v := ?_) rfl (by kernel_rfl) (by kernel_rfl) (by kernel_rfl) (fun _ _ _ h => h) (Or.inl ⟨by rfl, ?_⟩) ?_
  rotate_left
  · intro w
    go_simp
    try with_reducible rfl
  simp only [Act.put, List.setIfInBounds_toArray, List.set_cons_zero, List.set_cons_succ, List.getElem_toArray, List.getElem_cons_zero, List.getElem_cons_succ]
  refine wpAny_take (i := 3) (v := ?_) rfl (by kernel_rfl) (by kernel_rfl) (by kernel_rfl) (fun _ _ _ h => h) (Or.inl ⟨by rfl, ?_⟩) ?_
  rotate_left
  · intro w
    go_simp
    try with_reducible rfl
  simp only [Act.put, List.setIfInBounds_toArray, List.set_cons_zero, List.set_cons_succ, List.getElem_toArray, List.getElem_cons_zero, List.getElem_cons_succ]
  refine wpAny_take (i := 4) (v := ?_) rfl (by kernel_rfl) (by kernel_rfl) (by kernel_rfl) (fun _ _ _ h => h) (Or.inl ⟨by rfl, ?_⟩) ?_
  rotate_left
  · intro w
    go_simp
    try with_reducible rfl
  simp only [Act.put, List.setIfInBounds_toArray, List.set_cons_zero, List.set_cons_succ, List.getElem_toArray, List.getElem_cons_zero, List.getElem_cons_succ]
  refine wpAny_take (i := 5) (v := ?_) rfl (by kernel_rfl) (by kernel_rfl) (by kernel_rfl) (fun _ _ _ h => h) (Or.inl ⟨by rfl, ?_⟩) ?_
  rotate_left
  · intro w
    go_simp
    try with_reducible rfl
  simp only [Act.put, List.setIfInBounds_toArray, List.set_cons_zero, List.set_cons_succ, List.getElem_toArray, List.getElem_cons_zero, List.getElem_cons_succ]
  refine wpAny_take (i := 6) (v := ?_) rfl (by kernel_rfl) (by kernel_rfl) (by kernel_rfl) (fun _ _ _ h => h) (Or.inl ⟨by rfl, ?_⟩) ?_
  rotate_left
  · intro w
    go_simp
    try with_reducible rfl
  simp only [Act.put, List.setIfInBounds_toArray, List.set_cons_zero, List.set_cons_succ, List.getElem_toArray, List.getElem_cons_zero, List.getElem_cons_succ]
  refine wpAny_take (i := 7) (v := ?_) rfl (by kernel_rfl) (by kernel_rfl) (by kernel_rfl) (fun _ _ _ h => h) (Or.inl ⟨by rfl, ?_⟩) ?_
  rotate_left
  · intro w
    go_simp
    try with_reducible rfl
  simp only [Act.put, List.setIfInBounds_toArray, List.set_cons_zero, List.set_cons_succ, List.getElem_toArray, List.getElem_cons_zero, List.getElem_cons_succ]
  refine wpAny_take (i := 8) (v := ?_) rfl (by kernel_rfl) (by kernel_rfl) (by kernel_rfl) (fun _ _ _ h => h) (Or.inl ⟨by rfl, ?_⟩) ?_
  rotate_left
  · intro w
    go_simp
    try with_reducible rfl
  simp only [Act.put, List.setIfInBounds_toArray, List.set_cons_zero, List.set_cons_succ, List.getElem_toArray, List.getElem_cons_zero, List.getElem_cons_succ]
  refine wpAny_take (i := 9) (v := ?_) rfl (by kernel_rfl) (by kernel_rfl) (by kernel_rfl) (fun _ _ _ h => h) (Or.inl ⟨by rfl, ?_⟩) ?_
  rotate_left
  · intro w
    go_simp
    try with_reducible rfl
  simp only [Act.put, List.setIfInBounds_toArray, List.set_cons_zero, List.set_cons_succ, List.getElem_toArray, List.getElem_cons_zero, List.getElem_cons_succ]
  refine wpAny_take (i := 10) (v := ?_) rfl (by kernel_rfl) (by kernel_rfl) (by kernel_rfl) (fun _ _ _ h => h) (Or.inl ⟨by rfl, ?_⟩) ?_
  rotate_left
  · intro w
    go_simp
    try with_reducible rfl
  simp only [Act.put, List.setIfInBounds_toArray, List.set_cons_zero, List.set_cons_succ, List.getElem_toArray, List.getElem_cons_zero, List.getElem_cons_succ]
  refine wpAny_take (i := 11) (v := ?_) rfl (by kernel_rfl) (by kernel_rfl) (by kernel_rfl) (fun _ _ _ h => h) (Or.inl ⟨by rfl, ?_⟩) ?_
  rotate_left
  · intro w
    go_simp
    try with_reducible rfl
  simp only [Act.put, List.setIfInBounds_toArray, List.set_cons_zero, List.set_cons_succ, List.getElem_toArray, List.getElem_cons_zero, List.getElem_cons_succ]
  refine wpAny_take (i := 12) (v := ?_) rfl (by kernel_rfl) (by kernel_rfl) (by kernel_rfl) (fun _ _ _ h => h) (Or.inl ⟨by rfl, ?_⟩) ?_
  rotate_left
  · intro w
    go_simp
    try with_reducible rfl
  simp only [Act.put, List.setIfInBounds_toArray, List.set_cons_zero, List.set_cons_succ, List.getElem_toArray, List.getElem_cons_zero, List.getElem_cons_succ]
  refine wpAny_take (i := 13) (v := ?_) rfl (by kernel_rfl) (by kernel_rfl) (by kernel_rfl) (fun _ _ _ h => h) (Or.inl ⟨by rfl, ?_⟩) ?_
  rotate_left
  · intro w
    go_simp
    try with_reducible rfl
  simp only [Act.put, List.setIfInBounds_toArray, List.set_cons_zero, List.set_cons_succ, List.getElem_toArray, List.getElem_cons_zero, List.getElem_cons_succ]
  refine wpAny_take (i := 14) (v := ?_) rfl (by kernel_rfl) (by kernel_rfl) (by kernel_rfl) (fun _ _ _ h => h) (Or.inl ⟨by rfl, ?_⟩) ?_
  rotate_left
  · intro w
    go_simp
    try with_reducible rfl
  simp only [Act.put, List.setIfInBounds_toArray, List.set_cons_zero, List.set_cons_succ, List.getElem_toArray, List.getElem_cons_zero, List.getElem_cons_succ]
  refine wpAny_take (i := 15) (v := ?_) rfl (by kernel_rfl) (by kernel_rfl) (by kernel_rfl) (fun _ _ _ h => h) (Or.inl ⟨by rfl, ?_⟩) ?_
  rotate_left
  · intro w
    go_simp
    try with_reducible rfl
  simp only [Act.put, List.setIfInBounds_toArray, List.set_cons_zero, List.set_cons_succ, List.getElem_toArray, List.getElem_cons_zero, List.getElem_cons_succ]
  refine wpAny_take (i := 16) (v := ?_) rfl (by kernel_rfl) (by kernel_rfl) (by kernel_rfl) (fun _ _ _ h => h) (Or.inl ⟨by rfl, ?_⟩) ?_
  rotate_left
  · intro w
    go_simp
    try with_reducible rfl
  simp only [Act.put, List.setIfInBounds_toArray, List.set_cons_zero, List.set_cons_succ, List.getElem_toArray, List.getElem_cons_zero, List.getElem_cons_succ]
  refine wpAny_take (i := 17) (v := ?_) rfl (by kernel_rfl) (by kernel_rfl) (by kernel_rfl) (fun _ _ _ h => h) (Or.inl ⟨by rfl, ?_⟩) ?_
  rotate_left
  · intro w
    go_simp
    try with_reducible rfl
  simp only [Act.put, List.setIfInBounds_toArray, List.set_cons_zero, List.set_cons_succ, List.getElem_toArray, List.getElem_cons_zero, List.getElem_cons_succ]
  refine wpAny_take (i := 18) (v := ?_) rfl (by kernel_rfl) (by kernel_rfl) (by kernel_rfl) (fun _ _ _ h => h) (Or.inl ⟨by rfl, ?_⟩) ?_
  rotate_left
  · intro w
    go_simp
    try with_reducible rfl
  simp only [Act.put, List.setIfInBounds_toArray, List.set_cons_zero, List.set_cons_succ, List.getElem_toArray, List.getElem_cons_zero, List.getElem_cons_succ]
  refine wpAny_take (i := 19) (v := ?_) rfl (by kernel_rfl) (by kernel_rfl) (by kernel_rfl) (fun _ _ _ h => h) (Or.inl ⟨by rfl, ?_⟩) ?_
  rotate_left
  · intro w
    go_simp
    try with_reducible rfl
  simp only [Act.put, List.setIfInBounds_toArray, List.set_cons_zero, List.set_cons_succ, List.getElem_toArray, List.getElem_cons_zero, List.getElem_cons_succ]
  refine wpAny_take (i := 20) (v := ?_) rfl (by kernel_rfl) (by kernel_rfl) (by kernel_rfl) (fun _ _ _ h => h) (Or.inl ⟨by rfl, ?_⟩) ?_
  rotate_left
  · intro w
    go_simp
    try with_reducible rfl
  simp only [Act.put, List.setIfInBounds_toArray, List.set_cons_zero, List.set_cons_succ, List.getElem_toArray, List.getElem_cons_zero, List.getElem_cons_succ]
  refine wpAny_take (i := 21) (v := ?_) rfl (by kernel_rfl) (by kernel_rfl) (by kernel_rfl) (fun _ _ _ h => h) (Or.inl ⟨by rfl, ?_⟩) ?_
  rotate_left
  · intro w
    go_simp
    try with_reducible rfl
  simp only [Act.put, List.setIfInBounds_toArray, List.set_cons_zero, List.set_cons_succ, List.getElem_toArray, List.getElem_cons_zero, List.getElem_cons_succ]
  refine wpAny_take (i := 22) (v := ?_) rfl (by kernel_rfl) (by kernel_rfl) (by kernel_rfl) (fun _ _ _ h => h) (Or.inl ⟨by rfl, ?_⟩) ?_
  rotate_left
  · intro w
    go_simp
    try with_reducible rfl
  simp only [Act.put, List.setIfInBounds_toArray, List.set_cons_zero, List.set_cons_succ, List.getElem_toArray, List.getElem_cons_zero, List.getElem_cons_succ]
  refine wpAny_take (i := 23) (v := ?_) rfl (by kernel_rfl) (by kernel_rfl) (by kernel_rfl) (fun _ _ _ h => h) (Or.inl ⟨by rfl, ?_⟩) ?_
  rotate_left
  · intro w
    go_simp
    try with_reducible rfl
  simp only [Act.put, List.setIfInBounds_toArray, List.set_cons_zero, List.set_cons_succ, List.getElem_toArray, List.getElem_cons_zero, List.getElem_cons_succ]
  refine wpAny_take (i := 24) (v := ?_) rfl (by kernel_rfl) (by kernel_rfl) (by kernel_rfl) (fun _ _ _ h => h) (Or.inl ⟨by rfl, ?_⟩) ?_
  rotate_left
  · intro w
    go_simp
    try with_reducible rfl
  simp only [Act.put, List.setIfInBounds_toArray, List.set_cons_zero, List.set_cons_succ, List.getElem_toArray, List.getElem_cons_zero, List.getElem_cons_succ]
  refine wpAny_take (i := 25) (v := ?_) rfl (by kernel_rfl) (by kernel_rfl) (by kernel_rfl) (fun _ _ _ h => h) (Or.inl ⟨by rfl, ?_⟩) ?_
  rotate_left
  · intro w
    go_simp
    try with_reducible rfl
  simp only [Act.put, List.setIfInBounds_toArray, List.set_cons_zero, List.set_cons_succ, List.getElem_toArray, List.getElem_cons_zero, List.getElem_cons_succ]
  refine wpAny_take (i := 26) (v := ?_) rfl (by kernel_rfl) (by kernel_rfl) (by kernel_rfl) (fun _ _ _ h => h) (Or.inl ⟨by rfl, ?_⟩) ?_
  rotate_left
  · intro w
    go_simp
    try with_reducible rfl
  simp only [Act.put, List.setIfInBounds_toArray, List.set_cons_zero, List.set_cons_succ, List.getElem_toArray, List.getElem_cons_zero, List.getElem_cons_succ]
  refine wpAny_take (i := 27) (v := ?_) rfl (by kernel_rfl) (by kernel_rfl) (by kernel_rfl) (fun _ _ _ h => h) (Or.inl ⟨by rfl, ?_⟩) ?_
  rotate_left
  · intro w
    go_simp
    try with_reducible rfl
  simp only [Act.put, List.setIfInBounds_toArray, List.set_cons_zero, List.set_cons_succ, List.getElem_toArray, List.getElem_cons_zero, List.getElem_cons_succ]
  refine wpAny_take (i := 28) (v := ?_) rfl (by kernel_rfl) (by kernel_rfl) (by kernel_rfl) (fun _ _ _ h => h) (Or.inl ⟨by rfl, ?_⟩) ?_
  rotate_left
  · intro w
    go_simp
    try with_reducible rfl
  simp only [Act.put, List.setIfInBounds_toArray, List.set_cons_zero, List.set_cons_succ, List.getElem_toArray, List.getElem_cons_zero, List.getElem_cons_succ]
  refine wpAny_take (i := 29) (v := ?_) rfl (by kernel_rfl) (by kernel_rfl) (by kernel_rfl) (fun _ _ _ h => h) (Or.inl ⟨by rfl, ?_⟩) ?_
  rotate_left
  · intro w
    go_simp
    try with_reducible rfl
  simp only [Act.put, List.setIfInBounds_toArray, List.set_cons_zero, List.set_cons_succ, List.getElem_toArray, List.getElem_cons_zero, List.getElem_cons_succ]
  refine wpAny_take (i := 30) (v := ?_) rfl (by kernel_rfl) (by kernel_rfl) (by kernel_rfl) (fun _ _ _ h => h) (Or.inl ⟨by rfl, ?_⟩) ?_
  rotate_left
  · intro w
    go_simp
    try with_reducible rfl
  simp only [Act.put, List.setIfInBounds_toArray, List.set_cons_zero, List.set_cons_succ, List.getElem_toArray, List.getElem_cons_zero, List.getElem_cons_succ]
  refine wpAny_take (i := 31) (v := ?_) rfl (by kernel_rfl) (by kernel_rfl) (by kernel_rfl) (fun _ _ _ h => h) (Or.inl ⟨by rfl, ?_⟩) ?_
  rotate_left
  · intro w
    go_simp
    try with_reducible rfl
  simp only [Act.put, List.setIfInBounds_toArray, List.set_cons_zero, List.set_cons_succ, List.getElem_toArray, List.getElem_cons_zero, List.getElem_cons_succ]
  refine wpAny_take (i := 32) (v := ?_) rfl (by kernel_rfl) (by kernel_rfl) (by kernel_rfl) (fun _ _ _ h => h) (Or.inl ⟨by rfl, ?_⟩) ?_
  rotate_left
  · intro w
    go_simp
    try with_reducible rfl
  simp only [Act.put, List.setIfInBounds_toArray, List.set_cons_zero, List.set_cons_succ, List.getElem_toArray, List.getElem_cons_zero, List.getElem_cons_succ]
  refine wpAny_take (i := 33) (v := ?_) rfl (by kernel_rfl) (by kernel_rfl) (by kernel_rfl) (fun _ _ _ h => h) (Or.inl ⟨by rfl, ?_⟩) ?_
  rotate_left
  · intro w
    go_simp
    try with_reducible rfl
  simp only [Act.put, List.setIfInBounds_toArray, List.set_cons_zero, List.set_cons_succ, List.getElem_toArray, List.getElem_cons_zero, List.getElem_cons_succ]
  refine wpAny_take (i := 34) (v := ?_) rfl (by kernel_rfl) (by kernel_rfl) (by kernel_rfl) (fun _ _ _ h => h) (Or.inl ⟨by rfl, ?_⟩) ?_
  rotate_left
  · intro w
    go_simp
    try with_reducible rfl
  simp only [Act.put, List.setIfInBounds_toArray, List.set_cons_zero, List.set_cons_succ, List.getElem_toArray, List.getElem_cons_zero, List.getElem_cons_succ]
  refine wpAny_take (i := 35) (v := ?_) rfl (by kernel_rfl) (by kernel_rfl) (by kernel_rfl) (fun _ _ _ h => h) (Or.inl ⟨by rfl, ?_⟩) ?_
  rotate_left
  · intro w
    go_simp
    try with_reducible rfl
  simp only [Act.put, List.setIfInBounds_toArray, List.set_cons_zero, List.set_cons_succ, List.getElem_toArray, List.getElem_cons_zero, List.getElem_cons_succ]
  refine wpAny_take (i := 36) (v := ?_) rfl (by kernel_rfl) (by kernel_rfl) (by kernel_rfl) (fun _ _ _ h => h) (Or.inl ⟨by rfl, ?_⟩) ?_
  rotate_left
  · intro w
    go_simp
    try with_reducible rfl
  simp only [Act.put, List.setIfInBounds_toArray, List.set_cons_zero, List.set_cons_succ, List.getElem_toArray, List.getElem_cons_zero, List.getElem_cons_succ]
  refine wpAny_take (i := 37) (v := ?_) rfl (by kernel_rfl) (by kernel_rfl) (by kernel_rfl) (fun _ _ _ h => h) (Or.inl ⟨by rfl, ?_⟩) ?_
  rotate_left
  · intro w
    go_simp
    try with_reducible rfl
  simp only [Act.put, List.setIfInBounds_toArray, List.set_cons_zero, List.set_cons_succ, List.getElem_toArray, List.getElem_cons_zero, List.getElem_cons_succ]
  simp only [u8_wrap, mul_wrap, add_wrap]
  refine wpAny_ready (rs := [38]) (by kernel_rfl) (by simp) ?_
  refine AllReady.cons rfl (fun K hK => ?_) AllReady.nil
  go_simp
  refine hK _ _ ?_
  clear hK K
  refine wpAny_ready (rs := [39]) (by kernel_rfl) (by simp) ?_
  refine AllReady.cons rfl (fun K hK => ?_) AllReady.nil
  go_simp
  refine hK _ _ ?_
  clear hK K
  refine wpAny_done (by kernel_rfl) ?_ _
  generalize ((S[0]'(Nat.lt_of_lt_of_le (by decide) h13)).toNat : Int) = k at *
  generalize ((S[1]'(Nat.lt_of_lt_of_le (by decide) h13)).toNat : Int) = c at *
  generalize ((S[2]'(Nat.lt_of_lt_of_le (by decide) h13)).toNat : Int) = li at *
  generalize ((S[3]'(Nat.lt_of_lt_of_le (by decide) h13)).toNat : Int) = ln at *
  generalize 256 * ((S[4]'(Nat.lt_of_lt_of_le (by decide) h13)).toNat : Int) + ((S[5]'(Nat.lt_of_lt_of_le (by decide) h13)).toNat : Int) = sq at *
  generalize ((S[6]'(Nat.lt_of_lt_of_le (by decide) h13)).toNat : Int) = u at *
  generalize ((S[7]'(Nat.lt_of_lt_of_le (by decide) h13)).toNat : Int) = pa at *
  generalize ((S[8]'(Nat.lt_of_lt_of_le (by decide) h13)).toNat : Int) = o at *
  generalize (((S[9]'(Nat.lt_of_lt_of_le (by decide) h13)).toNat : Int) == 1) = pl at *
  have hex : ((S.size : Int) - 2).toNat = S.size - 2 := by omega
  rw [hex]
  clear hex
  generalize S.extract 11 (S.size - 2) = BD at *
  generalize ((S[4]'(Nat.lt_of_lt_of_le (by decide) h13)).toNat : Int) = s4 at *
  generalize ((S[5]'(Nat.lt_of_lt_of_le (by decide) h13)).toNat : Int) = s5 at *
  generalize ((S[9]'(Nat.lt_of_lt_of_le (by decide) h13)).toNat : Int) = s9 at *
  clear l0 l1 l2 l3 l4 l5 l6 l7 l8 l9 hq hq1 hq2 hq3
  go_wp2_with fail
  refine ((unhide K69) _).mono ?_
  rintro e w1 ⟨rfl, hb1⟩
  have hs1 := hb1.size
  have hws := unhide HWS
  simp at hs1
  rw [hws]
  have hz := (hb1.block w.heap.size (by simp; try omega)).trans ((Below.heap_alloc W _ _ (by omega)).trans (unhide HWZ))
  have hp0 : (W.alloc (.cells #[.int .i64 k, .int .i64 c, .int .i64 li, .int .i64 ln, .int .i64 sq, .int .i64 u, .int .i64 pa, .int .i64 o, .bool pl, .string BD] 59)).drew.heap[w.heap.size + 1]? = some (.cells #[.int .i64 k, .int .i64 c, .int .i64 li, .int .i64 ln, .int .i64 sq, .int .i64 u, .int .i64 pa, .int .i64 o, .bool pl, .string BD] 59 (0, 0)) := by
    rw [← hws]
    exact heap_alloc_new W _
  have hp := (hb1.block (w.heap.size + 1) (by simp; try omega)).trans hp0
  have HB1 := hide (((unhide HWB).alloc (by omega) (.cells #[.int .i64 k, .int .i64 c, .int .i64 li, .int .i64 ln, .int .i64 sq, .int .i64 u, .int .i64 pa, .int .i64 o, .bool pl, .string BD] 59)).drew.trans (hb1.mono (by simp; try omega)))
  clear hws HWS hb1 hp0
  have z0 : w1.cell? ⟨w.heap.size, 0, none⟩ = some (.int .i64 0) := cell_of hz 0 _ rfl
  have z1 : w1.cell? ⟨w.heap.size, 1, none⟩ = some (.int .i64 0) := cell_of hz 1 _ rfl
  have z2 : w1.cell? ⟨w.heap.size, 2, none⟩ = some (.int .i64 0) := cell_of hz 2 _ rfl
  have z3 : w1.cell? ⟨w.heap.size, 3, none⟩ = some (.int .i64 0) := cell_of hz 3 _ rfl
  have z4 : w1.cell? ⟨w.heap.size, 4, none⟩ = some (.int .i64 0) := cell_of hz 4 _ rfl
  have z5 : w1.cell? ⟨w.heap.size, 5, none⟩ = some (.int .i64 0) := cell_of hz 5 _ rfl
  have z6 : w1.cell? ⟨w.heap.size, 6, none⟩ = some (.int .i64 0) := cell_of hz 6 _ rfl
  have z7 : w1.cell? ⟨w.heap.size, 7, none⟩ = some (.int .i64 0) := cell_of hz 7 _ rfl
  have z8 : w1.cell? ⟨w.heap.size, 8, none⟩ = some (.bool false) := cell_of hz 8 _ rfl
  have z9 : w1.cell? ⟨w.heap.size, 9, none⟩ = some (.string ⟨#[]⟩) := cell_of hz 9 _ rfl
  have p0 : w1.cell? ⟨w.heap.size + 1, 0, none⟩ = some (.int .i64 k) := cell_of hp 0 _ rfl
  have p1 : w1.cell? ⟨w.heap.size + 1, 1, none⟩ = some (.int .i64 c) := cell_of hp 1 _ rfl
  have p2 : w1.cell? ⟨w.heap.size + 1, 2, none⟩ = some (.int .i64 li) := cell_of hp 2 _ rfl
  have p3 : w1.cell? ⟨w.heap.size + 1, 3, none⟩ = some (.int .i64 ln) := cell_of hp 3 _ rfl
  have p4 : w1.cell? ⟨w.heap.size + 1, 4, none⟩ = some (.int .i64 sq) := cell_of hp 4 _ rfl
  have p5 : w1.cell? ⟨w.heap.size + 1, 5, none⟩ = some (.int .i64 u) := cell_of hp 5 _ rfl
  have p6 : w1.cell? ⟨w.heap.size + 1, 6, none⟩ = some (.int .i64 pa) := cell_of hp 6 _ rfl
  have p7 : w1.cell? ⟨w.heap.size + 1, 7, none⟩ = some (.int .i64 o) := cell_of hp 7 _ rfl
  have p8 : w1.cell? ⟨w.heap.size + 1, 8, none⟩ = some (.bool pl) := cell_of hp 8 _ rfl
  have p9 : w1.cell? ⟨w.heap.size + 1, 9, none⟩ = some (.string BD) := cell_of hp 9 _ rfl
  have cz := thaw_of hz
  have HZ := hide hz
  have HPP := hide hp
  clear hz hp
  cases r with
  | false =>
    have HF : Hid (∀ w', Below w.heap.size w w' → post (.returned (.tuple #[zeroP, .int .i64 7])) w') := fun w' hb => by
      rw [← unhide HP]
      exact ⟨by simp, hb⟩
    clear HP K70 K69
    go_wp2
    exact bodyPost_ret (v := .tuple #[zeroP, .int .i64 7]) (by simp [results, Try.results50, go_sem, z0, z1, z2, z3, z4, z5, z6, z7, z8, z9]) rfl ((unhide HF) _ (below10 (unhide HB1) (Nat.le_refl _) (.int .i64 0) (.int .i64 0) (.int .i64 0) (.int .i64 0) (.int .i64 0) (.int .i64 0) (.int .i64 0) (.int .i64 0) (.bool false) (.string ⟨#[]⟩)))
  | true =>
    have H7 := hide ((unhide K70) rfl)
    clear K70 K69
    have hl0 : w.heap.size + 1 < w1.heap.size := lt_of_cell p0
    go_wp2_with fail
    refine ((unhide H7) _).mono ?_
    rintro e w2 ⟨rfl, hb2⟩
    have hy := (hb2.block w.heap.size (by omega)).trans (unhide HZ)
    have hx := (hb2.block (w.heap.size + 1) (by omega)).trans (unhide HPP)
    have HB2 := hide ((unhide HB1).trans (hb2.mono (by omega)))
    clear hb2 p0 p1 p2 p3 p4 p5 p6 p7 p8 p9 z0 z1 z2 z3 z4 z5 z6 z7 z8 z9 cz HZ HPP
    have y0 : w2.cell? ⟨w.heap.size, 0, none⟩ = some (.int .i64 0) := cell_of hy 0 _ rfl
    have y1 : w2.cell? ⟨w.heap.size, 1, none⟩ = some (.int .i64 0) := cell_of hy 1 _ rfl
    have y2 : w2.cell? ⟨w.heap.size, 2, none⟩ = some (.int .i64 0) := cell_of hy 2 _ rfl
    have y3 : w2.cell? ⟨w.heap.size, 3, none⟩ = some (.int .i64 0) := cell_of hy 3 _ rfl
    have y4 : w2.cell? ⟨w.heap.size, 4, none⟩ = some (.int .i64 0) := cell_of hy 4 _ rfl
    have y5 : w2.cell? ⟨w.heap.size, 5, none⟩ = some (.int .i64 0) := cell_of hy 5 _ rfl
    have y6 : w2.cell? ⟨w.heap.size, 6, none⟩ = some (.int .i64 0) := cell_of hy 6 _ rfl
    have y7 : w2.cell? ⟨w.heap.size, 7, none⟩ = some (.int .i64 0) := cell_of hy 7 _ rfl
    have y8 : w2.cell? ⟨w.heap.size, 8, none⟩ = some (.bool false) := cell_of hy 8 _ rfl
    have y9 : w2.cell? ⟨w.heap.size, 9, none⟩ = some (.string ⟨#[]⟩) := cell_of hy 9 _ rfl
    have x0 : w2.cell? ⟨w.heap.size + 1, 0, none⟩ = some (.int .i64 k) := cell_of hx 0 _ rfl
    have x1 : w2.cell? ⟨w.heap.size + 1, 1, none⟩ = some (.int .i64 c) := cell_of hx 1 _ rfl
    have x2 : w2.cell? ⟨w.heap.size + 1, 2, none⟩ = some (.int .i64 li) := cell_of hx 2 _ rfl
    have x3 : w2.cell? ⟨w.heap.size + 1, 3, none⟩ = some (.int .i64 ln) := cell_of hx 3 _ rfl
    have x4 : w2.cell? ⟨w.heap.size + 1, 4, none⟩ = some (.int .i64 sq) := cell_of hx 4 _ rfl
    have x5 : w2.cell? ⟨w.heap.size + 1, 5, none⟩ = some (.int .i64 u) := cell_of hx 5 _ rfl
    have x6 : w2.cell? ⟨w.heap.size + 1, 6, none⟩ = some (.int .i64 pa) := cell_of hx 6 _ rfl
    have x7 : w2.cell? ⟨w.heap.size + 1, 7, none⟩ = some (.int .i64 o) := cell_of hx 7 _ rfl
    have x8 : w2.cell? ⟨w.heap.size + 1, 8, none⟩ = some (.bool pl) := cell_of hx 8 _ rfl
    have x9 : w2.cell? ⟨w.heap.size + 1, 9, none⟩ = some (.string BD) := cell_of hx 9 _ rfl
    have cy := thaw_of hy
    clear hy hx
    by_cases hes : ST = S
    · have HF : Hid (∀ w', Below w.heap.size w w' → post (.returned (.tuple #[.agg #[.int .i64 k, .int .i64 c, .int .i64 li, .int .i64 ln, .int .i64 sq, .int .i64 u, .int .i64 pa, .int .i64 o, .bool pl, .string BD], .int .i64 0])) w') := fun w' hb => by
        rw [← unhide HP]
        refine ⟨?_, hb⟩
        simp [hes]
      subst hes
      clear HP
      go_wp2
      exact bodyPost_ret (v := .tuple #[.agg #[.int .i64 k, .int .i64 c, .int .i64 li, .int .i64 ln, .int .i64 sq, .int .i64 u, .int .i64 pa, .int .i64 o, .bool pl, .string BD], .int .i64 0]) (by simp [results, Try.results50, go_sem, y0, y1, y2, y3, y4, y5, y6, y7, y8, y9]) rfl ((unhide HF) _ (below10 (unhide HB2) (Nat.le_refl _) (.int .i64 k) (.int .i64 c) (.int .i64 li) (.int .i64 ln) (.int .i64 sq) (.int .i64 u) (.int .i64 pa) (.int .i64 o) (.bool pl) (.string BD)))
    · have HF : Hid (∀ w', Below w.heap.size w w' → post (.returned (.tuple #[zeroP, .int .i64 7])) w') := fun w' hb => by
        rw [← unhide HP]
        refine ⟨?_, hb⟩
        simp [hes]
      have hne : (!ST.toList == S.toList) = true := by
        rw [Bool.not_eq_true', beq_eq_false_iff_ne]
        intro hh
        rw [ByteArray.toList_eq, ByteArray.toList_eq] at hh
        exact hes (ByteArray.ext (by simpa using hh))
      clear HP hes
      go_wp2
      exact bodyPost_ret (v := .tuple #[zeroP, .int .i64 7]) (by simp [results, Try.results50, go_sem, y0, y1, y2, y3, y4, y5, y6, y7, y8, y9]) rfl ((unhide HF) _ (below10 (unhide HB2) (Nat.le_refl _) (.int .i64 0) (.int .i64 0) (.int .i64 0) (.int .i64 0) (.int .i64 0) (.int .i64 0) (.int .i64 0) (.int .i64 0) (.bool false) (.string ⟨#[]⟩)))
theorem getD_str (l : List UInt8) (i : Nat) (h : i < (str l).size) : ((str l)[i]'h) = l.getD i 0 := by
  have hg := str_get l i h
  rw [List.getD_eq_getElem?_getD, hg]
  rfl

theorem refOpen_any (l : List UInt8) (w : World) (hl : l.length ≤ 9223372036854775807) : Calls Try.prog 50 #[.string (str l)] w fun e w' => e = openEnd (openR l) ∧ Below w.heap.size w w' := by
  have hsz := str_size l
  unfold openR
  by_cases h13 : l.length < 13
  · rw [if_pos h13]
    exact refOpen_short (str l) w (by omega)
  · rw [if_neg h13]
    have hS : 13 ≤ (str l).size := by omega
    have hp : pv (refP l) = .agg (opened (str l) hS) := by
      have hx : (str l).extract 11 ((str l).size - 2) = str ((l.drop 11).take (l.length - 13)) := by
        rw [str_extract, hsz, show l.length - 2 - 11 = l.length - 13 by omega]
      unfold opened refP num2
      simp only [getD_str, hx]
      rw [show ∀ a b : Int, ((256 : Nat) : Int) * a + b = a * 256 + b from fun a b => by omega]
    have h := refOpen_long (str l) (str (sealB (refP l))) (decide (RightP (refP l))) w hS (by omega) ?_ ?_
    · refine h.mono ?_
      rintro e w' ⟨rfl, hb⟩
      refine ⟨?_, hb⟩
      by_cases hr : RightP (refP l)
      · rw [if_pos hr]
        by_cases hs : sealB (refP l) = l
        · rw [if_pos hs, if_pos ⟨decide_eq_true hr, by rw [hs]⟩]
          show _ = Ending.returned (.tuple #[pv (refP l), .int .i64 0])
          rw [hp]
        · rw [if_neg hs, if_neg]
          rintro ⟨_, h2⟩
          apply hs
          have := congrArg (fun b => b.data.toList) h2
          simpa using this
      · rw [if_neg hr, if_neg]
        rintro ⟨h1, _⟩
        exact hr (of_decide_eq_true h1)
    · intro w
      have := refRight_any (refP l) w
      rw [hp] at this
      exact this
    · intro hd w
      have := refSealed_any (refP l) w (of_decide_eq_true hd)
      rw [hp] at this
      exact this
end Go.Proofs.Ytblomippkddgiaa
