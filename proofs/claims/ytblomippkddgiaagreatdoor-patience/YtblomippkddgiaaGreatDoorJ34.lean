/-
  Joined: Own SigT.
-/
import Derived.Test.YtblomippkddgiaaGreatDoorRows
import Derived.WalkKit
import Derived.WalkSpells
import Derived.WalkLawsBesides
import Derived.BigQuiet
import Derived.Deep.QuietTactic
import Derived.Test.YtblomippkddgiaaGreatDoorJ33
import Derived.Test.YtblomippkddgiaaGreatDoorJ21
/-
  The walks of the law Signatures over the landed code: every call of Signature, at any kind and any procedure number, answers what the document's own function answers. Condition: the package-level table of signatures holds what its initialiser lays.
-/
namespace Go.Proofs.YtblomippkddgiaaGreatDoor
open Go.RowKit

abbrev tabCells : Array Value := #[.int .i64 0, .int .i64 0, .string { data := #[105] }, .string { data := #[99] }, .int .i64 0, .int .i64 1, .string { data := #[98] }, .string { data := #[99] }, .int .i64 1, .int .i64 0, .string { data := #[115] }, .string { data := #[99] }, .int .i64 1, .int .i64 1, .string { data := #[99] }, .string { data := #[113, 52, 115] }, .int .i64 2, .int .i64 0, .string { data := #[114, 40, 101, 51, 113, 51, 105, 41] }, .string { data := #[117, 40, 98, 113, 51, 105, 41] }]

theorem i0 (w : World) : (Instr.index 198 (.agg tabCells) (.int .i64 0)).run Tryz.prog w = .ok (.agg #[.int .i64 0, .int .i64 0, .string { data := #[105] }, .string { data := #[99] }]) w := by kernel_rfl
theorem i1 (w : World) : (Instr.index 198 (.agg tabCells) (.int .i64 1)).run Tryz.prog w = .ok (.agg #[.int .i64 0, .int .i64 1, .string { data := #[98] }, .string { data := #[99] }]) w := by kernel_rfl
theorem i2 (w : World) : (Instr.index 198 (.agg tabCells) (.int .i64 2)).run Tryz.prog w = .ok (.agg #[.int .i64 1, .int .i64 0, .string { data := #[115] }, .string { data := #[99] }]) w := by kernel_rfl
theorem i3 (w : World) : (Instr.index 198 (.agg tabCells) (.int .i64 3)).run Tryz.prog w = .ok (.agg #[.int .i64 1, .int .i64 1, .string { data := #[99] }, .string { data := #[113, 52, 115] }]) w := by kernel_rfl
theorem i4 (w : World) : (Instr.index 198 (.agg tabCells) (.int .i64 4)).run Tryz.prog w = .ok (.agg #[.int .i64 2, .int .i64 0, .string { data := #[114, 40, 101, 51, 113, 51, 105, 41] }, .string { data := #[117, 40, 98, 113, 51, 105, 41] }]) w := by kernel_rfl

set_option maxHeartbeats 400000 in
theorem isKind_any (k : Int) (w : World) :
    Calls Tryz.prog 124 #[.int .i64 k] w fun e w' => e = .returned (.bool (k == 0 || k == 1 || k == 2)) ∧ w' = w := by
  by_cases h0 : k = 0
  · subst h0
    go_enter Tryz.func124, Tryz.ntmps124
    go_wp2
    go_ret
    exact ⟨rfl, rfl⟩
  by_cases h1 : k = 1
  · subst h1
    go_enter Tryz.func124, Tryz.ntmps124
    go_wp2
    go_ret
    exact ⟨rfl, rfl⟩
  by_cases h2 : k = 2
  · subst h2
    go_enter Tryz.func124, Tryz.ntmps124
    go_wp2
    go_ret
    exact ⟨rfl, rfl⟩
  have e0 : (k == 0) = false := by simpa using h0
  have e1 : (k == 1) = false := by simpa using h1
  have e2 : (k == 2) = false := by simpa using h2
  go_enter Tryz.func124, Tryz.ntmps124
  go_wp2
  go_ret
  exact ⟨by rw [e0, e1, e2]; rfl, rfl⟩

set_option maxHeartbeats 400000 in
theorem isKind_no (k : Int) (w : World) (h : k < 0 ∨ 2 < k) :
    Calls Tryz.prog 124 #[.int .i64 k] w fun e w' => e = .returned (.bool false) ∧ w' = w := by
  refine (isKind_any k w).mono ?_
  rintro e w' ⟨rfl, rfl⟩
  have e0 : (k == 0) = false := by simp; omega
  have e1 : (k == 1) = false := by simp; omega
  have e2 : (k == 2) = false := by simp; omega
  rw [e0, e1, e2]
  exact ⟨rfl, rfl⟩

set_option maxRecDepth 100000 in
set_option maxHeartbeats 1000000 in
theorem sig_00 (w : World) (tt : TypeId) (fr : Nat × Nat) (hg : w.heap[0]? = some (.cells tabCells tt fr)) :
    Calls Tryz.prog 75 #[.int .i64 0, .int .i64 0] w fun e w' => e = .returned (.tuple #[.string { data := #[105] }, .string { data := #[99] }, .int .i64 0]) ∧ Below w.heap.size w w' := by
  have j0 := i0
  have j1 := i1
  have j2 := i2
  have j3 := i3
  have j4 := i4
  go_enter Tryz.func75, Tryz.ntmps75
  go_wp2_with (first | (go_at_call 124; refine (isKind_any _ _).mono ?_; rintro e w' ⟨rfl, rfl⟩) | (refine wpList_load_row rfl 198 _ rfl 0 rfl tt _ fr _ hg Tryz.underlying198 rfl (by kernel_rfl) ?_))
  refine wp_loop_rounds 1 ?_
  rw [rounds_succ]
  go_wp2
  go_region
  go_wp2
  go_ret3
  refine ⟨rfl, ?_⟩
  repeat (first | exact Below.refl _ _ | refine Below.drew ?_ | refine Below.alloc ?_ (by simp; try omega) _)

set_option maxRecDepth 100000 in
set_option maxHeartbeats 1000000 in
theorem sig_01 (w : World) (tt : TypeId) (fr : Nat × Nat) (hg : w.heap[0]? = some (.cells tabCells tt fr)) :
    Calls Tryz.prog 75 #[.int .i64 0, .int .i64 1] w fun e w' => e = .returned (.tuple #[.string { data := #[98] }, .string { data := #[99] }, .int .i64 0]) ∧ Below w.heap.size w w' := by
  have j0 := i0
  have j1 := i1
  have j2 := i2
  have j3 := i3
  have j4 := i4
  go_enter Tryz.func75, Tryz.ntmps75
  go_wp2_with (first | (go_at_call 124; refine (isKind_any _ _).mono ?_; rintro e w' ⟨rfl, rfl⟩) | (refine wpList_load_row rfl 198 _ rfl 0 rfl tt _ fr _ hg Tryz.underlying198 rfl (by kernel_rfl) ?_))
  refine wp_loop_rounds 2 ?_
  rw [rounds_succ]
  go_wp2
  rw [rounds_succ]
  go_wp2
  go_region
  go_wp2
  go_ret3
  refine ⟨rfl, ?_⟩
  repeat (first | exact Below.refl _ _ | refine Below.drew ?_ | refine Below.alloc ?_ (by simp; try omega) _)

set_option maxRecDepth 100000 in
set_option maxHeartbeats 1000000 in
theorem sig_10 (w : World) (tt : TypeId) (fr : Nat × Nat) (hg : w.heap[0]? = some (.cells tabCells tt fr)) :
    Calls Tryz.prog 75 #[.int .i64 1, .int .i64 0] w fun e w' => e = .returned (.tuple #[.string { data := #[115] }, .string { data := #[99] }, .int .i64 0]) ∧ Below w.heap.size w w' := by
  have j0 := i0
  have j1 := i1
  have j2 := i2
  have j3 := i3
  have j4 := i4
  go_enter Tryz.func75, Tryz.ntmps75
  go_wp2_with (first | (go_at_call 124; refine (isKind_any _ _).mono ?_; rintro e w' ⟨rfl, rfl⟩) | (refine wpList_load_row rfl 198 _ rfl 0 rfl tt _ fr _ hg Tryz.underlying198 rfl (by kernel_rfl) ?_))
  refine wp_loop_rounds 3 ?_
  rw [rounds_succ]
  go_wp2
  rw [rounds_succ]
  go_wp2
  rw [rounds_succ]
  go_wp2
  go_region
  go_wp2
  go_ret3
  refine ⟨rfl, ?_⟩
  repeat (first | exact Below.refl _ _ | refine Below.drew ?_ | refine Below.alloc ?_ (by simp; try omega) _)

set_option maxRecDepth 100000 in
set_option maxHeartbeats 1000000 in
theorem sig_11 (w : World) (tt : TypeId) (fr : Nat × Nat) (hg : w.heap[0]? = some (.cells tabCells tt fr)) :
    Calls Tryz.prog 75 #[.int .i64 1, .int .i64 1] w fun e w' => e = .returned (.tuple #[.string { data := #[99] }, .string { data := #[113, 52, 115] }, .int .i64 0]) ∧ Below w.heap.size w w' := by
  have j0 := i0
  have j1 := i1
  have j2 := i2
  have j3 := i3
  have j4 := i4
  go_enter Tryz.func75, Tryz.ntmps75
  go_wp2_with (first | (go_at_call 124; refine (isKind_any _ _).mono ?_; rintro e w' ⟨rfl, rfl⟩) | (refine wpList_load_row rfl 198 _ rfl 0 rfl tt _ fr _ hg Tryz.underlying198 rfl (by kernel_rfl) ?_))
  refine wp_loop_rounds 4 ?_
  rw [rounds_succ]
  go_wp2
  rw [rounds_succ]
  go_wp2
  rw [rounds_succ]
  go_wp2
  rw [rounds_succ]
  go_wp2
  go_region
  go_wp2
  go_ret3
  refine ⟨rfl, ?_⟩
  repeat (first | exact Below.refl _ _ | refine Below.drew ?_ | refine Below.alloc ?_ (by simp; try omega) _)

set_option maxRecDepth 100000 in
set_option maxHeartbeats 1000000 in
theorem sig_20 (w : World) (tt : TypeId) (fr : Nat × Nat) (hg : w.heap[0]? = some (.cells tabCells tt fr)) :
    Calls Tryz.prog 75 #[.int .i64 2, .int .i64 0] w fun e w' => e = .returned (.tuple #[.string { data := #[114, 40, 101, 51, 113, 51, 105, 41] }, .string { data := #[117, 40, 98, 113, 51, 105, 41] }, .int .i64 0]) ∧ Below w.heap.size w w' := by
  have j0 := i0
  have j1 := i1
  have j2 := i2
  have j3 := i3
  have j4 := i4
  go_enter Tryz.func75, Tryz.ntmps75
  go_wp2_with (first | (go_at_call 124; refine (isKind_any _ _).mono ?_; rintro e w' ⟨rfl, rfl⟩) | (refine wpList_load_row rfl 198 _ rfl 0 rfl tt _ fr _ hg Tryz.underlying198 rfl (by kernel_rfl) ?_))
  refine wp_loop_rounds 5 ?_
  rw [rounds_succ]
  go_wp2
  rw [rounds_succ]
  go_wp2
  rw [rounds_succ]
  go_wp2
  rw [rounds_succ]
  go_wp2
  rw [rounds_succ]
  go_wp2
  go_region
  go_wp2
  go_ret3
  refine ⟨rfl, ?_⟩
  repeat (first | exact Below.refl _ _ | refine Below.drew ?_ | refine Below.alloc ?_ (by simp; try omega) _)

set_option maxRecDepth 100000 in
set_option maxHeartbeats 1000000 in
theorem sig_0n (p : Int) (h0 : ¬ p = 0) (h1 : ¬ p = 1) (w : World) (tt : TypeId) (fr : Nat × Nat) (hg : w.heap[0]? = some (.cells tabCells tt fr)) :
    Calls Tryz.prog 75 #[.int .i64 0, .int .i64 p] w fun e w' => e = .returned (.tuple #[.string { data := #[] }, .string { data := #[] }, .int .i64 16]) ∧ Below w.heap.size w w' := by
  have e0 : ((0 : Int) == p) = false := by simp; omega
  have e1 : ((1 : Int) == p) = false := by simp; omega
  have j0 := i0
  have j1 := i1
  have j2 := i2
  have j3 := i3
  have j4 := i4
  go_enter Tryz.func75, Tryz.ntmps75
  go_wp2_with (first | (go_at_call 124; refine (isKind_any _ _).mono ?_; rintro e w' ⟨rfl, rfl⟩) | (refine wpList_load_row rfl 198 _ rfl 0 rfl tt _ fr _ hg Tryz.underlying198 rfl (by kernel_rfl) ?_))
  refine wp_loop_rounds 6 ?_
  rw [rounds_succ]
  go_wp2
  rw [rounds_succ]
  go_wp2
  rw [rounds_succ]
  go_wp2
  rw [rounds_succ]
  go_wp2
  rw [rounds_succ]
  go_wp2
  rw [rounds_succ]
  go_wp2
  go_ret3
  refine ⟨rfl, ?_⟩
  repeat (first | exact Below.refl _ _ | refine Below.drew ?_ | refine Below.alloc ?_ (by simp; try omega) _)

set_option maxRecDepth 100000 in
set_option maxHeartbeats 1000000 in
theorem sig_1n (p : Int) (h0 : ¬ p = 0) (h1 : ¬ p = 1) (w : World) (tt : TypeId) (fr : Nat × Nat) (hg : w.heap[0]? = some (.cells tabCells tt fr)) :
    Calls Tryz.prog 75 #[.int .i64 1, .int .i64 p] w fun e w' => e = .returned (.tuple #[.string { data := #[] }, .string { data := #[] }, .int .i64 16]) ∧ Below w.heap.size w w' := by
  have e0 : ((0 : Int) == p) = false := by simp; omega
  have e1 : ((1 : Int) == p) = false := by simp; omega
  have j0 := i0
  have j1 := i1
  have j2 := i2
  have j3 := i3
  have j4 := i4
  go_enter Tryz.func75, Tryz.ntmps75
  go_wp2_with (first | (go_at_call 124; refine (isKind_any _ _).mono ?_; rintro e w' ⟨rfl, rfl⟩) | (refine wpList_load_row rfl 198 _ rfl 0 rfl tt _ fr _ hg Tryz.underlying198 rfl (by kernel_rfl) ?_))
  refine wp_loop_rounds 6 ?_
  rw [rounds_succ]
  go_wp2
  rw [rounds_succ]
  go_wp2
  rw [rounds_succ]
  go_wp2
  rw [rounds_succ]
  go_wp2
  rw [rounds_succ]
  go_wp2
  rw [rounds_succ]
  go_wp2
  go_ret3
  refine ⟨rfl, ?_⟩
  repeat (first | exact Below.refl _ _ | refine Below.drew ?_ | refine Below.alloc ?_ (by simp; try omega) _)

set_option maxRecDepth 100000 in
set_option maxHeartbeats 1000000 in
theorem sig_2n (p : Int) (h0 : ¬ p = 0) (w : World) (tt : TypeId) (fr : Nat × Nat) (hg : w.heap[0]? = some (.cells tabCells tt fr)) :
    Calls Tryz.prog 75 #[.int .i64 2, .int .i64 p] w fun e w' => e = .returned (.tuple #[.string { data := #[] }, .string { data := #[] }, .int .i64 16]) ∧ Below w.heap.size w w' := by
  have e0 : ((0 : Int) == p) = false := by simp; omega
  have j0 := i0
  have j1 := i1
  have j2 := i2
  have j3 := i3
  have j4 := i4
  go_enter Tryz.func75, Tryz.ntmps75
  go_wp2_with (first | (go_at_call 124; refine (isKind_any _ _).mono ?_; rintro e w' ⟨rfl, rfl⟩) | (refine wpList_load_row rfl 198 _ rfl 0 rfl tt _ fr _ hg Tryz.underlying198 rfl (by kernel_rfl) ?_))
  refine wp_loop_rounds 6 ?_
  rw [rounds_succ]
  go_wp2
  rw [rounds_succ]
  go_wp2
  rw [rounds_succ]
  go_wp2
  rw [rounds_succ]
  go_wp2
  rw [rounds_succ]
  go_wp2
  rw [rounds_succ]
  go_wp2
  go_ret3
  refine ⟨rfl, ?_⟩
  repeat (first | exact Below.refl _ _ | refine Below.drew ?_ | refine Below.alloc ?_ (by simp; try omega) _)

set_option maxHeartbeats 400000 in
theorem sig_no (k p : Int) (w : World) (h : k < 0 ∨ 2 < k) :
    Calls Tryz.prog 75 #[.int .i64 k, .int .i64 p] w fun e w' => e = .returned (.tuple #[.string { data := #[] }, .string { data := #[] }, .int .i64 9]) ∧ Below w.heap.size w w' := by
  have HH : Hid (k < 0 ∨ 2 < k) := h
  clear h
  go_enter Tryz.func75, Tryz.ntmps75
  go_wp2_with (first | (go_at_call 124; refine (isKind_no _ _ HH.out).mono ?_; rintro e w' ⟨rfl, rfl⟩))
  go_ret3
  exact ⟨rfl, Below.refl _ _⟩

def sigA (k p : Int) : ByteArray := if k = 0 ∧ p = 0 then { data := #[105] } else if k = 0 ∧ p = 1 then { data := #[98] } else if k = 1 ∧ p = 0 then { data := #[115] } else if k = 1 ∧ p = 1 then { data := #[99] } else if k = 2 ∧ p = 0 then { data := #[114, 40, 101, 51, 113, 51, 105, 41] } else { data := #[] }
def sigB (k p : Int) : ByteArray := if k = 0 ∧ p = 0 then { data := #[99] } else if k = 0 ∧ p = 1 then { data := #[99] } else if k = 1 ∧ p = 0 then { data := #[99] } else if k = 1 ∧ p = 1 then { data := #[113, 52, 115] } else if k = 2 ∧ p = 0 then { data := #[117, 40, 98, 113, 51, 105, 41] } else { data := #[] }
def sigE (k p : Int) : Int := if k < 0 ∨ 2 < k then 9 else if k = 0 ∧ p = 0 then 0 else if k = 0 ∧ p = 1 then 0 else if k = 1 ∧ p = 0 then 0 else if k = 1 ∧ p = 1 then 0 else if k = 2 ∧ p = 0 then 0 else 16

theorem sg_cases {Q : Int → Int → Prop} (k p : Int) (hno : ∀ k p, k < 0 ∨ 2 < k → Q k p) (h00 : Q 0 0) (h01 : Q 0 1) (h10 : Q 1 0) (h11 : Q 1 1) (h20 : Q 2 0) (h0 : ∀ p, ¬ p = 0 → ¬ p = 1 → Q 0 p) (h1 : ∀ p, ¬ p = 0 → ¬ p = 1 → Q 1 p) (h2 : ∀ p, ¬ p = 0 → Q 2 p) : Q k p := by
  by_cases a : k < 0 ∨ 2 < k
  · exact hno k p a
  have hk : k = 0 ∨ k = 1 ∨ k = 2 := by omega
  rcases hk with rfl | rfl | rfl
  · by_cases b : p = 0
    · subst b; exact h00
    · by_cases c : p = 1
      · subst c; exact h01
      · exact h0 p b c
  · by_cases b : p = 0
    · subst b; exact h10
    · by_cases c : p = 1
      · subst c; exact h11
      · exact h1 p b c
  · by_cases b : p = 0
    · subst b; exact h20
    · exact h2 p b

abbrev sgTuple (k p : Int) : Value := .tuple #[.string (sigA k p), .string (sigB k p), .int .i64 (sigE k p)]

theorem tup_no (k p : Int) (h : k < 0 ∨ 2 < k) : sgTuple k p = .tuple #[.string { data := #[] }, .string { data := #[] }, .int .i64 9] := by
  have a0 : ¬ k = 0 := by omega
  have a1 : ¬ k = 1 := by omega
  have a2 : ¬ k = 2 := by omega
  simp [sgTuple, sigA, sigB, sigE, a0, a1, a2, h]
theorem tup_0 (p : Int) (h0 : ¬ p = 0) (h1 : ¬ p = 1) : sgTuple 0 p = .tuple #[.string { data := #[] }, .string { data := #[] }, .int .i64 16] := by
  simp [sgTuple, sigA, sigB, sigE, h0, h1]
theorem tup_1 (p : Int) (h0 : ¬ p = 0) (h1 : ¬ p = 1) : sgTuple 1 p = .tuple #[.string { data := #[] }, .string { data := #[] }, .int .i64 16] := by
  simp [sgTuple, sigA, sigB, sigE, h0, h1]
theorem tup_2 (p : Int) (h0 : ¬ p = 0) : sgTuple 2 p = .tuple #[.string { data := #[] }, .string { data := #[] }, .int .i64 16] := by
  simp [sgTuple, sigA, sigB, sigE, h0]

theorem sig_any (k p : Int) (w : World) (tt : TypeId) (fr : Nat × Nat) (hg : w.heap[0]? = some (.cells tabCells tt fr)) :
    Calls Tryz.prog 75 #[.int .i64 k, .int .i64 p] w fun e w' => e = .returned (sgTuple k p) ∧ Below w.heap.size w w' := by
  refine sg_cases (Q := fun k p => Calls Tryz.prog 75 #[.int .i64 k, .int .i64 p] w fun e w' => e = .returned (sgTuple k p) ∧ Below w.heap.size w w') k p ?_ ?_ ?_ ?_ ?_ ?_ ?_ ?_ ?_
  · intro k p h
    rw [tup_no k p h]
    exact sig_no k p w h
  · exact sig_00 w tt fr hg
  · exact sig_01 w tt fr hg
  · exact sig_10 w tt fr hg
  · exact sig_11 w tt fr hg
  · exact sig_20 w tt fr hg
  · intro p h0 h1
    rw [tup_0 p h0 h1]
    exact sig_0n p h0 h1 w tt fr hg
  · intro p h0 h1
    rw [tup_1 p h0 h1]
    exact sig_1n p h0 h1 w tt fr hg
  · intro p h0
    rw [tup_2 p h0]
    exact sig_2n p h0 w tt fr hg

set_option maxHeartbeats 400000 in
theorem face_any (k p : Int) (w : World) (tt : TypeId) (fr : Nat × Nat) (hg : w.heap[0]? = some (.cells tabCells tt fr)) :
    Calls Tryz.prog 41 #[.int .i64 k, .int .i64 p] w fun e w' => e = .returned (sgTuple k p) ∧ Below w.heap.size w w' := by
  go_enter Tryz.func41, Tryz.ntmps41
  go_wp2_with (first | (go_at_call 75; refine (sig_any _ _ _ tt fr (by exact hg)).mono ?_; rintro e w' ⟨rfl, hb⟩))
  go_ret3
  exact ⟨rfl, hb⟩

set_option maxHeartbeats 400000 in
theorem ref_00 (w : World) :
    Calls Tryz.prog 155 #[.int .i64 0, .int .i64 0] w fun e w' => e = .returned (.tuple #[.string { data := #[105] }, .string { data := #[99] }, .int .i64 0]) ∧ w' = w := by
  go_enter Tryz.func155, Tryz.ntmps155
  go_wp2
  go_ret3
  exact ⟨rfl, rfl⟩

set_option maxHeartbeats 400000 in
theorem ref_01 (w : World) :
    Calls Tryz.prog 155 #[.int .i64 0, .int .i64 1] w fun e w' => e = .returned (.tuple #[.string { data := #[98] }, .string { data := #[99] }, .int .i64 0]) ∧ w' = w := by
  go_enter Tryz.func155, Tryz.ntmps155
  go_wp2
  go_ret3
  exact ⟨rfl, rfl⟩

set_option maxHeartbeats 400000 in
theorem ref_10 (w : World) :
    Calls Tryz.prog 155 #[.int .i64 1, .int .i64 0] w fun e w' => e = .returned (.tuple #[.string { data := #[115] }, .string { data := #[99] }, .int .i64 0]) ∧ w' = w := by
  go_enter Tryz.func155, Tryz.ntmps155
  go_wp2
  go_ret3
  exact ⟨rfl, rfl⟩

set_option maxHeartbeats 400000 in
theorem ref_11 (w : World) :
    Calls Tryz.prog 155 #[.int .i64 1, .int .i64 1] w fun e w' => e = .returned (.tuple #[.string { data := #[99] }, .string { data := #[113, 52, 115] }, .int .i64 0]) ∧ w' = w := by
  go_enter Tryz.func155, Tryz.ntmps155
  go_wp2
  go_ret3
  exact ⟨rfl, rfl⟩

set_option maxHeartbeats 400000 in
theorem ref_20 (w : World) :
    Calls Tryz.prog 155 #[.int .i64 2, .int .i64 0] w fun e w' => e = .returned (.tuple #[.string { data := #[114, 40, 101, 51, 113, 51, 105, 41] }, .string { data := #[117, 40, 98, 113, 51, 105, 41] }, .int .i64 0]) ∧ w' = w := by
  go_enter Tryz.func155, Tryz.ntmps155
  go_wp2
  go_ret3
  exact ⟨rfl, rfl⟩

set_option maxHeartbeats 400000 in
theorem ref_0n (p : Int) (h0 : ¬ p = 0) (h1 : ¬ p = 1) (w : World) :
    Calls Tryz.prog 155 #[.int .i64 0, .int .i64 p] w fun e w' => e = .returned (.tuple #[.string { data := #[] }, .string { data := #[] }, .int .i64 16]) ∧ w' = w := by
  have e0 : (p == 0) = false := by simp; omega
  have e1 : (p == 1) = false := by simp; omega
  go_enter Tryz.func155, Tryz.ntmps155
  go_wp2
  go_ret3
  exact ⟨rfl, rfl⟩

set_option maxHeartbeats 400000 in
theorem ref_1n (p : Int) (h0 : ¬ p = 0) (h1 : ¬ p = 1) (w : World) :
    Calls Tryz.prog 155 #[.int .i64 1, .int .i64 p] w fun e w' => e = .returned (.tuple #[.string { data := #[] }, .string { data := #[] }, .int .i64 16]) ∧ w' = w := by
  have e0 : (p == 0) = false := by simp; omega
  have e1 : (p == 1) = false := by simp; omega
  go_enter Tryz.func155, Tryz.ntmps155
  go_wp2
  go_ret3
  exact ⟨rfl, rfl⟩

set_option maxHeartbeats 400000 in
theorem ref_2n (p : Int) (h0 : ¬ p = 0) (w : World) :
    Calls Tryz.prog 155 #[.int .i64 2, .int .i64 p] w fun e w' => e = .returned (.tuple #[.string { data := #[] }, .string { data := #[] }, .int .i64 16]) ∧ w' = w := by
  have e0 : (p == 0) = false := by simp; omega
  go_enter Tryz.func155, Tryz.ntmps155
  go_wp2
  go_ret3
  exact ⟨rfl, rfl⟩

set_option maxHeartbeats 400000 in
theorem ref_lo (k p : Int) (h : k < 0) (w : World) :
    Calls Tryz.prog 155 #[.int .i64 k, .int .i64 p] w fun e w' => e = .returned (.tuple #[.string { data := #[] }, .string { data := #[] }, .int .i64 9]) ∧ w' = w := by
  go_enter Tryz.func155, Tryz.ntmps155
  go_wp2
  go_ret3
  exact ⟨rfl, rfl⟩

set_option maxHeartbeats 400000 in
theorem ref_hi (k p : Int) (h : 2 < k) (w : World) :
    Calls Tryz.prog 155 #[.int .i64 k, .int .i64 p] w fun e w' => e = .returned (.tuple #[.string { data := #[] }, .string { data := #[] }, .int .i64 9]) ∧ w' = w := by
  have h' : ¬ k < 0 := by omega
  go_enter Tryz.func155, Tryz.ntmps155
  go_wp2
  go_ret3
  exact ⟨rfl, rfl⟩

theorem ref_any (k p : Int) (w : World) :
    Calls Tryz.prog 155 #[.int .i64 k, .int .i64 p] w fun e w' => e = .returned (sgTuple k p) ∧ w' = w := by
  refine sg_cases (Q := fun k p => Calls Tryz.prog 155 #[.int .i64 k, .int .i64 p] w fun e w' => e = .returned (sgTuple k p) ∧ w' = w) k p ?_ ?_ ?_ ?_ ?_ ?_ ?_ ?_ ?_
  · intro k p h
    rw [tup_no k p h]
    rcases h with h | h
    · exact ref_lo k p h w
    · exact ref_hi k p h w
  · exact ref_00 w
  · exact ref_01 w
  · exact ref_10 w
  · exact ref_11 w
  · exact ref_20 w
  · intro p h0 h1
    rw [tup_0 p h0 h1]
    exact ref_0n p h0 h1 w
  · intro p h0 h1
    rw [tup_1 p h0 h1]
    exact ref_1n p h0 h1 w
  · intro p h0
    rw [tup_2 p h0]
    exact ref_2n p h0 w

theorem heap0 {w w1 : World} {tt : TypeId} {fr : Nat × Nat} (hg : w.heap[0]? = some (.cells tabCells tt fr)) (hb : Below w.heap.size w w1) : w1.heap[0]? = some (.cells tabCells tt fr) := by
  have h0 : 0 < w.heap.size := by
    rcases Nat.lt_or_ge 0 w.heap.size with h | h
    · exact h
    · rw [Array.getElem?_eq_none h] at hg
      cases hg
  rw [hb.block 0 h0]
  exact hg

theorem tup_20 : sgTuple 2 0 = .tuple #[.string { data := #[114, 40, 101, 51, 113, 51, 105, 41] }, .string { data := #[117, 40, 98, 113, 51, 105, 41] }, .int .i64 0] := rfl

theorem face_20 (w : World) (tt : TypeId) (fr : Nat × Nat) (hg : w.heap[0]? = some (.cells tabCells tt fr)) :
    Calls Tryz.prog 41 #[.int .i64 2, .int .i64 0] w fun e w' => e = .returned (.tuple #[.string { data := #[114, 40, 101, 51, 113, 51, 105, 41] }, .string { data := #[117, 40, 98, 113, 51, 105, 41] }, .int .i64 0]) ∧ Below w.heap.size w w' := by
  have h := face_any 2 0 w tt fr hg
  rw [tup_20] at h
  exact h

set_option maxHeartbeats 400000 in
theorem one_any (k p : Int) (w : World) (tt : TypeId) (fr : Nat × Nat) (hg : w.heap[0]? = some (.cells tabCells tt fr)) :
    Calls Tryz.prog 92 #[.int .i64 k, .int .i64 p] w fun e w' => e = .returned (.bool true) ∧ Below w.heap.size w w' := by
  go_enter Tryz.func92, Tryz.ntmps92
  go_wp2_with (first | (go_at_call 41; refine (face_any _ _ _ tt fr (by exact hg)).mono ?_; rintro e w' ⟨rfl, hb⟩) | (go_at_call 155; refine (ref_any _ _ _).mono ?_; rintro e w2 ⟨rfl, rfl⟩) | (go_at_call 88; go_in))
  go_ret
  exact ⟨rfl, hb⟩

end Go.Proofs.YtblomippkddgiaaGreatDoor
/-
  The types of a procedure, read.
-/
namespace Go.Proofs.YtblomippkddgiaaGreatDoor
open Go.RowKit

def Tab0 (w : World) : Prop := ∃ tt fr, w.heap[0]? = some (.cells tabCells tt fr)
theorem Tab0.below {w w' : World} (h : Tab0 w) (hb : Below w.heap.size w w') : Tab0 w' := by
  obtain ⟨tt, fr, hg⟩ := h
  exact ⟨tt, fr, heap0 hg hb⟩
theorem Tab0.keeps {F : Foot} {w w' : World} (h : Tab0 w) (hk : Keeps F w w') (h0 : ¬ F 0) : Tab0 w' := by
  obtain ⟨tt, fr, hg⟩ := h
  exact ⟨tt, fr, hk.at hg h0⟩

/- what a procedure's types are, by the document -/
theorem sig_some {k p : Int} {f t : ByteArray} (h : R.sigP k p = some (f, t)) : sgTuple k p = .tuple #[.string f, .string t, .int .i64 0] ∧ (V.Pt.chk (V.nx f) f.size).1 = 0 ∧ (V.Pt.chk (V.nx t) t.size).1 = 0 ∧ (p = 0 ∨ p = 1) ∧ (0 ≤ k ∧ k ≤ 2) := by
  unfold R.sigP at h
  split at h
  · rename_i q; obtain ⟨rfl, rfl⟩ := q; cases h; exact ⟨rfl, by decide +kernel, by decide +kernel, by omega, by omega⟩
  · split at h
    · rename_i q; obtain ⟨rfl, rfl⟩ := q; cases h; exact ⟨rfl, by decide +kernel, by decide +kernel, by omega, by omega⟩
    · split at h
      · rename_i q; obtain ⟨rfl, rfl⟩ := q; cases h; exact ⟨rfl, by decide +kernel, by decide +kernel, by omega, by omega⟩
      · split at h
        · rename_i q; obtain ⟨rfl, rfl⟩ := q; cases h; exact ⟨rfl, by decide +kernel, by decide +kernel, by omega, by omega⟩
        · split at h
          · rename_i q; obtain ⟨rfl, rfl⟩ := q; cases h; exact ⟨rfl, by decide +kernel, by decide +kernel, by omega, by omega⟩
          · cases h
theorem sig_none {k p : Int} (hk : 0 ≤ k ∧ k ≤ 2) (h : R.sigP k p = none) : sgTuple k p = .tuple #[.string ⟨#[]⟩, .string ⟨#[]⟩, .int .i64 16] := by
  obtain rfl | rfl | rfl : k = 0 ∨ k = 1 ∨ k = 2 := by omega
  · have h0 : ¬ p = 0 := fun e => by subst e; simp [R.sigP] at h
    have h1 : ¬ p = 1 := fun e => by subst e; simp [R.sigP] at h
    exact tup_0 p h0 h1
  · have h0 : ¬ p = 0 := fun e => by subst e; simp [R.sigP] at h
    have h1 : ¬ p = 1 := fun e => by subst e; simp [R.sigP] at h
    exact tup_1 p h0 h1
  · have h0 : ¬ p = 0 := fun e => by subst e; simp [R.sigP] at h
    exact tup_2 p h0

set_option maxRecDepth 100000 in
set_option maxHeartbeats 2000000 in
theorem types_none (k p : Int) (hk : 0 ≤ k ∧ k ≤ 2) (h : R.sigP k p = none) (w : World) (ht : Tab0 w) : Calls Tryz.prog 185 #[.int .i64 k, .int .i64 p] w fun e w' => e = gaveUp 16 0 ∧ Below w.heap.size w w' := by
  have HS : Hid (∀ w', Below w.heap.size w w' → Calls Tryz.prog 75 #[.int .i64 k, .int .i64 p] w' fun e w'' => e = .returned (.tuple #[.string ⟨#[]⟩, .string ⟨#[]⟩, .int .i64 16]) ∧ Below w'.heap.size w' w'') := fun w' hb => by
    obtain ⟨tt, fr, hg⟩ := ht.below hb
    refine (sig_any k p w' tt fr hg).mono ?_
    rintro e w'' ⟨rfl, q⟩
    exact ⟨by rw [sig_none hk h], q⟩
  have HB : Hid (Below w.heap.size w ((w.alloc (.cells #[.int .u8 0, .int .i64 0, .slice none 0 0] 153)).alloc (.cells #[.int .u8 0, .int .i64 0, .slice none 0 0] 153))) := ((Below.refl _ _).alloc (Nat.le_refl _) _).alloc (by simp) _
  go_enter Tryz.func185, Tryz.ntmps185
  go_wp2_with fail
  refine ((unhide HS) _ (unhide HB)).mono ?_
  rintro e w1 ⟨rfl, hb1⟩
  have HB1 := hide ((unhide HB).trans (hb1.mono (unhide HB).size))
  clear hb1
  go_wp2
  exact ⟨rfl, rfl, unhide HB1⟩

set_option maxRecDepth 100000 in
set_option maxHeartbeats 2000000 in
theorem types_some (k p : Int) (f t : ByteArray) (h : R.sigP k p = some (f, t)) (w : World) (ht : Tab0 w) : Calls Tryz.prog 185 #[.int .i64 k, .int .i64 p] w fun e w' => (∃ a0 a1 a2 b0 b1 b2, e = .returned (.tuple #[.agg #[a0, a1, a2], .agg #[b0, b1, b2]]) ∧ (∃ S, V.Rep w' S (V.nx f) (f.size + 1) 0 a0 a1 a2) ∧ (∃ S, V.Rep w' S (V.nx t) (t.size + 1) 0 b0 b1 b2)) ∧ Below w.heap.size w w' := by
  obtain ⟨hs, hf, htt, _, _⟩ := sig_some h
  have HS : Hid (∀ w', Below w.heap.size w w' → Calls Tryz.prog 75 #[.int .i64 k, .int .i64 p] w' fun e w'' => e = .returned (.tuple #[.string f, .string t, .int .i64 0]) ∧ Below w'.heap.size w' w'') := fun w' hb => by
    obtain ⟨tt, fr, hg⟩ := ht.below hb
    refine (sig_any k p w' tt fr hg).mono ?_
    rintro e w'' ⟨rfl, q⟩
    exact ⟨by rw [hs], q⟩
  have HR : Hid (∀ T w', (V.Pt.chk (V.nx T) T.size).1 = 0 → Calls Tryz.prog 78 #[.string T] w' fun e w'' => ∃ c0 c1 c2, e = .returned (.agg #[c0, c1, c2]) ∧ V.Rep w'' (fun k => w'.heap.size ≤ k) (V.nx T) (T.size + 1) 0 c0 c1 c2 ∧ Below w'.heap.size w' w'') := fun T w' hT => by
    refine (V.shape_any T w').mono ?_
    rintro e w'' ⟨h1, h2⟩
    rw [if_pos hT] at h1
    obtain ⟨c0, c1, c2, rfl, h3⟩ := h1
    exact ⟨c0, c1, c2, rfl, h3, h2⟩
  have HB : Hid (Below w.heap.size w ((w.alloc (.cells #[.int .u8 0, .int .i64 0, .slice none 0 0] 153)).alloc (.cells #[.int .u8 0, .int .i64 0, .slice none 0 0] 153))) := ((Below.refl _ _).alloc (Nat.le_refl _) _).alloc (by simp) _
  have hz0 : Hid (((w.alloc (.cells #[.int .u8 0, .int .i64 0, .slice none 0 0] 153)).alloc (.cells #[.int .u8 0, .int .i64 0, .slice none 0 0] 153)).heap[w.heap.size]? = some (.cells #[.int .u8 0, .int .i64 0, .slice none 0 0] 153 (0, 0))) := (Below.heap_alloc _ _ _ (by simp)).trans (heap_alloc_new w _)
  have hz1 : Hid (((w.alloc (.cells #[.int .u8 0, .int .i64 0, .slice none 0 0] 153)).alloc (.cells #[.int .u8 0, .int .i64 0, .slice none 0 0] 153)).heap[w.heap.size + 1]? = some (.cells #[.int .u8 0, .int .i64 0, .slice none 0 0] 153 (0, 0))) := by
    show _ = _
    have := heap_alloc_new (w.alloc (.cells #[.int .u8 0, .int .i64 0, .slice none 0 0] 153)) (.cells #[.int .u8 0, .int .i64 0, .slice none 0 0] 153)
    simpa using this
  have hz2 : Hid (((w.alloc (.cells #[.int .u8 0, .int .i64 0, .slice none 0 0] 153)).alloc (.cells #[.int .u8 0, .int .i64 0, .slice none 0 0] 153)).heap.size = w.heap.size + 2) := by show _ = _; simp
  go_enter Tryz.func185, Tryz.ntmps185
  go_wp2_with fail
  refine ((unhide HS) _ (unhide HB)).mono ?_
  rintro e w1 ⟨rfl, hb1⟩
  have HC1 := hide ((unhide HR) f w1 hf)
  have HB1 := hide hb1
  clear hb1
  go_wp2_with fail
  refine (unhide HC1).mono ?_
  rintro e w2 ⟨a0, a1, a2, rfl, hR1, hb2⟩
  have HC2 := hide ((unhide HR) t w2 htt)
  have HR1 := hide hR1
  have HB2 := hide hb2
  clear hb2 hR1
  go_wp2_with fail
  refine (unhide HC2).mono ?_
  rintro e w3 ⟨b0, b1, b2, rfl, hR2, hb3⟩
  obtain ⟨⟨x0, rfl⟩, ⟨x1, rfl⟩, ⟨ea, en, ec, rfl⟩⟩ := V.rep_shape (unhide HR1)
  obtain ⟨⟨y0, rfl⟩, ⟨y1, rfl⟩, ⟨fa, fn, fc, rfl⟩⟩ := V.rep_shape hR2
  have hs1 := (unhide HB1).size
  have hs2 := (unhide HB2).size
  rw [unhide hz2] at hs1
  have hB13 : Below w1.heap.size w1 w3 := (unhide HB2).trans (hb3.mono (unhide HB2).size)
  have hB03 := (unhide HB1).trans (hB13.mono (unhide HB1).size)
  rw [unhide hz2] at hB03
  have k0 := (hB03.block w.heap.size (by omega)).trans (unhide hz0)
  have k1 := (hB03.block (w.heap.size + 1) (by omega)).trans (unhide hz1)
  have p0 : w3.cell? ⟨w.heap.size, 0, none⟩ = some (.int .u8 0) := cell_of k0 0 _ rfl
  have p1 : w3.cell? ⟨w.heap.size, 1, none⟩ = some (.int .i64 0) := cell_of k0 1 _ rfl
  have p2 : w3.cell? ⟨w.heap.size, 2, none⟩ = some (.slice none 0 0) := cell_of k0 2 _ rfl
  have q0 : w3.cell? ⟨w.heap.size + 1, 0, none⟩ = some (.int .u8 0) := cell_of k1 0 _ rfl
  have q1 : w3.cell? ⟨w.heap.size + 1, 1, none⟩ = some (.int .i64 0) := cell_of k1 1 _ rfl
  have q2 : w3.cell? ⟨w.heap.size + 1, 2, none⟩ = some (.slice none 0 0) := cell_of k1 2 _ rfl
  have u0 : ∀ j, w3.frozen? ⟨w.heap.size, j, none⟩ = false := fun j => open_list k0
  have u1 : ∀ j, w3.frozen? ⟨w.heap.size + 1, j, none⟩ = false := fun j => open_list k1
  have hs3 := hb3.size
  have HEND : Hid (∀ W : World, Keeps (fun k => k = w.heap.size ∨ k = w.heap.size + 1) w3 W → (∃ S, V.Rep W S (V.nx f) (f.size + 1) 0 (.int .u8 x0) (.int .i64 x1) (.slice ea en ec)) ∧ (∃ S, V.Rep W S (V.nx t) (t.size + 1) 0 (.int .u8 y0) (.int .i64 y1) (.slice fa fn fc)) ∧ Below w.heap.size w W) := fun W hk => by
    refine ⟨⟨_, V.rep_above ⟨Nat.le_trans hs3 hk.size, fun k hS hl => ?_⟩ (unhide HR1)⟩, ⟨_, V.rep_above ⟨hk.size, fun k hS hl => ?_⟩ hR2⟩, ?_⟩
    · have hS : w1.heap.size ≤ k := hS
      rw [hk.block k (by omega) (by omega)]
      exact hb3.block k hl
    · have hS : w2.heap.size ≤ k := hS
      exact hk.block k hl (by omega)
    · exact ((unhide HB).trans (hB03.mono (by omega))).trans (hk.below (by omega) (fun k e => by omega))
  have l0 : w.heap.size < w3.heap.size := by omega
  have l1 : w.heap.size + 1 < w3.heap.size := by omega
  clear hR2 hb3 hB13 hB03 k0 k1 HR1 HB1 HB2 HC1 HC2 HR HS HB hz0 hz1 hz2 hs1 hs2 hs3
  go_wp2
  have hK : Keeps (fun k => k = w.heap.size ∨ k = w.heap.size + 1) w3 ((((((w3.setCell ⟨w.heap.size, 0, none⟩ (.int .u8 x0)).setCell ⟨w.heap.size, 1, none⟩ (.int .i64 x1)).setCell ⟨w.heap.size, 2, none⟩ (.slice ea en ec)).setCell ⟨w.heap.size + 1, 0, none⟩ (.int .u8 y0)).setCell ⟨w.heap.size + 1, 1, none⟩ (.int .i64 y1)).setCell ⟨w.heap.size + 1, 2, none⟩ (.slice fa fn fc)) :=
    ((((((Keeps.refl _ w3).setCell (p := ⟨w.heap.size, 0, none⟩) (Or.inl (Or.inl rfl)) _).setCell (p := ⟨w.heap.size, 1, none⟩) (Or.inl (Or.inl rfl)) _).setCell (p := ⟨w.heap.size, 2, none⟩) (Or.inl (Or.inl rfl)) _).setCell (p := ⟨w.heap.size + 1, 0, none⟩) (Or.inl (Or.inr rfl)) _).setCell (p := ⟨w.heap.size + 1, 1, none⟩) (Or.inl (Or.inr rfl)) _).setCell (p := ⟨w.heap.size + 1, 2, none⟩) (Or.inl (Or.inr rfl)) _
  obtain ⟨r1, r2, r3⟩ := (unhide HEND) _ hK
  refine ⟨rfl, .tuple #[.agg #[.int .u8 x0, .int .i64 x1, .slice ea en ec], .agg #[.int .u8 y0, .int .i64 y1, .slice fa fn fc]], ?_, ⟨_, _, _, _, _, _, rfl, r1, r2⟩, r3⟩
  clear r1 r2 r3 hK HEND
  simp [results, Tryz.results185, go_sem, p0, p1, p2, q0, q1, q2]
end Go.Proofs.YtblomippkddgiaaGreatDoor
