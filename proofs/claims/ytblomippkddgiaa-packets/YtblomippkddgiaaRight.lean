/-
  The landed code's look whether a packet is right.
-/
import Derived.Test.YtblomippkddgiaaFields
namespace Go.Proofs.Ytblomippkddgiaa
open Go.RowKit

def withinP (n lo hi : Int) (w : World) (e : Ending) (w' : World) : Prop := w' = w ∧ (((lo ≤ n ∧ n ≤ hi) ∧ e = .returned (.tuple #[])) ∨ (¬ (lo ≤ n ∧ n ≤ hi) ∧ e = gaveUp 7 0))
set_option maxRecDepth 100000 in
set_option maxHeartbeats 400000 in
theorem within_any (n lo hi : Int) (w : World) : Calls Try.prog 84 #[.int .i64 n, .int .i64 lo, .int .i64 hi] w (withinP n lo hi w) := by
  by_cases h1 : n < lo
  · go_enter Try.func84, Try.ntmps84
    go_wp2
    exact ⟨rfl, rfl, Or.inr ⟨by omega, rfl⟩⟩
  · by_cases h2 : hi < n
    · go_enter Try.func84, Try.ntmps84
      go_wp2
      exact ⟨rfl, rfl, Or.inr ⟨by omega, rfl⟩⟩
    · go_enter Try.func84, Try.ntmps84
      go_wp2
      go_end0
      exact ⟨rfl, Or.inl ⟨⟨by omega, by omega⟩, rfl⟩⟩

def boundsI (kind part off : Int) : Int × Int := if kind = 1 ∨ kind = 5 then (if part < off - 1 then (8, 8) else (0, 8)) else (0, 0)
theorem bounds_ok (p : Pk) : ((boundsI p.kind p.part p.off).1 ≤ (p.body.length : Int) ∧ (p.body.length : Int) ≤ (boundsI p.kind p.part p.off).2) ↔ bodyOk p := by
  unfold boundsI bodyOk
  split
  · split <;> simp <;> omega
  · simp

abbrev pvs (k c li ln sq u pa o : Int) (pl : Bool) (S : ByteArray) : Value := .agg #[.int .i64 k, .int .i64 c, .int .i64 li, .int .i64 ln, .int .i64 sq, .int .i64 u, .int .i64 pa, .int .i64 o, .bool pl, .string S]

set_option maxRecDepth 100000 in
set_option maxHeartbeats 1000000 in
theorem bounds_any (k c li ln sq u pa o : Int) (pl : Bool) (S : ByteArray) (w : World) (ho : 1 ≤ o ∧ o ≤ 9) :
    Calls Try.prog 85 #[pvs k c li ln sq u pa o pl S] w fun e w' => e = .returned (.tuple #[.int .i64 (boundsI k pa o).1, .int .i64 (boundsI k pa o).2]) ∧ Below w.heap.size w w' := by
  have hw : wrap64 (o - 1) = o - 1 := by unfold wrap64; omega
  have HB := hide ((Below.refl w.heap.size w).alloc (Nat.le_refl _) (.cells #[.int .i64 k, .int .i64 c, .int .i64 li, .int .i64 ln, .int .i64 sq, .int .i64 u, .int .i64 pa, .int .i64 o, .bool pl, .string S] 59))
  by_cases h1 : k = 1
  · subst h1
    by_cases h2 : pa < o - 1
    · have e : boundsI 1 pa o = (8, 8) := by simp [boundsI, h2]
      rw [e]
      go_enter Try.func85, Try.ntmps85
      go_wp2
      exact bodyPost_ret (v := .tuple #[.int .i64 8, .int .i64 8]) (by simp [results, Try.results85, go_sem]) rfl ⟨rfl, unhide HB⟩
    · have e : boundsI 1 pa o = (0, 8) := by simp [boundsI, h2]
      rw [e]
      go_enter Try.func85, Try.ntmps85
      go_wp2
      exact bodyPost_ret (v := .tuple #[.int .i64 0, .int .i64 8]) (by simp [results, Try.results85, go_sem]) rfl ⟨rfl, unhide HB⟩
  · have hk : (k != 1) = true := by simpa using h1
    by_cases h5 : k = 5
    · subst h5
      by_cases h2 : pa < o - 1
      · have e : boundsI 5 pa o = (8, 8) := by simp [boundsI, h2]
        rw [e]
        go_enter Try.func85, Try.ntmps85
        go_wp2
        exact bodyPost_ret (v := .tuple #[.int .i64 8, .int .i64 8]) (by simp [results, Try.results85, go_sem]) rfl ⟨rfl, unhide HB⟩
      · have e : boundsI 5 pa o = (0, 8) := by simp [boundsI, h2]
        rw [e]
        go_enter Try.func85, Try.ntmps85
        go_wp2
        exact bodyPost_ret (v := .tuple #[.int .i64 0, .int .i64 8]) (by simp [results, Try.results85, go_sem]) rfl ⟨rfl, unhide HB⟩
    · have hk5 : (k != 5) = true := by simpa using h5
      have e : boundsI k pa o = (0, 0) := by simp [boundsI, h1, h5]
      rw [e]
      clear h1 h5
      go_enter Try.func85, Try.ntmps85
      go_wp2
      exact bodyPost_ret (v := .tuple #[.int .i64 0, .int .i64 0]) (by simp [results, Try.results85, go_sem]) rfl ⟨rfl, unhide HB⟩

def rightPost (p : Pk) (w : World) (e : Ending) (w' : World) : Prop := Below w.heap.size w w' ∧ ((RightP p ∧ e = .returned (.tuple #[])) ∨ (¬ RightP p ∧ e = gaveUp 7 0))

theorem right_why {k c li ln sq u pa o : Int} {pl : Bool} {body : List UInt8} (h : RightP ⟨k, c, li, ln, sq, u, pa, o, pl, body⟩) : ((1 ≤ k ∧ k ≤ 7) ∧ (0 ≤ c ∧ c ≤ 2) ∧ (1 ≤ li ∧ li ≤ 255) ∧ (0 ≤ ln ∧ ln ≤ 2) ∧ (1 ≤ sq ∧ sq ≤ 999) ∧ (1 ≤ u ∧ u ≤ 255) ∧ (1 ≤ o ∧ o ≤ 9) ∧ (0 ≤ pa ∧ pa ≤ o - 1)) ∧ ((boundsI k pa o).1 ≤ (body.length : Int) ∧ (body.length : Int) ≤ (boundsI k pa o).2) := by
  obtain ⟨h1, h2, h3, h4, h5, h6, h7, h8, h9⟩ := h
  exact ⟨⟨h1, h2, h3, h4, h5, h6, h7, h8⟩, (bounds_ok _).2 h9⟩

set_option maxRecDepth 100000 in
set_option maxHeartbeats 4000000 in
theorem right_any (p : Pk) (w : World) : Calls Try.prog 63 #[pv p] w (rightPost p w) := by
  have HW := hide within_any
  have HBD := hide bounds_any
  obtain ⟨k, c, li, ln, sq, u, pa, o, pl, body⟩ := p
  have hsz := str_size body
  obtain ⟨S, hS⟩ : ∃ S, S = str body := ⟨_, rfl⟩
  have HB := hide ((Below.refl w.heap.size w).alloc (Nat.le_refl _) (.cells #[.int .i64 k, .int .i64 c, .int .i64 li, .int .i64 ln, .int .i64 sq, .int .i64 u, .int .i64 pa, .int .i64 o, .bool pl, .string S] 59))
  have HWH : Hid (RightP ⟨k, c, li, ln, sq, u, pa, o, pl, body⟩ → _) := right_why
  have HOK := hide (bounds_ok ⟨k, c, li, ln, sq, u, pa, o, pl, body⟩)
  obtain ⟨post, hpost⟩ : ∃ post, post = rightPost ⟨k, c, li, ln, sq, u, pa, o, pl, body⟩ w := ⟨_, rfl⟩
  have HNO : Hid (∀ w', Below w.heap.size w w' → ¬ RightP ⟨k, c, li, ln, sq, u, pa, o, pl, body⟩ → post (gaveUp 7 0) w') := by
    rw [hpost]
    exact fun w' hb hr => ⟨hb, Or.inr ⟨hr, rfl⟩⟩
  have HYES : Hid (∀ w', Below w.heap.size w w' → RightP ⟨k, c, li, ln, sq, u, pa, o, pl, body⟩ → post (.returned (.tuple #[])) w') := by
    rw [hpost]
    exact fun w' hb hr => ⟨hb, Or.inl ⟨hr, rfl⟩⟩
  show Calls Try.prog 63 #[pvs k c li ln sq u pa o pl (str body)] w _
  rw [← hS, ← hpost]
  have hsz2 : (S.size : Int) = (body.length : Int) := by rw [hS, hsz]
  clear hsz hS hpost
  go_enter Try.func63, Try.ntmps63
  go_wp2_with (first
    | (go_at_call 84; refine ((unhide HW) _ _ _ _).mono ?_; rintro e w1 ⟨rfl, ⟨hin, rfl⟩ | ⟨hout, rfl⟩⟩; rotate_left; (exact ⟨rfl, (unhide HNO) _ (unhide HB) (fun h => by have hh := ((unhide HWH) h).1; omega)⟩); have ⟨hin1, hin2⟩ := hin))
  refine ((unhide HBD) _ _ _ _ _ _ _ _ _ _ _ (by omega)).mono ?_
  rintro e w2 ⟨rfl, hb2⟩
  have hbw := hide ((unhide HB).trans (hb2.mono (by simp)))
  have c9 : w2.cell? ⟨w.heap.size, 9, none⟩ = some (.string S) := (hb2.cell (p := ⟨w.heap.size, 9, none⟩) (by simp)).trans (by simp [go_sem])
  generalize boundsI k pa o = B at *
  obtain ⟨b1, b2⟩ := B
  go_wp2_with fail
  refine ((unhide HW) _ _ _ _).mono ?_
  rintro e w1 ⟨rfl, ⟨hin, rfl⟩ | ⟨hout, rfl⟩⟩
  · go_wp2
    go_end0
    refine (unhide HYES) _ (unhide hbw) ?_
    exact ⟨by omega, by omega, by omega, by omega, by omega, by omega, by omega, by omega, (unhide HOK).1 hin⟩
  · go_wp2
    exact ⟨rfl, (unhide HNO) _ (unhide hbw) (fun h => hout ((unhide HWH) h).2)⟩

end Go.Proofs.Ytblomippkddgiaa
