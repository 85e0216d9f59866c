/-
  The law's 'same' and 'shows'.
-/
import Derived.Test.YtblomippkddgiaaVMarks
namespace Go.Proofs.Ytblomippkddgiaa.V
open Go.RowKit

theorem row_items {w : World} {B : Nat} {O : Value} {v : List It} (h : w.ownsRow B 31 2 O v.length (flat v)) : Items w O v := by
  rcases h.2 with ⟨rfl, h0⟩ | ⟨g, cap, cur, rfl, _, hg, hnc, _⟩
  · have : v = [] := List.eq_nil_of_length_eq_zero h0
    subst this
    exact ⟨none, 0, rfl, Nat.le_refl _, Or.inl rfl⟩
  · refine ⟨_, cap, rfl, hnc, Or.inr ⟨g, 0, rfl, lt_of_block hg, fun j x hx => ?_⟩⟩
    obtain ⟨h0, h1⟩ := flat_get v j x hx
    have c0 := h.cells (g := g) rfl _ _ h0
    have c1 := h.cells (g := g) rfl _ _ h1
    simp only [Addr.add_lit, Nat.zero_add] at c0 c1 ⊢
    exact ⟨c0, c1⟩

set_option maxRecDepth 100000 in
set_option maxHeartbeats 1000000 in
theorem same_any (w : World) (X Y : Value) (v : List It) (hX : Items w X v) (hY : Items w Y v) (hn : v.length ≤ 1000000) :
    Calls Try.prog 41 #[X, Y] w fun e w' => e = .returned (.bool true) ∧ Below w.heap.size w w' := by
  obtain ⟨n, hvn⟩ : ∃ n, n = v.length := ⟨_, rfl⟩
  obtain ⟨xa, xc, rfl, _, _⟩ := id hX
  obtain ⟨ya, yc, rfl, _, _⟩ := id hY
  have hnn : n ≤ 1000000 := by omega
  have HX := hide hX
  have HY := hide hY
  have HVN := hide hvn
  rw [← hvn] at HX HY ⊢
  clear hvn hn hX hY
  go_enter Try.func41, Try.ntmps41
  go_wp2
  go_loopw [5] (fun iv wr => ∃ i : Nat, i ≤ n ∧ iv = .int .i64 i ∧ Below w.heap.size w wr) (fun iv _ => n - (intOf iv).toNat)
  case atStart => exact ⟨0, Nat.zero_le _, rfl, Below.refl _ _⟩
  case round =>
    obtain ⟨i, hin, rfl, hb⟩ := hrel
    by_cases hlt : i < n
    · obtain ⟨x, hx⟩ : ∃ x, v[i]? = some x := ⟨_, List.getElem?_eq_getElem (by rw [← unhide HVN]; exact hlt)⟩
      obtain ⟨b, off, cap', hV, hbl, d0, d1⟩ := ((unhide HX).below hb).at hx
      obtain ⟨b2, off2, cap2, hV2, hbl2, e0, e1⟩ := ((unhide HY).below hb).at hx
      obtain rfl : xa = some ⟨b, off, none⟩ := by injection hV
      obtain rfl : ya = some ⟨b2, off2, none⟩ := by injection hV2
      have HBB := hide hb
      clear hb hx hV hV2
      go_wp2
      go_quiet (fail)
      go_wp2
      go_roundw
      case rel => exact ⟨i + 1, by omega, by go_num, below_drewN (unhide HBB) _⟩
      case measure => simp [intOf]; omega
    · have HBB := hide hb
      clear hb
      go_wp2
      go_ret
      exact ⟨rfl, unhide HBB⟩

set_option maxRecDepth 100000 in
set_option maxHeartbeats 1000000 in
theorem shows_any (w : World) (T : Value) (n : Nat) (x : It) (hT : Items w T (List.replicate n x)) (hn : n ≤ 1000000) :
    Calls Try.prog 42 #[T, .int .i64 n, aggIt x] w fun e w' => e = .returned (.bool true) ∧ Below w.heap.size w w' := by
  obtain ⟨xa, xc, rfl, _, _⟩ := id hT
  have HT := hide hT
  rw [List.length_replicate] at HT ⊢
  clear hT
  obtain ⟨x0, x1⟩ := x
  go_enter Try.func42, Try.ntmps42
  go_wp2
  go_loopw [7] (fun iv wr => ∃ i : Nat, i ≤ n ∧ iv = .int .i64 i ∧ Below (w.heap.size + 1) (w.alloc (.cells #[.int .i64 x0, .string x1] 31)) wr) (fun iv _ => n - (intOf iv).toNat)
  case atStart => exact ⟨0, Nat.zero_le _, rfl, Below.refl _ _⟩
  case round =>
    obtain ⟨i, hin, rfl, hb⟩ := hrel
    by_cases hlt : i < n
    · have hx : (List.replicate n (x0, x1))[i]? = some (x0, x1) := by rw [List.getElem?_replicate, if_pos hlt]
      have hb1 : Below w.heap.size w wr := ((Below.refl w.heap.size w).alloc (Nat.le_refl _) _).trans (hb.mono (by omega))
      obtain ⟨b, off, cap', hV, hbl, d0, d1⟩ := ((unhide HT).below hb1).at hx
      obtain rfl : xa = some ⟨b, off, none⟩ := by injection hV
      have m0 : wr.cell? ⟨w.heap.size, 0, none⟩ = some (.int .i64 x0) := (hb.cell (p := ⟨w.heap.size, 0, none⟩) (by simp)).trans (by simp [go_sem])
      have m1 : wr.cell? ⟨w.heap.size, 1, none⟩ = some (.string x1) := (hb.cell (p := ⟨w.heap.size, 1, none⟩) (by simp)).trans (by simp [go_sem])
      have HBB := hide hb
      clear hb hx hV hb1
      go_wp2
      go_quiet (fail)
      go_wp2
      go_roundw
      case rel => exact ⟨i + 1, by omega, by go_num, below_drewN (unhide HBB) _⟩
      case measure => simp [intOf]; omega
    · have HBB := hide hb
      clear hb
      go_wp2
      go_ret
      exact ⟨rfl, ((Below.refl w.heap.size w).alloc (Nat.le_refl _) _).trans ((unhide HBB).mono (by omega))⟩

end Go.Proofs.Ytblomippkddgiaa.V
