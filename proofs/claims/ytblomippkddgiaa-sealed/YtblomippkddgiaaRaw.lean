/-
  The law's raw numbers: 'pick' and 'next'.
-/
import Derived.Test.YtblomippkddgiaaRow
namespace Go.Proofs.Ytblomippkddgiaa
open Go.RowKit

theorem below_drewN {B : Nat} {u v : World} (h : Below B u v) (n : Nat) : Below B u (v.drewN n) := ⟨h.os, h.tape, h.output, h.size, h.block⟩
def In64 (c : Int) : Prop := -9223372036854775808 ≤ c ∧ c ≤ 9223372036854775807

set_option maxRecDepth 100000 in
set_option maxHeartbeats 1000000 in
theorem pick_any (c : Int) (n : Nat) (w : World) (hc : In64 c) (hn : 0 < n) (hn2 : n ≤ 65536) :
    Calls Try.prog 28 #[.int .i64 c, .int .i64 n] w fun e w' => (∃ k : Nat, k < n ∧ e = .returned (.int .i64 k)) ∧ w' = w := by
  obtain ⟨h1, h2⟩ := hc
  have hn0 : ¬ (n : Int) = 0 := by omega
  have key : ∀ y : Int, 0 ≤ y → ∃ k : Nat, k < n ∧ y.tmod n = (k : Int) := fun y hy => by
    have e : y.tmod n = y % n := Int.tmod_eq_emod_of_nonneg hy
    have h3 := Int.emod_nonneg y hn0
    have h4 := Int.emod_lt_of_pos y (show (0 : Int) < n by omega)
    exact ⟨(y % n).toNat, by omega, by rw [e]; omega⟩
  by_cases hlt : c < 0
  · obtain ⟨k, hk, e⟩ := key (-(c + 1)) (by omega)
    rw [Int.neg_tmod] at e
    have HE := hide e
    clear e key
    go_enter Try.func28, Try.ntmps28
    go_wp2
    go_ret
    rw [unhide HE]
    exact ⟨⟨k, hk, rfl⟩, rfl⟩
  · have h3 := Int.emod_nonneg c hn0
    have h4 := Int.emod_lt_of_pos c (show (0 : Int) < n by omega)
    obtain ⟨k, hk⟩ : ∃ k : Nat, c % n = (k : Int) := ⟨(c % n).toNat, by omega⟩
    have HE := hide hk
    have hkn : k < n := by omega
    clear key hk h3 h4
    go_enter Try.func28, Try.ntmps28
    go_wp2
    go_ret
    rw [unhide HE]
    exact ⟨⟨k, hkn, rfl⟩, rfl⟩

/- the numbers that were handed in -/
def RawOk (w0 : World) (V : Value) : Prop := ∃ va vn vc, V = .slice va vn vc ∧ vn ≤ 9000000000000000 ∧ (vn = 0 ∨ ∃ vb off, va = some ⟨vb, off, none⟩ ∧ vb < w0.heap.size ∧ ∀ i, i < vn → ∃ c, In64 c ∧ w0.cell? ⟨vb, off + i, none⟩ = some (.int .i64 c))

/- what 'next' leaves -/
structure Nxt (w0 : World) (rb : Nat) (V : Value) (m : Nat) (w w' : World) : Prop where
  cell : w'.heap[rb]? = some (.cells #[V, .int .i64 m] 45 (0, 0))
  keep : ∀ k, k ≠ rb → w'.heap[k]? = w.heap[k]?
  size : w'.heap.size = w.heap.size
  below : Below w0.heap.size w0 w'
theorem Nxt.drewN {w0 : World} {rb : Nat} {V : Value} {m : Nat} {w w' : World} (h : Nxt w0 rb V m w w') (q : Nat) : Nxt w0 rb V m w (w'.drewN q) := ⟨h.cell, h.keep, h.size, below_drewN h.below q⟩
theorem nxt_set {w0 : World} {rb : Nat} {V x : Value} {m : Nat} {w : World} (hc : w.heap[rb]? = some (.cells #[V, x] 45 (0, 0))) (hb : Below w0.heap.size w0 w) (hrb : w0.heap.size ≤ rb) : Nxt w0 rb V m w (w.setCell ⟨rb, 1, none⟩ (.int .i64 m)) := by
  refine ⟨?_, fun k hk => Below.heap_setCell _ _ _ _ (by simpa using hk), by simp, hb.setCell (by simpa using hrb) _⟩
  simp only [World.setCell, Array.getElem?_modify, hc]
  simp

set_option maxRecDepth 100000 in
set_option maxHeartbeats 2000000 in
theorem rawNext_any (w0 w : World) (rb : Nat) (V : Value) (m n : Nat) (hV : RawOk w0 V) (hb : Below w0.heap.size w0 w) (hrb : w0.heap.size ≤ rb) (hc : w.heap[rb]? = some (.cells #[V, .int .i64 m] 45 (0, 0))) (hm : m ≤ 1000000000) (hn : 0 < n) (hn2 : n ≤ 65536) :
    Calls Try.prog 43 #[.pointer (some ⟨rb, 0, none⟩), .int .i64 n] w fun e w' => (∃ k : Nat, k < n ∧ e = .returned (.int .i64 k)) ∧ Nxt w0 rb V (m + 1) w w' := by
  obtain ⟨va, vn, vc, rfl, hvn, hv⟩ := hV
  have c0 : w.cell? ⟨rb, 0, none⟩ = some (.slice va vn vc) := by simp [World.cell?, hc]
  have c1 : w.cell? ⟨rb, 1, none⟩ = some (.int .i64 m) := by simp [World.cell?, hc]
  have z1 : w.frozen? ⟨rb, 1, none⟩ = false := by simp [World.frozen?, hc]
  have hN := nxt_set (m := m + 1) hc hb hrb
  have d0 : (w.setCell ⟨rb, 1, none⟩ (.int .i64 ((m : Int) + 1))).cell? ⟨rb, 0, none⟩ = some (.slice va vn vc) := by
    have := hN.cell
    simp only [Int.natCast_add, Int.cast_ofNat_Int] at this
    simp [World.cell?, this]
  have d1 : (w.setCell ⟨rb, 1, none⟩ (.int .i64 ((m : Int) + 1))).cell? ⟨rb, 1, none⟩ = some (.int .i64 ((m : Int) + 1)) := by
    have := hN.cell
    simp only [Int.natCast_add, Int.cast_ofNat_Int] at this
    simp [World.cell?, this]
  simp only [Int.natCast_add, Int.cast_ofNat_Int] at hN
  have HN := hide hN
  have HN2 : Hid (∀ q, Nxt w0 rb (.slice va vn vc) (m + 1) w ((w.drewN q).setCell ⟨rb, 1, none⟩ (.int .i64 ((m : Int) + 1)))) := fun q => by
    have h := nxt_set (m := m + 1) (w := w.drewN q) hc (below_drewN hb q) hrb
    simp only [Int.natCast_add, Int.cast_ofNat_Int] at h
    exact ⟨h.cell, h.keep, h.size, h.below⟩
  have HP := hide (fun c w (hc : In64 c) => pick_any c n w hc hn hn2)
  have hrl := lt_of_block hc
  clear hc hN
  by_cases h0 : vn = 0
  · subst h0
    clear hv
    have hgt : (0 : Int) < (m : Int) + 1 := by omega
    go_enter Try.func43, Try.ntmps43
    go_wp2
    go_quiet (fail)
    go_wp2_with fail
    refine ((unhide HP) _ _ ?_).mono ?_
    · unfold In64
      omega
    rintro e w1 ⟨⟨k, hk, rfl⟩, rfl⟩
    go_wp2
    go_ret
    exact ⟨⟨k, hk, rfl⟩, (unhide HN).drewN _⟩
  · obtain ⟨vb, off, rfl, hvb, hcell⟩ := hv.resolve_left h0
    have hvp : 0 < vn := by omega
    obtain ⟨c, hc64, hcc⟩ := hcell (m % vn) (Nat.mod_lt _ hvp)
    have hcw := (hb.cell (p := ⟨vb, off + m % vn, none⟩) hvb).trans hcc
    have hmod : m % vn < vn := Nat.mod_lt _ hvp
    have hc1 := hc64.1
    have hc2 := hc64.2
    have HC := hide hc64
    clear hcell hcc hc64
    by_cases hgt : (vn : Int) < (m : Int) + 1
    · go_enter Try.func43, Try.ntmps43
      go_wp2
      go_quiet (fail)
      go_wp2
      go_quiet (fail)
      go_wp2_with fail
      refine ((unhide HP) _ _ ?_).mono ?_
      · unfold In64 wrap64
        omega
      rintro e w1 ⟨⟨k, hk, rfl⟩, rfl⟩
      go_wp2
      go_ret
      exact ⟨⟨k, hk, rfl⟩, ((unhide HN2) _).drewN _⟩
    · go_enter Try.func43, Try.ntmps43
      go_wp2
      go_quiet (fail)
      go_wp2
      go_quiet (fail)
      go_wp2_with fail
      refine ((unhide HP) _ _ (unhide HC)).mono ?_
      rintro e w1 ⟨⟨k, hk, rfl⟩, rfl⟩
      go_wp2
      go_ret
      exact ⟨⟨k, hk, rfl⟩, ((unhide HN2) _).drewN _⟩

end Go.Proofs.Ytblomippkddgiaa
