/-
  The law's own 'whole': what was lent is as it was; then it is written over.
-/
import Derived.Test.YtblomippkddgiaaVLend
namespace Go.Proofs.Ytblomippkddgiaa.V
open Go.RowKit

theorem below_drewN {B : Nat} {u v : World} (h : Below B u v) (n : Nat) : Below B u (v.drewN n) := ⟨h.os, h.tape, h.output, h.size, h.block⟩

set_option maxRecDepth 100000 in
set_option maxHeartbeats 400000 in
theorem lend_nil (n cap : Nat) (w : World) : Calls Try.prog 35 #[.slice none n cap] w fun e w' => e = .returned (.slice none 0 0) ∧ w' = w := by
  have hnil := isNil n cap
  go_enter Try.func35, Try.ntmps35
  go_wp2
  go_ret
  exact ⟨rfl, rfl⟩

set_option maxRecDepth 100000 in
set_option maxHeartbeats 400000 in
theorem whole_nil (O : Value) (n cap : Nat) (w : World) : Calls Try.prog 37 #[O, .slice none n cap] w fun e w' => e = .returned (.bool true) ∧ w' = w := by
  have hnil := isNil n cap
  go_enter Try.func37, Try.ntmps37
  go_wp2
  go_ret
  exact ⟨rfl, rfl⟩

set_option maxRecDepth 100000 in
set_option maxHeartbeats 1000000 in
theorem whole_any (w0 w : World) (ad : Addr) (cap G : Nat) (v : List It) (hn : v.length ≤ 9000000000000) (hI : Items w0 (.slice (some ad) v.length cap) v) (hb0 : Below w0.heap.size w0 w) (hG : w0.heap.size ≤ G) (hL : Lent w G (v.length + 6) 0 (v ++ List.replicate 6 beyondIt)) :
    Calls Try.prog 37 #[.slice (some ⟨G, 0, none⟩) v.length (v.length + 6), .slice (some ad) v.length cap] w fun e w' => e = .returned (.bool true) ∧ Below w0.heap.size w0 w' := by
  obtain ⟨n, hvn⟩ : ∃ n, n = v.length := ⟨_, rfl⟩
  have hnil := notNil ad n cap
  have HB := hide beyond_any
  have HI := hide hI
  rw [← hvn] at HI hL
  rw [← hvn]
  have HVN := hide hvn
  have hnn : n ≤ 9000000000000 := by omega
  have HL := hide hL
  have HB0 := hide hb0
  clear hvn hn hI hL hb0
  go_enter Try.func37, Try.ntmps37
  go_wp2
  go_loopw [7, 8] (fun ok iv wr => ok = .bool true ∧ ∃ i : Nat, i ≤ n + 6 ∧ iv = .int .i64 i ∧ Lent wr G (n + 6) i (v ++ List.replicate 6 beyondIt) ∧ Below w0.heap.size w0 wr) (fun _ iv _ => n + 6 - (intOf iv).toNat)
  case atStart => exact ⟨rfl, 0, by omega, rfl, unhide HL, unhide HB0⟩
  case round =>
    obtain ⟨rfl, i, hi6, rfl, hL, hb⟩ := hrel
    by_cases hlt : i < n + 6
    · have HLL := hide hL
      have HBB := hide hb
      clear hL hb
      go_wp2_with fail
      refine ((unhide HB) _).mono ?_
      rintro e w1 ⟨rfl, hb1⟩
      have hL1 := (unhide HLL).below hb1
      have hbt := (unhide HBB).trans (hb1.mono (unhide HBB).size)
      obtain ⟨x, hx⟩ : ∃ x, (v ++ List.replicate 6 beyondIt)[i]? = some x := ⟨_, List.getElem?_eq_getElem (by rw [List.length_append, List.length_replicate, ← unhide HVN]; exact hlt)⟩
      obtain ⟨c0, c1⟩ := hL1.at (Nat.le_refl _) hx
      have z0 := hL1.thaw (i * 2)
      have z1 := hL1.thaw (i * 2 + 1)
      have hgl := hL1.lt
      have hgn : ¬ w1.heap.size = G := by omega
      have hgn' : ¬ G = w1.heap.size := by omega
      have HL1 := hide hL1
      have HBT := hide hbt
      by_cases hin : i < n
      · have hxv : v[i]? = some x := by rwa [List.getElem?_append_left (by rw [← unhide HVN]; exact hin)] at hx
        obtain ⟨b, off, cap', hV, hbl, d0, d1⟩ := ((unhide HI).below hbt).at hxv
        obtain rfl : ad = ⟨b, off, none⟩ := by
          injection hV with h1
          injection h1
        have hbn : ¬ w1.heap.size = b := by omega
        have hbn' : ¬ b = w1.heap.size := by omega
        clear hL1 hbt hx hxv hb1
        go_wp2
        go_quiet (fail)
        go_wp2
        go_roundw
        case rel =>
          exact ⟨rfl, i + 1, by omega, by go_num, ((unhide HL1).below (below_drewN ((Below.refl w1.heap.size w1).alloc (Nat.le_refl _) _) _)).from _ _, (((below_drewN ((unhide HBT).alloc (unhide HBT).size _) _).setCell (by simpa using hG) _).setCell (by simpa using hG) _)⟩
        case measure => simp [intOf]; omega
      · have hxb : x = beyondIt := by
          rw [List.getElem?_append_right (by rw [← unhide HVN]; omega), List.getElem?_replicate] at hx
          split at hx
          · cases hx; rfl
          · cases hx
        subst hxb
        clear hL1 hbt hx hb1
        go_wp2
        go_quiet (fail)
        go_wp2
        go_roundw
        case rel =>
          exact ⟨rfl, i + 1, by omega, by go_num, ((unhide HL1).below (below_drewN ((Below.refl w1.heap.size w1).alloc (Nat.le_refl _) _) _)).from _ _, (((below_drewN ((unhide HBT).alloc (unhide HBT).size _) _).setCell (by simpa using hG) _).setCell (by simpa using hG) _)⟩
        case measure => simp [intOf]; omega
    · clear hL
      have HBB := hide hb
      clear hb
      go_wp2
      go_ret
      exact ⟨rfl, unhide HBB⟩

end Go.Proofs.Ytblomippkddgiaa.V
