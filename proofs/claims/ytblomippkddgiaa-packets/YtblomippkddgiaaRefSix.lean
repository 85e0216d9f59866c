/-
  The document's own Sixteen is the window's.
-/
import Derived.Test.YtblomippkddgiaaBits
namespace Go.Proofs.Ytblomippkddgiaa
open Go.RowKit

def turnF (m : Nat → Bool) (i j k : Nat) : Bool := cellB m i k ^^ (decide (k - i < j) && flips (k - i))
theorem turn_zero (m : Nat → Bool) (i k : Nat) : cellB m i k = turnF m i 0 k := by
  simp [turnF]
theorem turn_yes {m : Nat → Bool} {i j k : Nat} (hk : i ≤ k) (hf : flips j = true) : (if k = i + j then !(cellB m i (i + j)) else turnF m i j k) = turnF m i (j + 1) k := by
  unfold turnF
  by_cases h : k = i + j
  · subst h
    rw [if_pos rfl, show i + j - i = j by omega, hf]
    simp
  · rw [if_neg h]
    congr 2
    rw [decide_eq_decide]
    omega
theorem turn_no {m : Nat → Bool} {i j k : Nat} (hk : i ≤ k) (hf : flips j = false) : turnF m i j k = turnF m i (j + 1) k := by
  unfold turnF
  by_cases h : k = i + j
  · subst h
    rw [show i + j - i = j by omega, hf]
    simp
  · congr 2
    rw [decide_eq_decide]
    omega
theorem turn_at (m : Nat → Bool) (i j : Nat) : turnF m i j (i + j) = cellB m i (i + j) := by
  unfold turnF
  rw [show i + j - i = j by omega]
  simp
theorem flips_big {d : Nat} (h : 17 ≤ d) : flips d = false := by
  unfold flips
  simp
  omega
theorem turn_end {m : Nat → Bool} {i k : Nat} (hk : i < k) (hx : cellB m i i = true) : turnF m i 17 k = cellB m (i + 1) k := by
  rw [cellB_succ m i k hk, hx]
  unfold turnF
  by_cases h : k - i < 17
  · simp [h]
  · rw [flips_big (by omega)]
    simp
theorem turn_none {m : Nat → Bool} {i k : Nat} (hk : i < k) (hx : cellB m i i = false) : cellB m i k = cellB m (i + 1) k := by
  rw [cellB_succ m i k hk, hx]
  simp

/- the last sixteen bits, as a number -/
theorem last_step (R : BitVec 16) (t : Nat) (ht : t < 16) : ((R.toNat / 2 ^ (16 - (t + 1)) : Nat) : Int) = 2 * ((R.toNat / 2 ^ (16 - t) : Nat) : Int) + bitI (R.getMsbD t) := by
  have e1 : R.getMsbD t = decide (R.toNat / 2 ^ (15 - t) % 2 = 1) := by
    rw [BitVec.getMsbD_eq_getLsbD, show decide (t < 16) = true by simpa using ht, Bool.true_and, BitVec.getLsbD, Nat.testBit_eq_decide_div_mod_eq, show 16 - 1 - t = 15 - t by omega]
  have e2 : R.toNat / 2 ^ (16 - t) = R.toNat / 2 ^ (15 - t) / 2 := by
    rw [show 16 - t = (15 - t) + 1 by omega, Nat.pow_succ, Nat.div_div_eq_div_mul]
  rw [e1, e2, show 16 - (t + 1) = 15 - t by omega]
  generalize R.toNat / 2 ^ (15 - t) = x
  unfold bitI
  by_cases h : x % 2 = 1
  · simp [h]
    omega
  · simp [h]
    omega
def byS : ByteArray := ⟨#[49, 49, 48, 48, 48, 48, 48, 48, 48, 48, 48, 48, 48, 48, 49, 48, 49]⟩
theorem byS_at : ∀ j (h : j < byS.size), (((byS[j]).toNat : Int) == 49) = flips j := by
  have : ∀ j, j < 17 → ∀ (h : j < byS.size), (((byS[j]).toNat : Int) == 49) = flips j := by decide +kernel
  intro j h
  exact this j (by have e : byS.size = 17 := rfl; omega) h

end Go.Proofs.Ytblomippkddgiaa
