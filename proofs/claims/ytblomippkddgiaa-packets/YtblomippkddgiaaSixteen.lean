/-
  The landed code's Sixteen: the window moved on, byte by byte.
-/
import Derived.Test.YtblomippkddgiaaCrc
import Derived.WalkKit
import Derived.WalkSpells
import Derived.WalkLawsBesides
import Derived.BigQuiet
import Derived.Deep.QuietTactic
namespace Go.Proofs.Ytblomippkddgiaa
open Go.RowKit

theorem hide {p : Prop} (h : p) : Hid p := h
theorem unhide {p : Prop} (h : Hid p) : p := h

abbrev str (l : List UInt8) : ByteArray := ⟨l.toArray⟩
theorem str_size (l : List UInt8) : (str l).size = l.length := by simp [ByteArray.size]

theorem wrap_u16 (n : Int) : IntKind.u16.wrap n = n % 65536 := by
  simp [IntKind.wrap, IntKind.bits, IntKind.signed]
theorem ofInt_win (a : BitVec 16) : BitVec.ofInt 16 (a.toNat : Int) = a := by simp
theorem bits_and16 (a b : BitVec 16) : bits .and .u16 (a.toNat : Int) (b.toNat : Int) = ((a &&& b).toNat : Int) := by
  show IntKind.u16.wrap ((BitVec.ofInt 16 (a.toNat : Int) &&& BitVec.ofInt 16 (b.toNat : Int)).toNat : Int) = _
  rw [ofInt_win, ofInt_win, wrap_u16]
  have := (a &&& b).isLt
  omega
theorem bits_xor16 (a b : BitVec 16) : bits .xor .u16 (a.toNat : Int) (b.toNat : Int) = ((a ^^^ b).toNat : Int) := by
  show IntKind.u16.wrap ((BitVec.ofInt 16 (a.toNat : Int) ^^^ BitVec.ofInt 16 (b.toNat : Int)).toNat : Int) = _
  rw [ofInt_win, ofInt_win, wrap_u16]
  have := (a ^^^ b).isLt
  omega
theorem shl16 (a : BitVec 16) : IntKind.u16.wrap ((a.toNat : Int) * 2) = ((a <<< 1).toNat : Int) := by
  rw [wrap_u16, BitVec.toNat_shiftLeft, Nat.shiftLeft_eq]
  omega
theorem msb_and (a : BitVec 16) : (((a &&& 0x8000#16).toNat : Int) == 0) = !a.msb := by
  have h1 : (a &&& 0x8000#16) = if a.msb then 0x8000#16 else 0#16 := by
    apply BitVec.eq_of_getLsbD_eq
    intro i hi
    have hc : ∀ i, i < 16 → (0x8000#16).getLsbD i = (i == 15) := by decide
    rw [BitVec.getLsbD_and, hc i hi]
    by_cases h15 : i = 15
    · subst h15
      have : a.msb = a.getLsbD 15 := BitVec.msb_eq_getLsbD_last a
      rw [this]
      cases a.getLsbD 15 <;> decide
    · have e : (i == 15) = false := by simpa using h15
      rw [e, Bool.and_false]
      split
      · rw [hc i hi, e]
      · simp
  rw [h1]
  cases a.msb <;> rfl

set_option maxRecDepth 100000 in
set_option maxHeartbeats 400000 in
theorem moveOn_one (x y z r : Int) (w : World) (h1 : bits .and .u16 x 32768 = y) (h2 : (y == 0) = false) (h3 : IntKind.u16.wrap (x * 2) = z) (h4 : bits .xor .u16 z 32773 = r) :
    Calls Try.prog 86 #[.int .u16 x] w fun e w' => e = .returned (.int .u16 r) ∧ w' = w := by
  go_enter Try.func86, Try.ntmps86
  go_wp2
  go_ret
  exact ⟨rfl, rfl⟩
set_option maxRecDepth 100000 in
set_option maxHeartbeats 400000 in
theorem moveOn_zero (x y z : Int) (w : World) (h1 : bits .and .u16 x 32768 = y) (h2 : (y == 0) = true) (h3 : IntKind.u16.wrap (x * 2) = z) :
    Calls Try.prog 86 #[.int .u16 x] w fun e w' => e = .returned (.int .u16 z) ∧ w' = w := by
  go_enter Try.func86, Try.ntmps86
  go_wp2
  go_ret
  exact ⟨rfl, rfl⟩
theorem moveOn_any (a : BitVec 16) (w : World) : Calls Try.prog 86 #[.int .u16 (a.toNat : Int)] w fun e w' => e = .returned (.int .u16 ((mv a).toNat : Int)) ∧ w' = w := by
  have h1 : bits .and .u16 (a.toNat : Int) 32768 = ((a &&& 0x8000#16).toNat : Int) := bits_and16 a 0x8000#16
  have h2 : bits .xor .u16 ((a <<< 1).toNat : Int) 32773 = (((a <<< 1) ^^^ poly).toNat : Int) := bits_xor16 (a <<< 1) 0x8005#16
  have h3 := msb_and a
  have h4 := shl16 a
  cases hm : a.msb with
  | true =>
    rw [hm] at h3
    have e : mv a = (a <<< 1) ^^^ poly := by simp [mv, hm]
    rw [e]
    exact moveOn_one _ _ _ _ w h1 h3 h4 h2
  | false =>
    rw [hm] at h3
    have e : mv a = (a <<< 1) := by simp [mv, hm]
    rw [e]
    exact moveOn_zero _ _ _ w h1 h3 h4

end Go.Proofs.Ytblomippkddgiaa
