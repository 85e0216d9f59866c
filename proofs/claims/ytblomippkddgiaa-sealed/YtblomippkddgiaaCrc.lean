/-
  Sixteen as a window of sixteen bits that is moved on: byte by byte (as the landed code does), and bit by bit (as the document says); and that it tells one byte from another.
-/
import Derived.Test.YtblomippkddgiaaRows
namespace Go.Proofs.Ytblomippkddgiaa

def poly : BitVec 16 := 0x8005#16
def mv (w : BitVec 16) : BitVec 16 := if w.msb then (w <<< 1) ^^^ poly else w <<< 1
def bstep (w : BitVec 16) (m : Bool) : BitVec 16 := if (w.msb ^^ m) then (w <<< 1) ^^^ poly else w <<< 1
def high (b : UInt8) : BitVec 16 := BitVec.ofNat 16 (b.toNat * 256)
def mvs : Nat → BitVec 16 → BitVec 16
  | 0, w => w
  | n + 1, w => mvs n (mv w)
def byteIn (w : BitVec 16) (b : UInt8) : BitVec 16 := mvs 8 (w ^^^ high b)
def crcFrom (w : BitVec 16) (l : List UInt8) : BitVec 16 := l.foldl byteIn w
def crc (l : List UInt8) : BitVec 16 := crcFrom 0 l

theorem xor_right_cancel {a b c : BitVec 16} (h : a ^^^ c = b ^^^ c) : a = b := by
  have h2 := congrArg (· ^^^ c) h
  simp only [BitVec.xor_assoc, BitVec.xor_self, BitVec.xor_zero] at h2
  exact h2
theorem xor_left_cancel {a b c : BitVec 16} (h : c ^^^ a = c ^^^ b) : a = b := by
  rw [BitVec.xor_comm c a, BitVec.xor_comm c b] at h
  exact xor_right_cancel h

theorem shl_low (a : BitVec 16) : (a <<< 1).getLsbD 0 = false := by simp
theorem shl_inj {a b : BitVec 16} (hm : a.msb = b.msb) (h : a <<< 1 = b <<< 1) : a = b := by
  apply BitVec.eq_of_getLsbD_eq
  intro i hi
  by_cases h15 : i = 15
  · subst h15
    simpa [BitVec.msb_eq_getLsbD_last] using hm
  · have := congrArg (·.getLsbD (i + 1)) h
    simp only [BitVec.getLsbD_shiftLeft] at this
    have e : i + 1 < 16 := by omega
    simpa [e] using this

theorem mv_inj {a b : BitVec 16} (h : mv a = mv b) : a = b := by
  unfold mv at h
  have p0 : poly.getLsbD 0 = true := by decide
  have a0 := shl_low a
  have b0 := shl_low b
  cases ha : a.msb <;> cases hb : b.msb <;> simp only [ha, hb, if_true, if_false, Bool.false_eq_true] at h
  · exact shl_inj (by rw [ha, hb]) h
  · have := congrArg (·.getLsbD 0) h
    simp only [BitVec.getLsbD_xor, a0, b0, p0] at this
    simp at this
  · have := congrArg (·.getLsbD 0) h
    simp only [BitVec.getLsbD_xor, a0, b0, p0] at this
    simp at this
  · exact shl_inj (by rw [ha, hb]) (xor_right_cancel h)
theorem mvs_inj : ∀ (n : Nat) {a b : BitVec 16}, mvs n a = mvs n b → a = b := by
  intro n
  induction n with
  | zero => intro a b h; exact h
  | succ n ih => intro a b h; exact mv_inj (ih h)
theorem high_inj {a b : UInt8} (h : high a = high b) : a = b := by
  have := congrArg BitVec.toNat h
  unfold high at this
  rw [BitVec.toNat_ofNat, BitVec.toNat_ofNat] at this
  have ha := a.toNat_lt
  have hb := b.toNat_lt
  apply UInt8.toNat_inj.1
  omega
theorem crcFrom_inj : ∀ (l : List UInt8) {a b : BitVec 16}, crcFrom a l = crcFrom b l → a = b := by
  intro l
  induction l with
  | nil => intro a b h; exact h
  | cons x l ih =>
    intro a b h
    have h1 : byteIn a x = byteIn b x := ih h
    exact xor_right_cancel (mvs_inj 8 h1)
/- one byte turned: Sixteen is another -/
theorem crc_flip (p q : List UInt8) (a b : UInt8) (h : a ≠ b) : crc (p ++ a :: q) ≠ crc (p ++ b :: q) := by
  intro e
  unfold crc crcFrom at e
  rw [List.foldl_append, List.foldl_append, List.foldl_cons, List.foldl_cons] at e
  have h1 := crcFrom_inj q e
  exact h (high_inj (xor_left_cancel (mvs_inj 8 h1)))

theorem mv_bit (R x : BitVec 16) : mv (R ^^^ x) = bstep R x.msb ^^^ (x <<< 1) := by
  unfold mv bstep
  rw [BitVec.msb_xor, BitVec.shiftLeft_xor_distrib]
  by_cases h : (R.msb ^^ x.msb) = true
  · rw [if_pos h, if_pos h, BitVec.xor_assoc, BitVec.xor_assoc, BitVec.xor_comm poly]
  · rw [if_neg h, if_neg h]

/- a bit of a byte, the highest first -/
def bitAt (b : UInt8) (k : Nat) : Bool := (high b).getMsbD k
def bits8 (R : BitVec 16) (b : UInt8) : Nat → BitVec 16
  | 0 => R
  | k + 1 => bstep (bits8 R b k) (bitAt b k)
theorem mvs_succ (n : Nat) (w : BitVec 16) : mvs (n + 1) w = mv (mvs n w) := by
  induction n generalizing w with
  | zero => rfl
  | succ n ih => exact ih (mv w)
theorem mvs_bits (R : BitVec 16) (b : UInt8) : ∀ k, mvs k (R ^^^ high b) = bits8 R b k ^^^ (high b <<< k) := by
  intro k
  induction k with
  | zero => simp [mvs, bits8]
  | succ k ih =>
    rw [mvs_succ, ih, mv_bit]
    have e1 : (high b <<< k).msb = bitAt b k := by
      unfold bitAt
      rw [BitVec.msb, BitVec.getMsbD_shiftLeft, Nat.zero_add]
    rw [e1, bits8, BitVec.shiftLeft_add]
theorem byteIn_bits (R : BitVec 16) (b : UInt8) : byteIn R b = bits8 R b 8 := by
  unfold byteIn
  rw [mvs_bits]
  have : high b <<< 8 = 0#16 := by
    apply BitVec.eq_of_toNat_eq
    unfold high
    rw [BitVec.toNat_shiftLeft, BitVec.toNat_ofNat]
    have hb := b.toNat_lt
    rw [Nat.shiftLeft_eq]
    show _ = 0
    omega
  rw [this, BitVec.xor_zero]

/- the bits of bytes; 0 behind the last -/
def mbit (l : List UInt8) (i : Nat) : Bool := match l[i / 8]? with
  | some b => bitAt b (i % 8)
  | none => false
def reg (m : Nat → Bool) : Nat → BitVec 16
  | 0 => 0
  | i + 1 => bstep (reg m i) (m i)
theorem reg_crc (l : List UInt8) : ∀ j, j ≤ l.length → reg (mbit l) (8 * j) = crc (l.take j) := by
  intro j
  induction j with
  | zero => intro _; rfl
  | succ j ih =>
    intro hj
    obtain ⟨b, hb⟩ : ∃ b, l[j]? = some b := ⟨_, List.getElem?_eq_getElem (by omega)⟩
    have h8 : ∀ k, k ≤ 8 → reg (mbit l) (8 * j + k) = bits8 (reg (mbit l) (8 * j)) b k := by
      intro k
      induction k with
      | zero => intro _; rfl
      | succ k ihk =>
        intro hk
        show bstep (reg (mbit l) (8 * j + k)) (mbit l (8 * j + k)) = _
        rw [ihk (by omega)]
        have e : mbit l (8 * j + k) = bitAt b k := by
          unfold mbit
          rw [show (8 * j + k) / 8 = j by omega, show (8 * j + k) % 8 = k by omega, hb]
        rw [e]
        rfl
    rw [show 8 * (j + 1) = 8 * j + 8 by omega, h8 8 (Nat.le_refl _), ih (by omega), ← byteIn_bits]
    unfold crc crcFrom
    rw [List.take_add_one, hb, Option.toList_some, List.foldl_append]
    rfl
theorem reg_all (l : List UInt8) : reg (mbit l) (8 * l.length) = crc l := by
  rw [reg_crc l l.length (Nat.le_refl _), List.take_length]

/- the document's table of bits behind i steps -/
def cellB (m : Nat → Bool) (i k : Nat) : Bool := m k ^^ (reg m i).getMsbD (k - i)
theorem cellB_zero (m : Nat → Bool) (k : Nat) : cellB m 0 k = m k := by
  unfold cellB reg
  simp
def flips (d : Nat) : Bool := d == 0 || d == 1 || d == 14 || d == 16
theorem poly_msb (d : Nat) : poly.getMsbD d = (d == 0 || d == 13 || d == 15) := by
  by_cases h : d < 16
  · have : ∀ d, d < 16 → poly.getMsbD d = (d == 0 || d == 13 || d == 15) := by decide
    exact this d h
  · rw [BitVec.getMsbD_of_ge _ _ (by omega)]
    symm
    simp
    omega
theorem cellB_succ (m : Nat → Bool) (i k : Nat) (hk : i < k) : cellB m (i + 1) k = (cellB m i k ^^ (cellB m i i && flips (k - i))) := by
  have hx : cellB m i i = (m i ^^ (reg m i).msb) := by
    unfold cellB
    rw [Nat.sub_self]
    rfl
  rw [hx]
  unfold cellB
  have hr : (reg m (i + 1)).getMsbD (k - (i + 1)) = ((reg m i).getMsbD (k - i) ^^ ((m i ^^ (reg m i).msb) && flips (k - i))) := by
    show (bstep (reg m i) (m i)).getMsbD _ = _
    unfold bstep
    obtain ⟨d, hd⟩ : ∃ d, k = i + 1 + d := ⟨k - (i + 1), by omega⟩
    subst hd
    rw [show i + 1 + d - (i + 1) = d by omega, show i + 1 + d - i = d + 1 by omega]
    have hf : flips (d + 1) = (d == 0 || d == 13 || d == 15) := by
      unfold flips
      rw [Bool.eq_iff_iff]
      simp
    rw [hf, ← poly_msb]
    by_cases h : ((reg m i).msb ^^ m i) = true
    · have h' : (m i ^^ (reg m i).msb) = true := by rw [Bool.xor_comm]; exact h
      rw [if_pos h, h', BitVec.getMsbD_xor, BitVec.getMsbD_shiftLeft, Bool.true_and]
    · have h' : (m i ^^ (reg m i).msb) = false := by rw [Bool.xor_comm]; simpa using h
      rw [if_neg h, h', BitVec.getMsbD_shiftLeft, Bool.false_and, Bool.xor_false]
  rw [hr, ← Bool.xor_assoc]

end Go.Proofs.Ytblomippkddgiaa
