/-
  Joined: Crc Sixteen SixteenB Pack.
-/
import Derived.Test.YtblomippkddgiaaGreatDoorRows
import Derived.WalkKit
import Derived.WalkSpells
import Derived.WalkLawsBesides
import Derived.BigQuiet
import Derived.Deep.QuietTactic
/-
  Sixteen as a window of sixteen bits that is moved on: byte by byte (as the landed code does), and bit by bit (as the document says); and that it tells one byte from another.
-/
namespace Go.Proofs.YtblomippkddgiaaGreatDoor

def poly : BitVec 16 := 0x8005#16
def mv (w : BitVec 16) : BitVec 16 := if w.msb then (w <<< 1) ^^^ poly else w <<< 1
def bstep (w : BitVec 16) (m : Bool) : BitVec 16 := if (w.msb ^^ m) then (w <<< 1) ^^^ poly else w <<< 1
def high (b : UInt8) : BitVec 16 := BitVec.ofNat 16 (b.toNat * 256)
def mvs : Nat → BitVec 16 → BitVec 16
  | 0, w => w
  | n + 1, w => mvs n (mv w)
def byteIn (w : BitVec 16) (b : UInt8) : BitVec 16 := mvs 8 (w ^^^ high b)
def crcFrom (w : BitVec 16) (l : List UInt8) : BitVec 16 := l.foldl byteIn w
def crc (l : List UInt8) : BitVec 16 := crcFrom 0 l

theorem xor_right_cancel {a b c : BitVec 16} (h : a ^^^ c = b ^^^ c) : a = b := by
  have h2 := congrArg (· ^^^ c) h
  simp only [BitVec.xor_assoc, BitVec.xor_self, BitVec.xor_zero] at h2
  exact h2
theorem xor_left_cancel {a b c : BitVec 16} (h : c ^^^ a = c ^^^ b) : a = b := by
  rw [BitVec.xor_comm c a, BitVec.xor_comm c b] at h
  exact xor_right_cancel h

theorem shl_low (a : BitVec 16) : (a <<< 1).getLsbD 0 = false := by simp
theorem shl_inj {a b : BitVec 16} (hm : a.msb = b.msb) (h : a <<< 1 = b <<< 1) : a = b := by
  apply BitVec.eq_of_getLsbD_eq
  intro i hi
  by_cases h15 : i = 15
  · subst h15
    simpa [BitVec.msb_eq_getLsbD_last] using hm
  · have := congrArg (·.getLsbD (i + 1)) h
    simp only [BitVec.getLsbD_shiftLeft] at this
    have e : i + 1 < 16 := by omega
    simpa [e] using this

theorem mv_inj {a b : BitVec 16} (h : mv a = mv b) : a = b := by
  unfold mv at h
  have p0 : poly.getLsbD 0 = true := by decide
  have a0 := shl_low a
  have b0 := shl_low b
  cases ha : a.msb <;> cases hb : b.msb <;> simp only [ha, hb, if_true, if_false, Bool.false_eq_true] at h
  · exact shl_inj (by rw [ha, hb]) h
  · have := congrArg (·.getLsbD 0) h
    simp only [BitVec.getLsbD_xor, a0, b0, p0] at this
    simp at this
  · have := congrArg (·.getLsbD 0) h
    simp only [BitVec.getLsbD_xor, a0, b0, p0] at this
    simp at this
  · exact shl_inj (by rw [ha, hb]) (xor_right_cancel h)
theorem mvs_inj : ∀ (n : Nat) {a b : BitVec 16}, mvs n a = mvs n b → a = b := by
  intro n
  induction n with
  | zero => intro a b h; exact h
  | succ n ih => intro a b h; exact mv_inj (ih h)
theorem high_inj {a b : UInt8} (h : high a = high b) : a = b := by
  have := congrArg BitVec.toNat h
  unfold high at this
  rw [BitVec.toNat_ofNat, BitVec.toNat_ofNat] at this
  have ha := a.toNat_lt
  have hb := b.toNat_lt
  apply UInt8.toNat_inj.1
  omega
theorem crcFrom_inj : ∀ (l : List UInt8) {a b : BitVec 16}, crcFrom a l = crcFrom b l → a = b := by
  intro l
  induction l with
  | nil => intro a b h; exact h
  | cons x l ih =>
    intro a b h
    have h1 : byteIn a x = byteIn b x := ih h
    exact xor_right_cancel (mvs_inj 8 h1)
/- one byte turned: Sixteen is another -/
theorem crc_flip (p q : List UInt8) (a b : UInt8) (h : a ≠ b) : crc (p ++ a :: q) ≠ crc (p ++ b :: q) := by
  intro e
  unfold crc crcFrom at e
  rw [List.foldl_append, List.foldl_append, List.foldl_cons, List.foldl_cons] at e
  have h1 := crcFrom_inj q e
  exact h (high_inj (xor_left_cancel (mvs_inj 8 h1)))

theorem mv_bit (R x : BitVec 16) : mv (R ^^^ x) = bstep R x.msb ^^^ (x <<< 1) := by
  unfold mv bstep
  rw [BitVec.msb_xor, BitVec.shiftLeft_xor_distrib]
  by_cases h : (R.msb ^^ x.msb) = true
  · rw [if_pos h, if_pos h, BitVec.xor_assoc, BitVec.xor_assoc, BitVec.xor_comm poly]
  · rw [if_neg h, if_neg h]

/- a bit of a byte, the highest first -/
def bitAt (b : UInt8) (k : Nat) : Bool := (high b).getMsbD k
def bits8 (R : BitVec 16) (b : UInt8) : Nat → BitVec 16
  | 0 => R
  | k + 1 => bstep (bits8 R b k) (bitAt b k)
theorem mvs_succ (n : Nat) (w : BitVec 16) : mvs (n + 1) w = mv (mvs n w) := by
  induction n generalizing w with
  | zero => rfl
  | succ n ih => exact ih (mv w)
theorem mvs_bits (R : BitVec 16) (b : UInt8) : ∀ k, mvs k (R ^^^ high b) = bits8 R b k ^^^ (high b <<< k) := by
  intro k
  induction k with
  | zero => simp [mvs, bits8]
  | succ k ih =>
    rw [mvs_succ, ih, mv_bit]
    have e1 : (high b <<< k).msb = bitAt b k := by
      unfold bitAt
      rw [BitVec.msb, BitVec.getMsbD_shiftLeft, Nat.zero_add]
    rw [e1, bits8, BitVec.shiftLeft_add]
theorem byteIn_bits (R : BitVec 16) (b : UInt8) : byteIn R b = bits8 R b 8 := by
  unfold byteIn
  rw [mvs_bits]
  have : high b <<< 8 = 0#16 := by
    apply BitVec.eq_of_toNat_eq
    unfold high
    rw [BitVec.toNat_shiftLeft, BitVec.toNat_ofNat]
    have hb := b.toNat_lt
    rw [Nat.shiftLeft_eq]
    show _ = 0
    omega
  rw [this, BitVec.xor_zero]

/- the bits of bytes; 0 behind the last -/
def mbit (l : List UInt8) (i : Nat) : Bool := match l[i / 8]? with
  | some b => bitAt b (i % 8)
  | none => false
def reg (m : Nat → Bool) : Nat → BitVec 16
  | 0 => 0
  | i + 1 => bstep (reg m i) (m i)
theorem reg_crc (l : List UInt8) : ∀ j, j ≤ l.length → reg (mbit l) (8 * j) = crc (l.take j) := by
  intro j
  induction j with
  | zero => intro _; rfl
  | succ j ih =>
    intro hj
    obtain ⟨b, hb⟩ : ∃ b, l[j]? = some b := ⟨_, List.getElem?_eq_getElem (by omega)⟩
    have h8 : ∀ k, k ≤ 8 → reg (mbit l) (8 * j + k) = bits8 (reg (mbit l) (8 * j)) b k := by
      intro k
      induction k with
      | zero => intro _; rfl
      | succ k ihk =>
        intro hk
        show bstep (reg (mbit l) (8 * j + k)) (mbit l (8 * j + k)) = _
        rw [ihk (by omega)]
        have e : mbit l (8 * j + k) = bitAt b k := by
          unfold mbit
          rw [show (8 * j + k) / 8 = j by omega, show (8 * j + k) % 8 = k by omega, hb]
        rw [e]
        rfl
    rw [show 8 * (j + 1) = 8 * j + 8 by omega, h8 8 (Nat.le_refl _), ih (by omega), ← byteIn_bits]
    unfold crc crcFrom
    rw [List.take_add_one, hb, Option.toList_some, List.foldl_append]
    rfl
theorem reg_all (l : List UInt8) : reg (mbit l) (8 * l.length) = crc l := by
  rw [reg_crc l l.length (Nat.le_refl _), List.take_length]

/- the document's table of bits behind i steps -/
def cellB (m : Nat → Bool) (i k : Nat) : Bool := m k ^^ (reg m i).getMsbD (k - i)
theorem cellB_zero (m : Nat → Bool) (k : Nat) : cellB m 0 k = m k := by
  unfold cellB reg
  simp
def flips (d : Nat) : Bool := d == 0 || d == 1 || d == 14 || d == 16
theorem poly_msb (d : Nat) : poly.getMsbD d = (d == 0 || d == 13 || d == 15) := by
  by_cases h : d < 16
  · have : ∀ d, d < 16 → poly.getMsbD d = (d == 0 || d == 13 || d == 15) := by decide
    exact this d h
  · rw [BitVec.getMsbD_of_ge _ _ (by omega)]
    symm
    simp
    omega
theorem cellB_succ (m : Nat → Bool) (i k : Nat) (hk : i < k) : cellB m (i + 1) k = (cellB m i k ^^ (cellB m i i && flips (k - i))) := by
  have hx : cellB m i i = (m i ^^ (reg m i).msb) := by
    unfold cellB
    rw [Nat.sub_self]
    rfl
  rw [hx]
  unfold cellB
  have hr : (reg m (i + 1)).getMsbD (k - (i + 1)) = ((reg m i).getMsbD (k - i) ^^ ((m i ^^ (reg m i).msb) && flips (k - i))) := by
    show (bstep (reg m i) (m i)).getMsbD _ = _
    unfold bstep
    obtain ⟨d, hd⟩ : ∃ d, k = i + 1 + d := ⟨k - (i + 1), by omega⟩
    subst hd
    rw [show i + 1 + d - (i + 1) = d by omega, show i + 1 + d - i = d + 1 by omega]
    have hf : flips (d + 1) = (d == 0 || d == 13 || d == 15) := by
      unfold flips
      rw [Bool.eq_iff_iff]
      simp
    rw [hf, ← poly_msb]
    by_cases h : ((reg m i).msb ^^ m i) = true
    · have h' : (m i ^^ (reg m i).msb) = true := by rw [Bool.xor_comm]; exact h
      rw [if_pos h, h', BitVec.getMsbD_xor, BitVec.getMsbD_shiftLeft, Bool.true_and]
    · have h' : (m i ^^ (reg m i).msb) = false := by rw [Bool.xor_comm]; simpa using h
      rw [if_neg h, h', BitVec.getMsbD_shiftLeft, Bool.false_and, Bool.xor_false]
  rw [hr, ← Bool.xor_assoc]

end Go.Proofs.YtblomippkddgiaaGreatDoor
/-
  The landed code's Sixteen: the window moved on, byte by byte.
-/
namespace Go.Proofs.YtblomippkddgiaaGreatDoor
open Go.RowKit

theorem hide {p : Prop} (h : p) : Hid p := h
theorem unhide {p : Prop} (h : Hid p) : p := h

abbrev str (l : List UInt8) : ByteArray := ⟨l.toArray⟩
theorem str_size (l : List UInt8) : (str l).size = l.length := by simp [ByteArray.size]

theorem wrap_u16 (n : Int) : IntKind.u16.wrap n = n % 65536 := by
  simp [IntKind.wrap, IntKind.bits, IntKind.signed]
theorem ofInt_win (a : BitVec 16) : BitVec.ofInt 16 (a.toNat : Int) = a := by simp
theorem bits_and16 (a b : BitVec 16) : bits .and .u16 (a.toNat : Int) (b.toNat : Int) = ((a &&& b).toNat : Int) := by
  show IntKind.u16.wrap ((BitVec.ofInt 16 (a.toNat : Int) &&& BitVec.ofInt 16 (b.toNat : Int)).toNat : Int) = _
  rw [ofInt_win, ofInt_win, wrap_u16]
  have := (a &&& b).isLt
  omega
theorem bits_xor16 (a b : BitVec 16) : bits .xor .u16 (a.toNat : Int) (b.toNat : Int) = ((a ^^^ b).toNat : Int) := by
  show IntKind.u16.wrap ((BitVec.ofInt 16 (a.toNat : Int) ^^^ BitVec.ofInt 16 (b.toNat : Int)).toNat : Int) = _
  rw [ofInt_win, ofInt_win, wrap_u16]
  have := (a ^^^ b).isLt
  omega
theorem shl16 (a : BitVec 16) : IntKind.u16.wrap ((a.toNat : Int) * 2) = ((a <<< 1).toNat : Int) := by
  rw [wrap_u16, BitVec.toNat_shiftLeft, Nat.shiftLeft_eq]
  omega
theorem msb_and (a : BitVec 16) : (((a &&& 0x8000#16).toNat : Int) == 0) = !a.msb := by
  have h1 : (a &&& 0x8000#16) = if a.msb then 0x8000#16 else 0#16 := by
    apply BitVec.eq_of_getLsbD_eq
    intro i hi
    have hc : ∀ i, i < 16 → (0x8000#16).getLsbD i = (i == 15) := by decide
    rw [BitVec.getLsbD_and, hc i hi]
    by_cases h15 : i = 15
    · subst h15
      have : a.msb = a.getLsbD 15 := BitVec.msb_eq_getLsbD_last a
      rw [this]
      cases a.getLsbD 15 <;> decide
    · have e : (i == 15) = false := by simpa using h15
      rw [e, Bool.and_false]
      split
      · rw [hc i hi, e]
      · simp
  rw [h1]
  cases a.msb <;> rfl

set_option maxRecDepth 100000 in
set_option maxHeartbeats 400000 in
theorem moveOn_one (x y z r : Int) (w : World) (h1 : bits .and .u16 x 32768 = y) (h2 : (y == 0) = false) (h3 : IntKind.u16.wrap (x * 2) = z) (h4 : bits .xor .u16 z 32773 = r) :
    Calls Tryz.prog 191 #[.int .u16 x] w fun e w' => e = .returned (.int .u16 r) ∧ w' = w := by
  go_enter Tryz.func191, Tryz.ntmps191
  go_wp2
  go_ret
  exact ⟨rfl, rfl⟩
set_option maxRecDepth 100000 in
set_option maxHeartbeats 400000 in
theorem moveOn_zero (x y z : Int) (w : World) (h1 : bits .and .u16 x 32768 = y) (h2 : (y == 0) = true) (h3 : IntKind.u16.wrap (x * 2) = z) :
    Calls Tryz.prog 191 #[.int .u16 x] w fun e w' => e = .returned (.int .u16 z) ∧ w' = w := by
  go_enter Tryz.func191, Tryz.ntmps191
  go_wp2
  go_ret
  exact ⟨rfl, rfl⟩
theorem moveOn_any (a : BitVec 16) (w : World) : Calls Tryz.prog 191 #[.int .u16 (a.toNat : Int)] w fun e w' => e = .returned (.int .u16 ((mv a).toNat : Int)) ∧ w' = w := by
  have h1 : bits .and .u16 (a.toNat : Int) 32768 = ((a &&& 0x8000#16).toNat : Int) := bits_and16 a 0x8000#16
  have h2 : bits .xor .u16 ((a <<< 1).toNat : Int) 32773 = (((a <<< 1) ^^^ poly).toNat : Int) := bits_xor16 (a <<< 1) 0x8005#16
  have h3 := msb_and a
  have h4 := shl16 a
  cases hm : a.msb with
  | true =>
    rw [hm] at h3
    have e : mv a = (a <<< 1) ^^^ poly := by simp [mv, hm]
    rw [e]
    exact moveOn_one _ _ _ _ w h1 h3 h4 h2
  | false =>
    rw [hm] at h3
    have e : mv a = (a <<< 1) := by simp [mv, hm]
    rw [e]
    exact moveOn_zero _ _ _ w h1 h3 h4

end Go.Proofs.YtblomippkddgiaaGreatDoor
/-
  The landed code's Sixteen, whole.
-/
namespace Go.Proofs.YtblomippkddgiaaGreatDoor
open Go.RowKit

theorem xor_high (a : BitVec 16) (c : Nat) (h : c < 256) : bits .xor .u16 (a.toNat : Int) ((c : Int) * 256) = ((a ^^^ BitVec.ofNat 16 (c * 256)).toNat : Int) := by
  have e : ((c : Int) * 256) = ((BitVec.ofNat 16 (c * 256)).toNat : Int) := by
    rw [BitVec.toNat_ofNat]
    omega
  rw [e]
  exact bits_xor16 a _

set_option maxRecDepth 100000 in
set_option maxHeartbeats 1000000 in
theorem sixteen_go (S : ByteArray) (g : Nat → Int) (F : Nat → Nat → Int) (w : World) (hs : S.size ≤ 1000000) (g0 : g 0 = 0)
    (hF0 : ∀ j (h : j < S.size), bits .xor .u16 (g j) ((S[j].toNat : Int) * 256) = F j 0) (hF8 : ∀ j, j < S.size → F j 8 = g (j + 1))
    (HM : Hid (∀ j k (w : World), Calls Tryz.prog 191 #[.int .u16 (F j k)] w fun e w' => e = .returned (.int .u16 (F j (k + 1))) ∧ w' = w)) (hg : 0 ≤ g S.size ∧ g S.size < 65536) :
    Calls Tryz.prog 119 #[.string S] w fun e w' => e = .returned (.int .i64 (g S.size)) ∧ w' = w := by
  have HF0 := hide hF0
  have HF8 := hide hF8
  have HG := hide hg
  clear hF0 hF8 hg
  go_enter Tryz.func119, Tryz.ntmps119
  go_wp2
  go_loopw [3, 7] (fun wv iv wr => ∃ i : Nat, i ≤ S.size ∧ iv = .int .i64 i ∧ wv = .int .u16 (g i) ∧ wr = w) (fun _ iv _ => S.size - (intOf iv).toNat)
  case atStart => exact ⟨0, Nat.zero_le _, rfl, by rw [g0], rfl⟩
  case round =>
    obtain ⟨i, hi, rfl, rfl, rfl⟩ := hrel
    by_cases hlt : i < S.size
    · have h0 := (unhide HF0) i hlt
      have hc := S[i].toNat_lt
      have h8 := hide ((unhide HF8) i hlt)
      go_wp2
      go_loopw [3, 17] (fun wv kv wr' => ∃ k : Nat, k ≤ 8 ∧ kv = .int .i64 k ∧ wv = .int .u16 (F i k) ∧ wr' = wr) (fun _ kv _ => 8 - (intOf kv).toNat)
      case atStart => exact ⟨0, Nat.zero_le _, rfl, rfl, rfl⟩
      case round =>
        obtain ⟨k, hk, rfl, rfl, rfl⟩ := hrel
        by_cases hk8 : k < 8
        · have hki : (k : Int) < 8 := by omega
          go_wp2_with (go_at_call 191; refine ((unhide HM) _ _ _).mono ?_; rintro e w2 ⟨rfl, rfl⟩)
          go_roundw
          case rel => exact ⟨k + 1, by omega, by go_num, rfl, trivial⟩
          case measure => simp [intOf]; omega
        · have hke : k = 8 := by omega
          subst hke
          rw [unhide h8]
          go_wp2
          go_roundw
          case rel => exact ⟨i + 1, by omega, by go_num, rfl, trivial⟩
          case measure => simp [intOf]; omega
    · have hie : i = S.size := by omega
      subst hie
      obtain ⟨n1, n2⟩ := unhide HG
      go_wp2
      go_ret
      exact ⟨rfl, rfl⟩

def winI (l : List UInt8) (j : Nat) : Int := ((crc (l.take j)).toNat : Int)
def winF (l : List UInt8) (j k : Nat) : Int := match l[j]? with
  | some b => ((mvs k (crc (l.take j) ^^^ high b)).toNat : Int)
  | none => ((mvs k 0).toNat : Int)
theorem winF_step (l : List UInt8) (j k : Nat) (w : World) : Calls Tryz.prog 191 #[.int .u16 (winF l j k)] w fun e w' => e = .returned (.int .u16 (winF l j (k + 1))) ∧ w' = w := by
  unfold winF
  split
  · rw [mvs_succ]
    exact moveOn_any _ w
  · rw [mvs_succ]
    exact moveOn_any _ w

theorem str_get (l : List UInt8) (j : Nat) (h : j < (str l).size) : l[j]? = some ((str l)[j]) := by
  have hl : j < l.length := by rw [str_size] at h; exact h
  rw [List.getElem?_eq_getElem hl]
  rfl

theorem sixteen_any (l : List UInt8) (w : World) (hl : l.length ≤ 1000000) : Calls Tryz.prog 119 #[.string (str l)] w fun e w' => e = .returned (.int .i64 ((crc l).toNat : Int)) ∧ w' = w := by
  have h := sixteen_go (str l) (winI l) (winF l) w (by rw [str_size]; exact hl) rfl ?_ ?_ (hide (winF_step l)) ?_
  · have e : winI l (str l).size = ((crc l).toNat : Int) := by
      unfold winI
      rw [str_size, List.take_length]
    rw [e] at h
    exact h
  · intro j hj
    have hg := str_get l j hj
    unfold winI winF
    rw [hg, xor_high _ _ (UInt8.toNat_lt _)]
    rfl
  · intro j hj
    have hg := str_get l j hj
    unfold winF winI
    rw [hg, List.take_add_one, hg, Option.toList_some]
    show _ = (((l.take j ++ [(str l)[j]]).foldl byteIn 0).toNat : Int)
    rw [List.foldl_append]
    rfl
  · unfold winI
    have := (crc (l.take (str l).size)).isLt
    omega
end Go.Proofs.YtblomippkddgiaaGreatDoor
/-
  Packets and their bytes, with no program in sight: what is right, what Seal makes, what Open reads; a packet comes back; a byte turned, less or more is refused.
-/
namespace Go.Proofs.YtblomippkddgiaaGreatDoor

structure Pk where
  kind : Int
  client : Int
  life : Int
  line : Int
  seq : Int
  uid : Int
  part : Int
  off : Int
  please : Bool
  body : List UInt8

def bodyOk (p : Pk) : Prop := if p.kind = 1 ∨ p.kind = 5 then (if p.part < p.off - 1 then p.body.length = 8 else p.body.length ≤ 8) else p.body.length = 0
instance (p : Pk) : Decidable (bodyOk p) := by unfold bodyOk; infer_instance
def RightP (p : Pk) : Prop := (1 ≤ p.kind ∧ p.kind ≤ 7) ∧ (0 ≤ p.client ∧ p.client ≤ 2) ∧ (1 ≤ p.life ∧ p.life ≤ 255) ∧ (0 ≤ p.line ∧ p.line ≤ 2) ∧ (1 ≤ p.seq ∧ p.seq ≤ 999) ∧ (1 ≤ p.uid ∧ p.uid ≤ 255) ∧ (1 ≤ p.off ∧ p.off ≤ 9) ∧ (0 ≤ p.part ∧ p.part ≤ p.off - 1) ∧ bodyOk p
instance (p : Pk) : Decidable (RightP p) := by unfold RightP; infer_instance

theorem body_le {p : Pk} (h : RightP p) : p.body.length ≤ 8 := by
  obtain ⟨_, _, _, _, _, _, _, _, h⟩ := h
  unfold bodyOk at h
  split at h
  · split at h <;> omega
  · omega

def b8 (n : Int) : UInt8 := UInt8.ofNat n.toNat
theorem b8_val {n : Int} (h0 : 0 ≤ n) (h1 : n ≤ 255) : ((b8 n).toNat : Int) = n := by
  unfold b8
  rw [UInt8.toNat_ofNat_of_lt' (by show n.toNat < 256; omega)]
  omega
theorem b8_nat (c : UInt8) : b8 (c.toNat : Int) = c := by
  unfold b8
  simp
theorem b8_inj {a b : Int} (a0 : 0 ≤ a) (a1 : a ≤ 255) (b0 : 0 ≤ b) (b1 : b ≤ 255) (h : b8 a = b8 b) : a = b := by
  have := congrArg (fun c => ((UInt8.toNat c : Nat) : Int)) h
  simp only [b8_val a0 a1, b8_val b0 b1] at this
  exact this
def two8 (n : Int) : List UInt8 := [b8 (n / 256), b8 (n % 256)]
def num2 (a c : UInt8) : Int := (a.toNat : Int) * 256 + (c.toNat : Int)
theorem num2_two {n : Int} (h0 : 0 ≤ n) (h1 : n ≤ 65535) : num2 (b8 (n / 256)) (b8 (n % 256)) = n := by
  unfold num2
  rw [b8_val (by omega) (by omega), b8_val (by omega) (by omega)]
  omega
theorem two_num2 (a c : UInt8) : two8 (num2 a c) = [a, c] := by
  unfold two8 num2
  have ha := a.toNat_lt
  have hc := c.toNat_lt
  rw [show ((a.toNat : Int) * 256 + (c.toNat : Int)) / 256 = (a.toNat : Int) by omega, show ((a.toNat : Int) * 256 + (c.toNat : Int)) % 256 = (c.toNat : Int) by omega, b8_nat, b8_nat]
theorem two8_inj {a b : Int} (a0 : 0 ≤ a) (a1 : a ≤ 65535) (b0 : 0 ≤ b) (b1 : b ≤ 65535) (h : two8 a = two8 b) : a = b := by
  unfold two8 at h
  simp only [List.cons.injEq, and_true] at h
  have h1 := b8_inj (by omega) (by omega) (by omega) (by omega) h.1
  have h2 := b8_inj (by omega) (by omega) (by omega) (by omega) h.2
  omega

def yes (b : Bool) : Int := if b then 1 else 0
def nums (p : Pk) : List Int := [p.kind, p.client, p.life, p.line, p.seq / 256, p.seq % 256, p.uid, p.part, p.off, yes p.please, (p.body.length : Int)]
def headB (p : Pk) : List UInt8 := (nums p).map b8 ++ p.body
def crcI (l : List UInt8) : Int := ((crc l).toNat : Int)
theorem crcI_lt (l : List UInt8) : 0 ≤ crcI l ∧ crcI l ≤ 65535 := by
  unfold crcI
  have := (crc l).isLt
  omega
def sealB (p : Pk) : List UInt8 := headB p ++ two8 (crcI (headB p))
theorem headB_length (p : Pk) : (headB p).length = 11 + p.body.length := by
  unfold headB nums
  simp
  omega
theorem sealB_length (p : Pk) : (sealB p).length = 13 + p.body.length := by
  unfold sealB
  rw [List.length_append, headB_length]
  simp [two8]
  omega

/- as the landed code reads -/
def fieldsP : List UInt8 → Option (Pk × List UInt8)
  | k :: c :: li :: ln :: s1 :: s2 :: u :: pa :: o :: f :: L :: r =>
    if f.toNat ≤ 1 ∧ L.toNat ≤ r.length then some (⟨k.toNat, c.toNat, li.toNat, ln.toNat, num2 s1 s2, u.toNat, pa.toNat, o.toNat, (f.toNat : Int) == 1, r.take L.toNat⟩, r.drop L.toNat) else none
  | _ => none
def sumP (l r : List UInt8) : Option (List UInt8) := match r with
  | a :: b :: t => if num2 a b = crcI (l.take (l.length - r.length)) then some t else none
  | _ => none
def readP (l : List UInt8) : Option Pk := match fieldsP l with
  | none => none
  | some (p, r) => if RightP p then (match sumP l r with | some [] => some p | _ => none) else none

theorem fields_some {l : List UInt8} {p : Pk} {r : List UInt8} (h : fieldsP l = some (p, r)) : l = headB p ++ r := by
  unfold fieldsP at h
  split at h
  · rename_i k c li ln s1 s2 u pa o f L t
    split at h
    · rename_i hc
      simp only [Option.some.injEq, Prod.mk.injEq] at h
      obtain ⟨rfl, rfl⟩ := h
      unfold headB nums
      have ha := s1.toNat_lt
      have hb := s2.toNat_lt
      have hf : b8 (yes ((f.toNat : Int) == 1)) = f := by
        have : f.toNat = 0 ∨ f.toNat = 1 := by omega
        rcases this with h | h
        · have e : f = 0 := UInt8.toNat_inj.1 h
          subst e; rfl
        · have e : f = 1 := UInt8.toNat_inj.1 h
          subst e; rfl
      have hL : ((List.take L.toNat t).length : Int) = (L.toNat : Int) := by
        rw [List.length_take]
        omega
      have h1 : num2 s1 s2 / 256 = (s1.toNat : Int) := by unfold num2; omega
      have h2 : num2 s1 s2 % 256 = (s2.toNat : Int) := by unfold num2; omega
      simp only [List.map_cons, List.map_nil, hL, hf, h1, h2, b8_nat, List.cons_append, List.nil_append, List.take_append_drop]
    · cases h
  · cases h

theorem fields_seal {p : Pk} (h : RightP p) : fieldsP (sealB p) = some (p, two8 (crcI (headB p))) := by
  have hb := body_le h
  obtain ⟨h1, h2, h3, h4, h5, h6, h7, h8, _⟩ := h
  unfold sealB
  generalize hT : two8 (crcI (headB p)) = T
  have hTl : T.length = 2 := by rw [← hT]; rfl
  clear hT
  unfold headB nums
  simp only [List.map_cons, List.map_nil, List.cons_append, List.nil_append]
  unfold fieldsP
  obtain ⟨kind, client, life, line, seq, uid, part, off, please, body⟩ := p
  simp only at hb h1 h2 h3 h4 h5 h6 h7 h8 ⊢
  have e1 := b8_val (n := kind) (by omega) (by omega)
  have e2 := b8_val (n := client) (by omega) (by omega)
  have e3 := b8_val (n := life) (by omega) (by omega)
  have e4 := b8_val (n := line) (by omega) (by omega)
  have e5 := num2_two (n := seq) (by omega) (by omega)
  have e6 := b8_val (n := uid) (by omega) (by omega)
  have e7 := b8_val (n := part) (by omega) (by omega)
  have e8 := b8_val (n := off) (by omega) (by omega)
  have e9 : ((b8 (yes please)).toNat : Int) = yes please := b8_val (by unfold yes; split <;> omega) (by unfold yes; split <;> omega)
  have e10 := b8_val (n := (body.length : Int)) (by omega) (by omega)
  have e11 : (b8 (body.length : Int)).toNat = body.length := by omega
  rw [if_pos]
  · rw [e1, e2, e3, e4, e5, e6, e7, e8, e9, e11, List.take_append_of_le_length (Nat.le_refl _), List.take_length, List.drop_append_of_le_length (Nat.le_refl _), List.drop_length, List.nil_append]
    cases please <;> rfl
  · refine ⟨?_, ?_⟩
    · unfold yes at e9
      split at e9 <;> (unfold yes; simp_all; try omega)
    · rw [e11, List.length_append]
      omega

theorem take_head (m t : List UInt8) : (m ++ t).take ((m ++ t).length - t.length) = m := by
  rw [List.length_append, Nat.add_sub_cancel, List.take_left]

theorem readP_iff (l : List UInt8) (p : Pk) : readP l = some p ↔ RightP p ∧ l = sealB p := by
  constructor
  · intro h
    unfold readP at h
    cases hf : fieldsP l with
    | none => rw [hf] at h; cases h
    | some x =>
      obtain ⟨q, r⟩ := x
      have hl := fields_some hf
      rw [hf] at h
      simp only at h
      split at h
      · rename_i hr
        split at h
        · rename_i hs
          cases h
          refine ⟨hr, ?_⟩
          unfold sumP at hs
          split at hs
          · rename_i a b t
            split at hs
            · rename_i hn
              cases hs
              have e : l.take (l.length - [a, b].length) = headB p := by rw [hl]; exact take_head _ _
              rw [e] at hn
              unfold sealB
              rw [hl, ← hn, two_num2]
            · cases hs
          · cases hs
        · cases h
      · cases h
  · rintro ⟨hr, rfl⟩
    unfold readP
    rw [fields_seal hr]
    simp only
    rw [if_pos hr]
    have hc := crcI_lt (headB p)
    have e : sumP (sealB p) (two8 (crcI (headB p))) = some [] := by
      have e2 : (sealB p).take ((sealB p).length - (two8 (crcI (headB p))).length) = headB p := take_head _ _
      have e3 := num2_two hc.1 hc.2
      show (if num2 (b8 (crcI (headB p) / 256)) (b8 (crcI (headB p) % 256)) = crcI ((sealB p).take ((sealB p).length - (two8 (crcI (headB p))).length)) then some [] else none) = some []
      rw [e2, e3, if_pos rfl]
    rw [e]

/- as the document's answer reads -/
def refP (l : List UInt8) : Pk := ⟨(l.getD 0 0).toNat, (l.getD 1 0).toNat, (l.getD 2 0).toNat, (l.getD 3 0).toNat, num2 (l.getD 4 0) (l.getD 5 0), (l.getD 6 0).toNat, (l.getD 7 0).toNat, (l.getD 8 0).toNat, ((l.getD 9 0).toNat : Int) == 1, (l.drop 11).take (l.length - 13)⟩
def openR (l : List UInt8) : Option Pk := if l.length < 13 then none else if RightP (refP l) then (if sealB (refP l) = l then some (refP l) else none) else none

theorem refP_seal {p : Pk} (h : RightP p) : refP (sealB p) = p := by
  have hb := body_le h
  have hlen := sealB_length p
  obtain ⟨h1, h2, h3, h4, h5, h6, h7, h8, _⟩ := h
  unfold refP
  rw [hlen]
  unfold sealB
  generalize hT : two8 (crcI (headB p)) = T
  clear hT hlen
  unfold headB nums
  obtain ⟨kind, client, life, line, seq, uid, part, off, please, body⟩ := p
  simp only at hb h1 h2 h3 h4 h5 h6 h7 h8 ⊢
  have e1 := b8_val (n := kind) (by omega) (by omega)
  have e2 := b8_val (n := client) (by omega) (by omega)
  have e3 := b8_val (n := life) (by omega) (by omega)
  have e4 := b8_val (n := line) (by omega) (by omega)
  have e5 := num2_two (n := seq) (by omega) (by omega)
  have e6 := b8_val (n := uid) (by omega) (by omega)
  have e7 := b8_val (n := part) (by omega) (by omega)
  have e8 := b8_val (n := off) (by omega) (by omega)
  have e9 : ((b8 (yes please)).toNat : Int) = yes please := b8_val (by unfold yes; split <;> omega) (by unfold yes; split <;> omega)
  simp only [List.map_cons, List.map_nil, List.cons_append, List.nil_append, List.getD_cons_zero, List.getD_cons_succ, List.drop_succ_cons, List.drop_zero]
  rw [e1, e2, e3, e4, e5, e6, e7, e8, e9, show 13 + body.length - 13 = body.length by omega, List.take_append_of_le_length (Nat.le_refl _), List.take_length]
  cases please <;> rfl

theorem openR_iff (l : List UInt8) (p : Pk) : openR l = some p ↔ RightP p ∧ l = sealB p := by
  unfold openR
  constructor
  · intro h
    split at h
    · cases h
    · split at h
      · rename_i hr
        split at h
        · rename_i hs
          cases h
          exact ⟨hr, hs.symm⟩
        · cases h
      · cases h
  · rintro ⟨hr, rfl⟩
    have := sealB_length p
    rw [if_neg (by omega), refP_seal hr, if_pos hr, if_pos rfl]
theorem openR_readP (l : List UInt8) : openR l = readP l := by
  apply Option.ext
  intro p
  exact (openR_iff l p).trans (readP_iff l p).symm

theorem readP_seal {p : Pk} (h : RightP p) : readP (sealB p) = some p := (readP_iff _ _).2 ⟨h, rfl⟩

theorem seal_ten (p : Pk) : (sealB p)[10]? = some (b8 (p.body.length : Int)) := by
  unfold sealB headB nums
  simp

theorem read_none {l : List UInt8} (h : ∀ q, RightP q → l ≠ sealB q) : readP l = none := by
  cases hr : readP l with
  | none => rfl
  | some q =>
    obtain ⟨h1, h2⟩ := (readP_iff _ _).1 hr
    exact absurd h2 (h q h1)

theorem same_body {p q : Pk} (h : RightP p) (k : RightP q) (e : b8 (p.body.length : Int) = b8 (q.body.length : Int)) : p.body.length = q.body.length := by
  have h1 := body_le h
  have h2 := body_le k
  have := b8_inj (by omega) (by omega) (by omega) (by omega) e
  omega
theorem seal_less {p : Pk} (h : RightP p) : readP ((sealB p).take ((sealB p).length - 1)) = none := by
  apply read_none
  intro q hq e
  have l1 := sealB_length p
  have l2 := sealB_length q
  have h10 := congrArg (·[10]?) e
  simp only [List.getElem?_take] at h10
  rw [if_pos (by omega), seal_ten, seal_ten] at h10
  have hb := same_body h hq (Option.some.inj h10)
  have hl := congrArg List.length e
  rw [List.length_take] at hl
  omega
theorem seal_more {p : Pk} (h : RightP p) (c : UInt8) : readP (sealB p ++ [c]) = none := by
  apply read_none
  intro q hq e
  have l1 := sealB_length p
  have l2 := sealB_length q
  have h10 : (sealB p ++ [c])[10]? = (sealB q)[10]? := by rw [e]
  rw [List.getElem?_append_left (by omega), seal_ten, seal_ten] at h10
  have hb := same_body h hq (Option.some.inj h10)
  have hl := congrArg List.length e
  rw [List.length_append, List.length_singleton] at hl
  omega

theorem seal_turned (p : Pk) (i : Nat) (c : UInt8) (hi : i < (sealB p).length) (hc : (sealB p)[i]? ≠ some c) : readP ((sealB p).set i c) = none := by
  apply read_none
  intro q _ e
  have l1 := sealB_length p
  have l2 := sealB_length q
  have hl := congrArg List.length e
  rw [List.length_set] at hl
  have hh : (headB p).length = (headB q).length := by rw [headB_length, headB_length]; omega
  have cp := crcI_lt (headB p)
  have cq := crcI_lt (headB q)
  unfold sealB at e hc
  by_cases hlt : i < (headB p).length
  · rw [List.set_append_left _ _ hlt] at e
    obtain ⟨e1, e2⟩ := List.append_inj e (by rw [List.length_set]; exact hh)
    have e3 := two8_inj cp.1 cp.2 cq.1 cq.2 e2
    rw [List.getElem?_append_left hlt] at hc
    obtain ⟨x, hx⟩ : ∃ x, (headB p)[i]? = some x := ⟨_, List.getElem?_eq_getElem hlt⟩
    have hx' := (List.getElem?_eq_some_iff.1 hx)
    have d1 : headB p = (headB p).take i ++ x :: (headB p).drop (i + 1) := by
      conv => lhs; rw [← List.take_append_drop i (headB p), List.drop_eq_getElem_cons hlt]
      rw [hx'.2]
    have d2 : headB q = (headB p).take i ++ c :: (headB p).drop (i + 1) := by
      rw [← e1, List.set_eq_take_append_cons_drop, if_pos hlt]
    have hne : x ≠ c := by
      intro hxc
      rw [hx, hxc] at hc
      exact hc rfl
    refine crc_flip ((headB p).take i) ((headB p).drop (i + 1)) x c hne ?_
    rw [← d1, ← d2]
    apply BitVec.eq_of_toNat_eq
    unfold crcI at e3
    omega
  · rw [List.set_append_right _ _ (by omega)] at e
    obtain ⟨e1, e2⟩ := List.append_inj e hh
    rw [← e1] at e2
    have h2 : (two8 (crcI (headB p))).length = 2 := rfl
    have hj : i - (headB p).length < (two8 (crcI (headB p))).length := by
      rw [h2]
      have := headB_length p
      omega
    rw [List.getElem?_append_right (by omega)] at hc
    apply hc
    have := congrArg (·[i - (headB p).length]?) e2
    simp only [List.getElem?_set_self hj] at this
    exact this.symm

end Go.Proofs.YtblomippkddgiaaGreatDoor
