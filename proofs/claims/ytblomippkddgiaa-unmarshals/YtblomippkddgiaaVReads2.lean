/-
  The landed code's reader of bytes: a number, a string.
-/
import Derived.Test.YtblomippkddgiaaVReads
import Derived.Test.YtblomippkddgiaaVLend
namespace Go.Proofs.Ytblomippkddgiaa.V
open Go.RowKit

set_option maxRecDepth 100000 in
set_option maxHeartbeats 1000000 in
theorem take_no (b : Nat) (l : List UInt8) (O : Value) (n : Nat) (w : World) (h : Rd w b l O) (hn : ¬ n ≤ l.length) :
    Calls Try.prog 98 #[.pointer (some ⟨b, 0, none⟩), .int .i64 n] w fun e w' => e = gaveUp 6 0 ∧ Below w.heap.size w w' := by
  have h1 := h.left
  have hsz := str_size l
  have HN := hide (refuse_any b l O w h)
  generalize hS : str l = S at *
  clear hS h
  have hlt : ((S.size : Int) < (n : Int)) := by omega
  clear hn hsz
  go_enter Try.func98, Try.ntmps98
  go_wp2_with fail
  refine (unhide HN).mono ?_
  rintro e w1 ⟨rfl, rfl⟩
  go_wp2
  exact ⟨rfl, rfl, Below.refl _ _⟩

set_option maxRecDepth 100000 in
set_option maxHeartbeats 1000000 in
theorem byte_no (b : Nat) (O : Value) (w : World) (h : Rd w b [] O) : Calls Try.prog 87 #[.pointer (some ⟨b, 0, none⟩)] w fun e w' => e = gaveUp 6 0 ∧ Below w.heap.size w w' := by
  have H := hide (take_no b [] O 1 w h (by simp))
  clear h
  go_enter Try.func87, Try.ntmps87
  go_wp2_with fail
  refine (unhide H).mono ?_
  rintro e w1 ⟨rfl, hb⟩
  go_wp2
  exact ⟨rfl, rfl, hb⟩
set_option maxRecDepth 100000 in
set_option maxHeartbeats 1000000 in
theorem byte_ok (b : Nat) (c : UInt8) (r : List UInt8) (O : Value) (w : World) (h : Rd w b (c :: r) O) (hl : r.length ≤ 900) : Calls Try.prog 87 #[.pointer (some ⟨b, 0, none⟩)] w fun e w' => e = .returned (.int .i64 (c.toNat : Int)) ∧ w' = w.setCell ⟨b, 0, none⟩ (.string (str r)) := by
  have H := hide (take_ok b (c :: r) O 1 w h (by simp) (by simp; omega))
  rw [show (c :: r).take 1 = [c] from rfl, show (c :: r).drop 1 = r from rfl] at H
  have i0 : (str [c])[0]'(by rw [str_size]; simp) = c := rfl
  have hc := c.toNat_lt
  have hw : wrap64 (c.toNat : Int) = (c.toNat : Int) := by unfold wrap64; omega
  clear h
  go_enter Try.func87, Try.ntmps87
  go_wp2_with fail
  refine (unhide H).mono ?_
  rintro e w1 ⟨rfl, rfl⟩
  go_wp2
  go_ret
  exact ⟨rfl, rfl⟩

set_option maxRecDepth 100000 in
set_option maxHeartbeats 1000000 in
theorem twoBytes_no (b : Nat) (l : List UInt8) (O : Value) (w : World) (h : Rd w b l O) (hn : ¬ 2 ≤ l.length) :
    Calls Try.prog 88 #[.pointer (some ⟨b, 0, none⟩)] w fun e w' => e = gaveUp 6 0 ∧ Below b w w' := by
  match l, h, hn with
  | [], h, _ =>
    have hlt := h.lt
    have H := hide (byte_no b O w h)
    clear h
    go_enter Try.func88, Try.ntmps88
    go_wp2_with fail
    refine (unhide H).mono ?_
    rintro e w1 ⟨rfl, hb1⟩
    go_wp2
    exact ⟨rfl, rfl, hb1.mono (by omega)⟩
  | [a], h, _ =>
    have hlt := h.lt
    have H := hide (byte_ok b a [] O w h (by simp))
    have H2 := hide (byte_no b O _ (h.set0 []))
    have ha := a.toNat_lt
    have hw : wrap64 ((a.toNat : Int) * 256) = (a.toNat : Int) * 256 := by unfold wrap64; omega
    clear h
    go_enter Try.func88, Try.ntmps88
    go_wp2_with fail
    refine (unhide H).mono ?_
    rintro e w1 ⟨rfl, rfl⟩
    go_wp2_with fail
    refine (unhide H2).mono ?_
    rintro e w2 ⟨rfl, hb2⟩
    go_wp2
    exact ⟨rfl, rfl, ((Below.refl b w).setCell (by simp) _).trans (hb2.mono (by simp; omega))⟩
  | a :: c :: r, _, hn => exact absurd (by simp) hn

theorem or_two (a c : Nat) (ha : a < 256) (hc : c < 256) : bits .or .i64 ((a * 256 : Nat) : Int) (c : Int) = ((a * 256 + c : Nat) : Int) := by
  have e : a * 256 ||| c = a * 256 + c := by
    have h := Nat.two_pow_add_eq_or_of_lt (i := 8) (b := c) (by omega) a
    rw [show 2 ^ 8 * a = a * 256 by omega] at h
    exact h.symm
  have n1 : (BitVec.ofInt 64 ((a * 256 : Nat) : Int)).toNat = a * 256 := by
    rw [BitVec.ofInt_natCast, BitVec.toNat_ofNat]
    omega
  have n2 : (BitVec.ofInt 64 (c : Int)).toNat = c := by
    rw [BitVec.ofInt_natCast, BitVec.toNat_ofNat]
    omega
  show IntKind.i64.wrap ((BitVec.ofInt 64 ((a * 256 : Nat) : Int) ||| BitVec.ofInt 64 (c : Int)).toNat : Int) = _
  rw [BitVec.toNat_or, n1, n2, e, IntKind.wrap_i64]
  omega
def num2 (a c : UInt8) : Nat := a.toNat * 256 + c.toNat

set_option maxRecDepth 100000 in
set_option maxHeartbeats 1000000 in
theorem twoBytes_ok (b : Nat) (a c : UInt8) (r : List UInt8) (O : Value) (w : World) (h : Rd w b (a :: c :: r) O) (hl : r.length ≤ 500) :
    Calls Try.prog 88 #[.pointer (some ⟨b, 0, none⟩)] w fun e w' => e = .returned (.int .i64 (num2 a c)) ∧ w' = (w.setCell ⟨b, 0, none⟩ (.string (str (c :: r)))).setCell ⟨b, 0, none⟩ (.string (str r)) := by
  have H := hide (byte_ok b a (c :: r) O w h (by simp; omega))
  have H2 := hide (byte_ok b c r O _ (h.set0 (c :: r)) (by omega))
  have ha := a.toNat_lt
  have hc := c.toNat_lt
  have hw : wrap64 ((a.toNat : Int) * 256) = (a.toNat : Int) * 256 := by unfold wrap64; omega
  have ho : bits .or .i64 ((a.toNat : Int) * 256) (c.toNat : Int) = ((num2 a c : Nat) : Int) := by
    have := or_two a.toNat c.toNat (by omega) (by omega)
    rw [show ((a.toNat * 256 : Nat) : Int) = (a.toNat : Int) * 256 by omega] at this
    exact this
  clear h
  generalize str (c :: r) = S1 at *
  generalize str r = S2 at *
  go_enter Try.func88, Try.ntmps88
  go_wp2_with fail
  refine (unhide H).mono ?_
  rintro e w1 ⟨rfl, rfl⟩
  go_wp2_with fail
  refine (unhide H2).mono ?_
  rintro e w2 ⟨rfl, rfl⟩
  go_wp2
  go_ret
  exact ⟨rfl, rfl⟩

end Go.Proofs.Ytblomippkddgiaa.V
