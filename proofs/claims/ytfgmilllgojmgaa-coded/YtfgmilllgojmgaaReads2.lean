/-
  The landed code's reader of bytes: a number, a string.
-/
import Derived.Test.YtfgmilllgojmgaaReads
import Derived.Test.YtfgmilllgojmgaaLend
namespace Go.Proofs.Ytfgmilllgojmgaa
open Go.RowKit

set_option maxRecDepth 100000 in
set_option maxHeartbeats 1000000 in
theorem take_no (b : Nat) (l : List UInt8) (O : Value) (n : Nat) (w : World) (h : Rd w b l O) (hn : ¬ n ≤ l.length) :
    Calls Try.prog 90 #[.pointer (some ⟨b, 0, none⟩), .int .i64 n] w fun e w' => e = gaveUp 6 0 ∧ Below w.heap.size w w' := by
  have h1 := h.left
  have hsz := str_size l
  have HN := hide noBytes_any
  generalize hS : str l = S at *
  clear hS h
  have hlt : ((S.size : Int) < (n : Int)) := by omega
  clear hn hsz
  go_enter Try.func90, Try.ntmps90
  go_wp2_with fail
  refine ((unhide HN) _).mono ?_
  rintro e w1 ⟨rfl, hb1⟩
  go_wp2
  exact ⟨rfl, rfl, hb1⟩

set_option maxRecDepth 100000 in
set_option maxHeartbeats 1000000 in
theorem twoBytes_no (b : Nat) (l : List UInt8) (O : Value) (w : World) (h : Rd w b l O) (hn : ¬ 2 ≤ l.length) :
    Calls Try.prog 88 #[.pointer (some ⟨b, 0, none⟩)] w fun e w' => e = gaveUp 6 0 ∧ Below w.heap.size w w' := by
  have H := hide (take_no b l O 2 w h hn)
  clear h hn
  go_enter Try.func88, Try.ntmps88
  go_wp2_with fail
  refine (unhide H).mono ?_
  rintro e w1 ⟨rfl, hb1⟩
  go_wp2
  exact ⟨rfl, rfl, hb1⟩

theorem or_two (a c : Nat) (ha : a < 256) (hc : c < 256) : bits .or .i64 ((a * 256 : Nat) : Int) (c : Int) = ((a * 256 + c : Nat) : Int) := by
  have e : a * 256 ||| c = a * 256 + c := by
    have h := Nat.two_pow_add_eq_or_of_lt (i := 8) (b := c) (by omega) a
    rw [show 2 ^ 8 * a = a * 256 by omega] at h
    exact h.symm
  have n1 : (BitVec.ofInt 64 ((a * 256 : Nat) : Int)).toNat = a * 256 := by
    rw [BitVec.ofInt_natCast, BitVec.toNat_ofNat]
    omega
  have n2 : (BitVec.ofInt 64 (c : Int)).toNat = c := by
    rw [BitVec.ofInt_natCast, BitVec.toNat_ofNat]
    omega
  show IntKind.i64.wrap ((BitVec.ofInt 64 ((a * 256 : Nat) : Int) ||| BitVec.ofInt 64 (c : Int)).toNat : Int) = _
  rw [BitVec.toNat_or, n1, n2, e, IntKind.wrap_i64]
  omega
def num2 (a c : UInt8) : Nat := a.toNat * 256 + c.toNat

set_option maxRecDepth 100000 in
set_option maxHeartbeats 1000000 in
theorem twoBytes_ok (b : Nat) (a c : UInt8) (r : List UInt8) (O : Value) (w : World) (h : Rd w b (a :: c :: r) O) (hl : r.length ≤ 500) :
    Calls Try.prog 88 #[.pointer (some ⟨b, 0, none⟩)] w fun e w' => e = .returned (.int .i64 (num2 a c)) ∧ ∃ q, w' = (w.setCell ⟨b, 0, none⟩ (.string (str r))).drewN q := by
  have H := hide (take_ok b (a :: c :: r) O 2 w h (by simp) (by simp; omega))
  have e1 : (a :: c :: r).take 2 = [a, c] := rfl
  have e2 : (a :: c :: r).drop 2 = r := rfl
  rw [e1, e2] at H
  clear h e1 e2
  go_enter Try.func88, Try.ntmps88
  go_wp2_with fail
  refine (unhide H).mono ?_
  rintro e w1 ⟨rfl, rfl⟩
  go_wp2
  go_quiet (fail)
  go_wp2
  go_ret
  refine ⟨?_, _, rfl⟩
  have ha := a.toNat_lt
  have hc := c.toNat_lt
  have i0 : (str [a, c])[0]'(by rw [str_size]; simp) = a := rfl
  have i1 : (str [a, c])[1]'(by rw [str_size]; simp) = c := rfl
  have w1 : wrap64 (a.toNat : Int) = (a.toNat : Int) := by unfold wrap64; omega
  have w2 : wrap64 ((a.toNat : Int) * 256) = ((a.toNat * 256 : Nat) : Int) := by unfold wrap64; omega
  have w3 : wrap64 (c.toNat : Int) = (c.toNat : Int) := by unfold wrap64; omega
  rw [i0, i1, w1, w2, w3, or_two _ _ (by omega) (by omega)]
  rfl

end Go.Proofs.Ytfgmilllgojmgaa
