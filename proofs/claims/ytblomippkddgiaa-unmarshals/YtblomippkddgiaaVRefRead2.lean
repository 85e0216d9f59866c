/-
  The document's own 'read': a value that begins with an item of its own.
-/
import Derived.Test.YtblomippkddgiaaVRefRead
namespace Go.Proofs.Ytblomippkddgiaa.V
open Go.RowKit

set_option maxRecDepth 100000 in
set_option maxHeartbeats 1000000 in
theorem rread_short (s : ByteArray) (p : Nat) (S : ByteArray) (O : Value) (w : World) (hp : p < s.size) (h97 : ¬ nx s p = 97) (h114 : ¬ nx s p = 114) (hS : ¬ 2 ≤ S.size) :
    Calls Try.prog 62 #[.string s, .int .i64 p, .string S, O] w fun e w' => e = triple O S false ∧ w' = w := by
  have t1 : ((((s[p]).toNat : Nat) : Int) == 97) = false := by rw [← nx_in hp]; simp; omega
  have t2 : ((((s[p]).toNat : Nat) : Int) == 114) = false := by rw [← nx_in hp]; simp; omega
  have h2 : (S.size : Int) < 2 := by omega
  clear h97 h114 hS
  go_enter Try.func62, Try.ntmps62
  go_wp2
  go_ret3
  exact ⟨rfl, rfl⟩

/- what the bytes S begin with, to the walk's eyes -/
structure Twos (S R : ByteArray) (n : Nat) (a c : UInt8) : Prop where
  ge : 2 ≤ S.size
  i0 : S[0]'(by omega) = a
  i1 : S[1]'(by omega) = c
  num : wrap64 (wrap64 (256 * wrap64 (a.toNat : Int)) + wrap64 (c.toNat : Int)) = (n : Int)
  rest : S.extract 2 S.size = R
theorem twos (a c : UInt8) (r : List UInt8) : Twos (str (a :: c :: r)) (str r) (num2 a c) a c := by
  have ha := a.toNat_lt
  have hc := c.toNat_lt
  refine ⟨by rw [str_size]; simp, rfl, rfl, ?_, ?_⟩
  · have w1 : wrap64 (a.toNat : Int) = (a.toNat : Int) := by unfold wrap64; omega
    have w2 : wrap64 (c.toNat : Int) = (c.toNat : Int) := by unfold wrap64; omega
    rw [w1, w2]
    unfold wrap64 num2
    omega
  · rw [str_extract, str_size, List.take_of_length_le (by simp)]
    rfl

set_option maxRecDepth 100000 in
set_option maxHeartbeats 1000000 in
theorem rread_s_no (s : ByteArray) (p : Nat) (S R : ByteArray) (n : Nat) (a c : UInt8) (O : Value) (w : World) (hp : p < s.size) (h115 : nx s p = 115) (hT : Twos S R n a c) (hno : 14 < n ∨ R.size < n + n % 2) (hn : n < 65536) :
    Calls Try.prog 62 #[.string s, .int .i64 p, .string S, O] w fun e w' => e = triple O R false ∧ ∃ q, w' = w.drewN q := by
  have t1 : ((((s[p]).toNat : Nat) : Int) == 97) = false := by rw [← nx_in hp]; simp; omega
  have t2 : ((((s[p]).toNat : Nat) : Int) == 114) = false := by rw [← nx_in hp]; simp; omega
  have t3 : ((((s[p]).toNat : Nat) : Int) == 115) = true := by rw [← nx_in hp]; simp; omega
  obtain ⟨hge, i0, i1, hN, e2⟩ := hT
  have h2 : ¬ (S.size : Int) < 2 := by omega
  clear h115
  by_cases h14 : 14 < n
  · have h14' : (14 : Int) < (n : Int) := by omega
    clear hno
    go_enter Try.func62, Try.ntmps62
    go_wp2
    go_quiet (fail)
    go_wp2
    go_ret3
    exact ⟨rfl, _, rfl⟩
  · have h14' : ¬ (14 : Int) < (n : Int) := by omega
    have hR : (R.size : Int) < (n : Int) + (n : Int) % 2 := by omega
    clear hno
    go_enter Try.func62, Try.ntmps62
    go_wp2
    go_quiet (fail)
    go_wp2
    go_ret3
    exact ⟨rfl, _, rfl⟩

end Go.Proofs.Ytblomippkddgiaa.V
