/-
  The document's own 'inner', 'within' and 'most', and what a type that is one holds at its place.
-/
import Derived.Test.YtblomippkddgiaaVRefType
namespace Go.Proofs.Ytblomippkddgiaa.V
open Go.RowKit

theorem okp_cases {s : ByteArray} {f p : Nat} (h : Okp s (f + 1) p) :
    (nx s p = 98 ∨ nx s p = 99 ∨ nx s p = 105 ∨ nx s p = 115) ∨ (nx s p = 101 ∧ p + 1 < s.size ∧ 49 ≤ nx s (p + 1) ∧ nx s (p + 1) ≤ 57) ∨
    (nx s p = 97 ∧ p + 1 < s.size ∧ 49 ≤ nx s (p + 1) ∧ nx s (p + 1) ≤ 57 ∧ Okp s f (p + 2)) ∨ (nx s p = 113 ∧ p + 1 < s.size ∧ 48 ≤ nx s (p + 1) ∧ nx s (p + 1) ≤ 57 ∧ Okp s f (p + 2)) ∨ Okl s f p := by
  have hlt := h.lt
  have hfu := h.fuel
  have hok := h.ok
  by_cases hl : nx s p = 98 ∨ nx s p = 99 ∨ nx s p = 105 ∨ nx s p = 115
  · exact Or.inl hl
  have hlf : Pt.isLeaf (nx s p) = false := by simp [Pt.isLeaf]; omega
  by_cases he : nx s p = 101
  · have hty : Pt.ty (nx s) (f + 1) p = Pt.dig (nx s) 1 (p + 1) := by simp [Pt.ty, he, Pt.isLeaf]
    rw [hty] at hok
    unfold Pt.dig at hok
    split at hok
    · rename_i hc
      exact Or.inr (Or.inl ⟨he, nx_pos (s := s) (p := p + 1) rfl (by omega), by omega, hc.2⟩)
    · cases hok
  by_cases ha : nx s p = 97
  · have hty : Pt.ty (nx s) (f + 1) p = (if (Pt.dig (nx s) 1 (p + 1)).1 then Pt.ty (nx s) f (p + 2) else (false, p + 1)) := by simp [Pt.ty, ha, Pt.isLeaf]
    rw [hty] at hok
    by_cases hc : 48 + 1 ≤ nx s (p + 1) ∧ nx s (p + 1) ≤ 57
    · have hd : Pt.dig (nx s) 1 (p + 1) = (true, p + 2) := by unfold Pt.dig; rw [if_pos hc]
      rw [hd, if_pos rfl] at hok
      have hl1 := nx_pos (s := s) (p := p + 1) rfl (by omega)
      exact Or.inr (Or.inr (Or.inl ⟨ha, hl1, by omega, hc.2, ⟨by omega, by omega, hok⟩⟩))
    · have hd : Pt.dig (nx s) 1 (p + 1) = (false, p + 1) := by unfold Pt.dig; rw [if_neg hc]
      rw [hd, if_neg (by simp)] at hok
      cases hok
  by_cases hq : nx s p = 113
  · have hty : Pt.ty (nx s) (f + 1) p = (if (Pt.dig (nx s) 0 (p + 1)).1 then Pt.ty (nx s) f (p + 2) else (false, p + 1)) := by simp [Pt.ty, hq, Pt.isLeaf]
    rw [hty] at hok
    by_cases hc : 48 + 0 ≤ nx s (p + 1) ∧ nx s (p + 1) ≤ 57
    · have hd : Pt.dig (nx s) 0 (p + 1) = (true, p + 2) := by unfold Pt.dig; rw [if_pos hc]
      rw [hd, if_pos rfl] at hok
      have hl1 := nx_pos (s := s) (p := p + 1) rfl (by omega)
      exact Or.inr (Or.inr (Or.inr (Or.inl ⟨hq, hl1, by omega, hc.2, ⟨by omega, by omega, hok⟩⟩)))
    · have hd : Pt.dig (nx s) 0 (p + 1) = (false, p + 1) := by unfold Pt.dig; rw [if_neg hc]
      rw [hd, if_neg (by simp)] at hok
      cases hok
  by_cases hr : nx s p = 114 ∨ nx s p = 117
  · exact Or.inr (Or.inr (Or.inr (Or.inr ⟨hr, h⟩)))
  · have hty : Pt.ty (nx s) (f + 1) p = (false, p) := by simp [Pt.ty, hlf, he, ha, hq, hr]
    rw [hty] at hok
    cases hok

theorem okl_kids {s : ByteArray} {f p : Nat} (h : Okl s f p) : ∀ q ∈ Pt.kids (nx s) f p, p < q ∧ Okp s f q := by
  obtain ⟨h1, h2, c, hc⟩ := h.chain
  intro q hq
  have := chain_ok _ _ _ hc h1 h2 q hq
  exact ⟨by omega, this.2⟩

theorem byte_fact {s : ByteArray} {p c : Nat} (hp : p < s.size) (h : nx s p = c) : ((s[p]).toNat : Int) = (c : Int) := by rw [← nx_in hp, h]

def loOf (c : Nat) : Int := if c = 105 then -32768 else 0
def hiOf (g : Nat → Nat) (f p : Nat) : Int :=
  if g p = 98 then 1 else if g p = 99 then 65535 else if g p = 105 then 32767 else if g p = 101 then (g (p + 1) : Int) - 48 - 1 else if g p = 113 then (g (p + 1) : Int) - 48 else ((Pt.kids g f p).length : Int) - 1

set_option maxHeartbeats 400000 in
theorem inner_a (s : ByteArray) (p : Nat) (w : World) (hp : p + 1 < s.size) (ha : nx s p = 97) (hd : 48 ≤ nx s (p + 1)) (hs : s.size ≤ 40) :
    Calls Try.prog 80 #[.string s, .int .i64 p] w fun e w' => e = .returned (.int .i64 ((nx s (p + 1) : Int) - 48)) ∧ Below w.heap.size w w' := by
  have HD := hide (fun w => digit_at s (p + 1) w hp hd)
  have hb : ((((s[p]).toNat : Nat) : Int) == 97) = true := by rw [byte_fact (by omega) ha]; rfl
  clear hd ha
  go_enter Try.func80, Try.ntmps80
  go_wp2_with fail
  refine ((unhide HD) _).mono ?_
  rintro e w1 ⟨rfl, rfl⟩
  go_wp2
  go_ret
  exact ⟨rfl, Below.refl _ _⟩

set_option maxHeartbeats 400000 in
theorem inner_r (s : ByteArray) (f p : Nat) (w : World) (h : Okl s f p) (hs : s.size ≤ 40) :
    Calls Try.prog 80 #[.string s, .int .i64 p] w fun e w' => e = .returned (.int .i64 ((Pt.kids (nx s) f p).length : Int)) ∧ Below w.heap.size w w' := by
  have hp := h.ok.lt
  have HD := hide (fun w => part_any s f p (-1) w h hs (by omega) (by omega))
  have hb : ((((s[p]).toNat : Nat) : Int) == 97) = false := by rw [← nx_in hp]; have := h.here; simp; omega
  rw [show partOf (Pt.kids (nx s) f p) (-1) = (Pt.kids (nx s) f p).length from rfl] at HD
  clear h
  go_enter Try.func80, Try.ntmps80
  go_wp2_with fail
  refine ((unhide HD) _).mono ?_
  rintro e w1 ⟨rfl, hb1⟩
  go_wp2
  go_ret
  exact ⟨rfl, hb1⟩

set_option maxHeartbeats 400000 in
theorem within_a (s : ByteArray) (p k : Nat) (w : World) (hp : p < s.size) (ha : nx s p = 97) (hs : s.size ≤ 40) :
    Calls Try.prog 81 #[.string s, .int .i64 p, .int .i64 k] w fun e w' => e = .returned (.int .i64 ((p : Int) + 2)) ∧ Below w.heap.size w w' := by
  have hb : ((((s[p]).toNat : Nat) : Int) == 97) = true := by rw [byte_fact (by omega) ha]; rfl
  clear ha
  go_enter Try.func81, Try.ntmps81
  go_wp2
  go_ret
  exact ⟨rfl, Below.refl _ _⟩

set_option maxHeartbeats 400000 in
theorem within_r (s : ByteArray) (f p k : Nat) (w : World) (h : Okl s f p) (hs : s.size ≤ 40) (hk : k ≤ 100) :
    Calls Try.prog 81 #[.string s, .int .i64 p, .int .i64 k] w fun e w' => e = .returned (.int .i64 (partOf (Pt.kids (nx s) f p) k)) ∧ Below w.heap.size w w' := by
  have hp := h.ok.lt
  have HD := hide (fun w => part_any s f p k w h hs (by omega) (by omega))
  have hb : ((((s[p]).toNat : Nat) : Int) == 97) = false := by rw [← nx_in hp]; have := h.here; simp; omega
  clear h
  go_enter Try.func81, Try.ntmps81
  go_wp2_with fail
  refine ((unhide HD) _).mono ?_
  rintro e w1 ⟨rfl, hb1⟩
  go_wp2
  go_ret
  exact ⟨rfl, hb1⟩

set_option maxHeartbeats 400000 in
theorem most_98 (s : ByteArray) (f p : Nat) (w : World) (hp : p < s.size) (hc : nx s p = 98) :
    Calls Try.prog 82 #[.string s, .int .i64 p] w fun e w' => e = .returned (.tuple #[.int .i64 (loOf (nx s p)), .int .i64 (hiOf (nx s) f p)]) ∧ Below w.heap.size w w' := by
  have e1 : loOf (nx s p) = 0 := by rw [hc]; rfl
  have e2 : hiOf (nx s) f p = 1 := by simp [hiOf, hc]
  rw [e1, e2]
  have hb := byte_fact hp hc
  go_enter Try.func82, Try.ntmps82
  go_wp2
  go_ret2
  exact ⟨rfl, Below.refl _ _⟩

set_option maxHeartbeats 400000 in
theorem most_99 (s : ByteArray) (f p : Nat) (w : World) (hp : p < s.size) (hc : nx s p = 99) :
    Calls Try.prog 82 #[.string s, .int .i64 p] w fun e w' => e = .returned (.tuple #[.int .i64 (loOf (nx s p)), .int .i64 (hiOf (nx s) f p)]) ∧ Below w.heap.size w w' := by
  have e1 : loOf (nx s p) = 0 := by rw [hc]; rfl
  have e2 : hiOf (nx s) f p = 65535 := by simp [hiOf, hc]
  rw [e1, e2]
  have hb := byte_fact hp hc
  go_enter Try.func82, Try.ntmps82
  go_wp2
  go_ret2
  exact ⟨rfl, Below.refl _ _⟩

set_option maxHeartbeats 400000 in
theorem most_105 (s : ByteArray) (f p : Nat) (w : World) (hp : p < s.size) (hc : nx s p = 105) :
    Calls Try.prog 82 #[.string s, .int .i64 p] w fun e w' => e = .returned (.tuple #[.int .i64 (loOf (nx s p)), .int .i64 (hiOf (nx s) f p)]) ∧ Below w.heap.size w w' := by
  have e1 : loOf (nx s p) = -32768 := by rw [hc]; rfl
  have e2 : hiOf (nx s) f p = 32767 := by simp [hiOf, hc]
  rw [e1, e2]
  have hb := byte_fact hp hc
  go_enter Try.func82, Try.ntmps82
  go_wp2
  go_ret2
  exact ⟨rfl, Below.refl _ _⟩

set_option maxHeartbeats 400000 in
theorem most_101 (s : ByteArray) (f p : Nat) (w : World) (hp : p + 1 < s.size) (hs : s.size ≤ 40) (hc : nx s p = 101) (hd : 48 ≤ nx s (p + 1)) :
    Calls Try.prog 82 #[.string s, .int .i64 p] w fun e w' => e = .returned (.tuple #[.int .i64 (loOf (nx s p)), .int .i64 (hiOf (nx s) f p)]) ∧ Below w.heap.size w w' := by
  have HD := hide (fun w => digit_at s (p + 1) w hp hd)
  have hx := nx_lt s (p + 1)
  have e1 : loOf (nx s p) = 0 := by rw [hc]; rfl
  have e2 : hiOf (nx s) f p = (nx s (p + 1) : Int) - 48 - 1 := by simp [hiOf, hc]
  rw [e1, e2]
  have hb := byte_fact (by omega) hc
  generalize nx s (p + 1) = d at *
  go_enter Try.func82, Try.ntmps82
  go_wp2_with fail
  refine ((unhide HD) _).mono ?_
  rintro e w1 ⟨rfl, rfl⟩
  go_wp2
  go_ret2
  exact ⟨rfl, Below.refl _ _⟩

set_option maxHeartbeats 400000 in
theorem most_113 (s : ByteArray) (f p : Nat) (w : World) (hp : p + 1 < s.size) (hs : s.size ≤ 40) (hc : nx s p = 113) (hd : 48 ≤ nx s (p + 1)) :
    Calls Try.prog 82 #[.string s, .int .i64 p] w fun e w' => e = .returned (.tuple #[.int .i64 (loOf (nx s p)), .int .i64 (hiOf (nx s) f p)]) ∧ Below w.heap.size w w' := by
  have HD := hide (fun w => digit_at s (p + 1) w hp hd)
  have hx := nx_lt s (p + 1)
  have e1 : loOf (nx s p) = 0 := by rw [hc]; rfl
  have e2 : hiOf (nx s) f p = (nx s (p + 1) : Int) - 48 := by simp [hiOf, hc]
  rw [e1, e2]
  have hb := byte_fact (by omega) hc
  generalize nx s (p + 1) = d at *
  go_enter Try.func82, Try.ntmps82
  go_wp2_with fail
  refine ((unhide HD) _).mono ?_
  rintro e w1 ⟨rfl, rfl⟩
  go_wp2
  go_ret2
  exact ⟨rfl, Below.refl _ _⟩

set_option maxHeartbeats 400000 in
theorem most_u (s : ByteArray) (f p : Nat) (w : World) (h : Okl s f p) (hs : s.size ≤ 40) (hc : nx s p = 117) :
    Calls Try.prog 82 #[.string s, .int .i64 p] w fun e w' => e = .returned (.tuple #[.int .i64 (loOf (nx s p)), .int .i64 (hiOf (nx s) f p)]) ∧ Below w.heap.size w w' := by
  have hp := h.ok.lt
  have HD := hide (fun w => part_any s f p (-1) w h hs (by omega) (by omega))
  rw [show partOf (Pt.kids (nx s) f p) (-1) = (Pt.kids (nx s) f p).length from rfl] at HD
  have e1 : loOf (nx s p) = 0 := by rw [hc]; rfl
  have e2 : hiOf (nx s) f p = ((Pt.kids (nx s) f p).length : Int) - 1 := by simp [hiOf, hc]
  have hx := kids_len (nx s) f p
  rw [e1, e2]
  have hb := byte_fact (by omega) hc
  generalize (Pt.kids (nx s) f p).length = d at *
  clear h
  go_enter Try.func82, Try.ntmps82
  go_wp2_with fail
  refine ((unhide HD) _).mono ?_
  rintro e w1 ⟨rfl, hb1⟩
  go_wp2
  go_ret2
  exact ⟨rfl, hb1⟩

end Go.Proofs.Ytblomippkddgiaa.V
