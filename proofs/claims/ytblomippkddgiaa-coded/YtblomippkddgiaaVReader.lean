/-
  The reader of a type's text in the landed code: what each of its small functions does to the world.
-/
import Derived.Test.YtblomippkddgiaaRows
import Derived.Test.YtblomippkddgiaaVMath
import Derived.WalkKit
import Derived.WalkSpells
import Derived.WalkLawsBesides
import Derived.BigQuiet
import Derived.Deep.QuietTactic
namespace Go.Proofs.Ytblomippkddgiaa.V
open Go.RowKit

/- the byte at a place; 0 behind the last -/
def nx (s : ByteArray) (p : Nat) : Nat := if h : p < s.size then (s[p]).toNat else 0
theorem nx_out {s : ByteArray} {p : Nat} (h : s.size ≤ p) : nx s p = 0 := by unfold nx; rw [dif_neg (by omega)]
theorem nx_in {s : ByteArray} {p : Nat} (h : p < s.size) : nx s p = (s[p]).toNat := by unfold nx; rw [dif_pos h]
theorem nx_lt (s : ByteArray) (p : Nat) : nx s p < 256 := by
  unfold nx
  split
  · exact UInt8.toNat_lt _
  · omega

/- the reader lies in block b, over the text s, at place p -/
def At (w : World) (b : Nat) (s : ByteArray) (p : Nat) : Prop := w.heap[b]? = some (.cells #[.string s, .int .i64 p] 100 (0, 0))

theorem At.text {w : World} {b p : Nat} {s : ByteArray} (h : At w b s p) : w.cell? ⟨b, 0, none⟩ = some (.string s) := by
  unfold At at h
  simp [World.cell?, h]
theorem At.place {w : World} {b p : Nat} {s : ByteArray} (h : At w b s p) : w.cell? ⟨b, 1, none⟩ = some (.int .i64 p) := by
  unfold At at h
  simp [World.cell?, h]
theorem At.thawed {w : World} {b p : Nat} {s : ByteArray} (h : At w b s p) : w.frozen? ⟨b, 1, none⟩ = false := by
  unfold At at h
  simp [World.frozen?, h]
theorem At.lt {w : World} {b p : Nat} {s : ByteArray} (h : At w b s p) : b < w.heap.size := by
  unfold At at h
  rcases Nat.lt_or_ge b w.heap.size with hh | hh
  · exact hh
  · rw [Array.getElem?_eq_none hh] at h
    cases h
theorem At.set {w : World} {b p q : Nat} {s : ByteArray} (h : At w b s p) : At (w.setCell ⟨b, 1, none⟩ (.int .i64 q)) b s q := by
  unfold At at h ⊢
  simp only [World.setCell, Array.getElem?_modify, h]
  simp

theorem At.alloc {w : World} {b p : Nat} {s : ByteArray} (h : At w b s p) (o : Obj) : At (w.alloc o) b s p := by
  have hl := h.lt
  unfold At at h ⊢
  rw [Below.heap_alloc w o b hl]
  exact h
theorem At.drew {w : World} {b p : Nat} {s : ByteArray} (h : At w b s p) (n : Nat) : At (w.drewN n) b s p := h

theorem idx_byte {s : ByteArray} {p : Nat} (hp : p < s.size) : Value.int .u8 (nx s p : Int) = .int .u8 ((s[p]).toNat : Int) := by rw [nx_in hp]

/- nothing that was there has turned, but for block b -/
structure Keeps (b : Nat) (w w' : World) : Prop where
  os : w'.os = w.os
  tape : w'.tape = w.tape
  output : w'.output = w.output
  size : w.heap.size ≤ w'.heap.size
  block : ∀ k, k < w.heap.size → k ≠ b → w'.heap[k]? = w.heap[k]?

theorem Keeps.refl (b : Nat) (w : World) : Keeps b w w := ⟨rfl, rfl, rfl, Nat.le_refl _, fun _ _ _ => rfl⟩
theorem Keeps.trans {b : Nat} {u v w : World} (h : Keeps b u v) (k : Keeps b v w) : Keeps b u w :=
  ⟨k.os.trans h.os, k.tape.trans h.tape, k.output.trans h.output, Nat.le_trans h.size k.size, fun i hi hb => (k.block i (Nat.lt_of_lt_of_le hi h.size) hb).trans (h.block i hi hb)⟩
theorem Keeps.drew {b : Nat} {u v : World} (h : Keeps b u v) : Keeps b u v.drew := ⟨h.os, h.tape, h.output, h.size, h.block⟩
theorem Keeps.drewN {b : Nat} {u v : World} (h : Keeps b u v) (n : Nat) : Keeps b u (v.drewN n) := ⟨h.os, h.tape, h.output, h.size, h.block⟩
theorem Keeps.alloc {b : Nat} {u v : World} (h : Keeps b u v) (o : Obj) : Keeps b u (v.alloc o) :=
  h.trans ⟨rfl, rfl, rfl, by simp, fun k hk _ => Below.heap_alloc _ _ _ hk⟩
theorem Keeps.setCell {b : Nat} {u v : World} (h : Keeps b u v) {p : Addr} (hp : p.block = b ∨ u.heap.size ≤ p.block) (x : Value) : Keeps b u (v.setCell p x) :=
  ⟨h.os, h.tape, h.output, by simpa [World.setCell] using h.size, fun k hk hb => by
    rw [Below.heap_setCell v p x k (by omega)]
    exact h.block k hk hb⟩
theorem Keeps.below {b : Nat} {u v : World} (h : Keeps b u v) (hb : b ≤ u.heap.size) : Below b u v := ⟨h.os, h.tape, h.output, h.size, fun k hk => h.block k (by omega) (by omega)⟩
theorem Keeps.cell {b : Nat} {u v : World} (h : Keeps b u v) {p : Addr} (hp : p.block < u.heap.size) (hb : p.block ≠ b) : v.cell? p = u.cell? p := World.cell?_of_block (w := u) (h.block p.block hp hb)
theorem Keeps.frozen {b : Nat} {u v : World} (h : Keeps b u v) {p : Addr} (hp : p.block < u.heap.size) (hb : p.block ≠ b) : v.frozen? p = u.frozen? p := World.frozen?_of_block (w := u) (h.block p.block hp hb)

set_option maxHeartbeats 400000 in
theorem next_in (b p : Nat) (s : ByteArray) (w : World) (h : At w b s p) (hp : p < s.size) (_hs : s.size ≤ 40) :
    Calls Try.prog 93 #[.pointer (some ⟨b, 0, none⟩)] w fun e w' => e = .returned (.int .u8 (nx s p)) ∧ Keeps b w w' ∧ At w' b s p := by
  have H := h
  have h1 := h.text
  have h2 := h.place
  have hne : ((p : Int) == (s.size : Int)) = false := by simp; omega
  rw [idx_byte hp]
  clear h
  go_enter Try.func93, Try.ntmps93
  go_wp2
  go_quiet (fail)
  go_wp2
  go_quiet (fail)
  go_wp2
  go_ret
  exact ⟨rfl, ((Keeps.refl _ _).drewN _).drewN _, H⟩

set_option maxHeartbeats 400000 in
theorem next_out (b p : Nat) (s : ByteArray) (w : World) (h : At w b s p) (hp : p = s.size) :
    Calls Try.prog 93 #[.pointer (some ⟨b, 0, none⟩)] w fun e w' => e = .returned (.int .u8 (nx s p)) ∧ Keeps b w w' ∧ At w' b s p := by
  rw [nx_out (by omega)]
  have H := h
  have h1 := h.text
  have h2 := h.place
  have hne : ((p : Int) == (s.size : Int)) = true := by simp; omega
  clear h hp
  go_enter Try.func93, Try.ntmps93
  go_wp2
  go_quiet (fail)
  go_wp2
  go_ret
  exact ⟨rfl, (Keeps.refl _ _).drewN _, H⟩

theorem next_any (b p : Nat) (s : ByteArray) (w : World) (h : At w b s p) (hp : p ≤ s.size) (hs : s.size ≤ 40) :
    Calls Try.prog 93 #[.pointer (some ⟨b, 0, none⟩)] w fun e w' => e = .returned (.int .u8 (nx s p)) ∧ Keeps b w w' ∧ At w' b s p := by
  by_cases hlt : p < s.size
  · exact next_in b p s w h hlt hs
  · exact next_out b p s w h (by omega)

set_option maxHeartbeats 400000 in
theorem wrong_any (b p : Nat) (s : ByteArray) (w : World) (h : At w b s p) :
    Calls Try.prog 52 #[.pointer (some ⟨b, 0, none⟩)] w fun e w' => e = .returned (.agg #[.int .i64 2, .int .i64 p]) ∧ Keeps b w w' := by
  have h2 := fun o => (h.alloc o).place
  clear h
  go_enter Try.func52, Try.ntmps52
  go_wp2
  exact bodyPost_ret (v := .agg #[.int .i64 2, .int .i64 p]) (by simp [results, Try.results52, go_sem]) rfl ⟨rfl, (Keeps.refl _ _).alloc _⟩

/- what is wrong at place q -/
abbrev wrongAt (q : Nat) : Ending := .panicked [{ v := .iface 71 (.agg #[.int .i64 2, .int .i64 q]), recovered := false }]

set_option maxHeartbeats 1000000 in
theorem letter_ok (b p : Nat) (s : ByteArray) (w : World) (c : Nat) (h : At w b s p) (hp : p ≤ s.size) (hs : s.size ≤ 40) (hx : nx s p = c) (hc : c = 98 ∨ c = 99 ∨ c = 105 ∨ c = 115 ∨ c = 101 ∨ c = 97 ∨ c = 113 ∨ c = 114 ∨ c = 117) :
    Calls Try.prog 71 #[.pointer (some ⟨b, 0, none⟩)] w fun e w' => e = .returned (.int .u8 c) ∧ Keeps b w w' ∧ At w' b s (p + 1) := by
  have HN := next_any b p s w h hp hs
  rw [hx] at HN
  have HX : Hid (nx s p = c) := hx
  clear hx
  rcases hc with rfl | rfl | rfl | rfl | rfl | rfl | rfl | rfl | rfl
  all_goals
    go_enter Try.func71, Try.ntmps71
    go_wp2_with fail
    refine HN.mono ?_
    rintro e w1 ⟨rfl, hk, ha⟩
    have h2 := ha.place
    have h3 := ha.thawed
    go_wp2
    go_ret
    exact ⟨rfl, hk.setCell (Or.inl rfl) _, ha.set⟩

set_option maxHeartbeats 1000000 in
theorem letter_no (b p : Nat) (s : ByteArray) (w : World) (c : Nat) (h : At w b s p) (hp : p ≤ s.size) (hs : s.size ≤ 40) (hx : nx s p = c) (hc : ¬ (c = 98 ∨ c = 99 ∨ c = 105 ∨ c = 115 ∨ c = 101 ∨ c = 97 ∨ c = 113 ∨ c = 114 ∨ c = 117)) :
    Calls Try.prog 71 #[.pointer (some ⟨b, 0, none⟩)] w fun e w' => e = wrongAt p ∧ Keeps b w w' := by
  have HN := next_any b p s w h hp hs
  rw [hx] at HN
  clear hx
  have c1 : ((c : Int) == 98) = false := by simp; omega
  have c2 : ((c : Int) == 99) = false := by simp; omega
  have c3 : ((c : Int) == 105) = false := by simp; omega
  have c4 : ((c : Int) == 115) = false := by simp; omega
  have c5 : ((c : Int) == 101) = false := by simp; omega
  have c6 : ((c : Int) == 97) = false := by simp; omega
  have c7 : ((c : Int) == 113) = false := by simp; omega
  have c8 : ((c : Int) == 114) = false := by simp; omega
  have c9 : ((c : Int) == 117) = false := by simp; omega
  clear hc
  go_enter Try.func71, Try.ntmps71
  go_wp2_with fail
  refine HN.mono ?_
  rintro e w1 ⟨rfl, hk, ha⟩
  go_wp2_with fail
  refine (wrong_any b p s _ ha).mono ?_
  rintro e w2 ⟨rfl, hk2⟩
  go_wp2
  exact ⟨rfl, rfl, hk.trans hk2⟩

set_option maxHeartbeats 1000000 in
theorem digit_ok (b p : Nat) (s : ByteArray) (w : World) (c l : Nat) (h : At w b s p) (hp : p ≤ s.size) (hs : s.size ≤ 40) (hx : nx s p = c) (hc : 48 + l ≤ c ∧ c ≤ 57) :
    Calls Try.prog 72 #[.pointer (some ⟨b, 0, none⟩), .int .i64 l] w fun e w' => e = .returned (.int .i64 ((c : Int) - 48)) ∧ Keeps b w w' ∧ At w' b s (p + 1) := by
  have HN := next_any b p s w h hp hs
  rw [hx] at HN
  clear hx h
  obtain ⟨c1, c2⟩ := hc
  have d1 : ¬ ((c : Int) - 48 < (l : Int)) := by omega
  have d2 : ¬ ((9 : Int) < (c : Int) - 48) := by omega
  go_enter Try.func72, Try.ntmps72
  go_wp2_with fail
  refine HN.mono ?_
  rintro e w1 ⟨rfl, hk, ha⟩
  have h2 := ha.place
  have h3 := ha.thawed
  clear HN
  go_wp2
  go_ret
  exact ⟨rfl, hk.setCell (Or.inl rfl) _, ha.set⟩

set_option maxHeartbeats 1000000 in
theorem digit_no (b p : Nat) (s : ByteArray) (w : World) (c l : Nat) (h : At w b s p) (hp : p ≤ s.size) (hs : s.size ≤ 40) (hx : nx s p = c) (hc : ¬ (48 + l ≤ c ∧ c ≤ 57)) :
    Calls Try.prog 72 #[.pointer (some ⟨b, 0, none⟩), .int .i64 l] w fun e w' => e = wrongAt p ∧ Keeps b w w' := by
  have HN := next_any b p s w h hp hs
  have hlt := nx_lt s p
  rw [hx] at HN hlt
  clear hx h
  by_cases d1 : (c : Int) - 48 < (l : Int)
  · clear hc
    go_enter Try.func72, Try.ntmps72
    go_wp2_with fail
    refine HN.mono ?_
    rintro e w1 ⟨rfl, hk, ha⟩
    clear HN
    go_wp2_with fail
    refine (wrong_any b p s _ ha).mono ?_
    rintro e w2 ⟨rfl, hk2⟩
    go_wp2
    exact ⟨rfl, rfl, hk.trans hk2⟩
  · have d2 : (9 : Int) < (c : Int) - 48 := by omega
    clear hc
    go_enter Try.func72, Try.ntmps72
    go_wp2_with fail
    refine HN.mono ?_
    rintro e w1 ⟨rfl, hk, ha⟩
    clear HN
    go_wp2_with fail
    refine (wrong_any b p s _ ha).mono ?_
    rintro e w2 ⟨rfl, hk2⟩
    go_wp2
    exact ⟨rfl, rfl, hk.trans hk2⟩

set_option maxHeartbeats 1000000 in
theorem bracket_ok (b p : Nat) (s : ByteArray) (w : World) (c : Nat) (h : At w b s p) (hp : p ≤ s.size) (hs : s.size ≤ 40) (hx : nx s p = c) :
    Calls Try.prog 94 #[.pointer (some ⟨b, 0, none⟩), .int .u8 c] w fun e w' => e = .returned (.tuple #[]) ∧ Keeps b w w' ∧ At w' b s (p + 1) := by
  have HN := next_any b p s w h hp hs
  rw [hx] at HN
  clear hx h
  go_enter Try.func94, Try.ntmps94
  go_wp2_with fail
  refine HN.mono ?_
  rintro e w1 ⟨rfl, hk, ha⟩
  have h2 := ha.place
  have h3 := ha.thawed
  clear HN
  go_wp2
  go_end0
  exact ⟨rfl, hk.setCell (Or.inl rfl) _, ha.set⟩

set_option maxHeartbeats 1000000 in
theorem bracket_no (b p : Nat) (s : ByteArray) (w : World) (c d : Nat) (h : At w b s p) (hp : p ≤ s.size) (hs : s.size ≤ 40) (hx : nx s p = c) (hd : c ≠ d) :
    Calls Try.prog 94 #[.pointer (some ⟨b, 0, none⟩), .int .u8 d] w fun e w' => e = wrongAt p ∧ Keeps b w w' := by
  have HN := next_any b p s w h hp hs
  rw [hx] at HN
  clear hx h
  have d1 : ((c : Int) != (d : Int)) = true := by simp; omega
  clear hd
  go_enter Try.func94, Try.ntmps94
  go_wp2_with fail
  refine HN.mono ?_
  rintro e w1 ⟨rfl, hk, ha⟩
  clear HN
  go_wp2_with fail
  refine (wrong_any b p s _ ha).mono ?_
  rintro e w2 ⟨rfl, hk2⟩
  go_wp2
  exact ⟨rfl, rfl, hk.trans hk2⟩
end Go.Proofs.Ytblomippkddgiaa.V
