/-
  Joined: VReader VTree.
-/
import Derived.Test.YtblomippkddgiaaGreatDoorRows
import Derived.Test.YtblomippkddgiaaGreatDoorJ02
import Derived.WalkKit
import Derived.WalkSpells
import Derived.WalkLawsBesides
import Derived.BigQuiet
import Derived.Deep.QuietTactic
/-
  The reader of a type's text in the landed code: what each of its small functions does to the world.
-/
namespace Go.Proofs.YtblomippkddgiaaGreatDoor.V
open Go.RowKit

/- the byte at a place; 0 behind the last -/
def nx (s : ByteArray) (p : Nat) : Nat := if h : p < s.size then (s[p]).toNat else 0
theorem nx_out {s : ByteArray} {p : Nat} (h : s.size ≤ p) : nx s p = 0 := by unfold nx; rw [dif_neg (by omega)]
theorem nx_in {s : ByteArray} {p : Nat} (h : p < s.size) : nx s p = (s[p]).toNat := by unfold nx; rw [dif_pos h]
theorem nx_lt (s : ByteArray) (p : Nat) : nx s p < 256 := by
  unfold nx
  split
  · exact UInt8.toNat_lt _
  · omega

/- the reader lies in block b, over the text s, at place p -/
def At (w : World) (b : Nat) (s : ByteArray) (p : Nat) : Prop := w.heap[b]? = some (.cells #[.string s, .int .i64 p] 206 (0, 0))

theorem At.text {w : World} {b p : Nat} {s : ByteArray} (h : At w b s p) : w.cell? ⟨b, 0, none⟩ = some (.string s) := by
  unfold At at h
  simp [World.cell?, h]
theorem At.place {w : World} {b p : Nat} {s : ByteArray} (h : At w b s p) : w.cell? ⟨b, 1, none⟩ = some (.int .i64 p) := by
  unfold At at h
  simp [World.cell?, h]
theorem At.thawed {w : World} {b p : Nat} {s : ByteArray} (h : At w b s p) : w.frozen? ⟨b, 1, none⟩ = false := by
  unfold At at h
  simp [World.frozen?, h]
theorem At.lt {w : World} {b p : Nat} {s : ByteArray} (h : At w b s p) : b < w.heap.size := by
  unfold At at h
  rcases Nat.lt_or_ge b w.heap.size with hh | hh
  · exact hh
  · rw [Array.getElem?_eq_none hh] at h
    cases h
theorem At.set {w : World} {b p q : Nat} {s : ByteArray} (h : At w b s p) : At (w.setCell ⟨b, 1, none⟩ (.int .i64 q)) b s q := by
  unfold At at h ⊢
  simp only [World.setCell, Array.getElem?_modify, h]
  simp

theorem At.alloc {w : World} {b p : Nat} {s : ByteArray} (h : At w b s p) (o : Obj) : At (w.alloc o) b s p := by
  have hl := h.lt
  unfold At at h ⊢
  rw [Below.heap_alloc w o b hl]
  exact h
theorem At.drew {w : World} {b p : Nat} {s : ByteArray} (h : At w b s p) (n : Nat) : At (w.drewN n) b s p := h

theorem idx_byte {s : ByteArray} {p : Nat} (hp : p < s.size) : Value.int .u8 (nx s p : Int) = .int .u8 ((s[p]).toNat : Int) := by rw [nx_in hp]

/- nothing that was there has turned, but for block b -/
structure Keeps (b : Nat) (w w' : World) : Prop where
  os : w'.os = w.os
  tape : w'.tape = w.tape
  output : w'.output = w.output
  size : w.heap.size ≤ w'.heap.size
  block : ∀ k, k < w.heap.size → k ≠ b → w'.heap[k]? = w.heap[k]?

theorem Keeps.refl (b : Nat) (w : World) : Keeps b w w := ⟨rfl, rfl, rfl, Nat.le_refl _, fun _ _ _ => rfl⟩
theorem Keeps.trans {b : Nat} {u v w : World} (h : Keeps b u v) (k : Keeps b v w) : Keeps b u w :=
  ⟨k.os.trans h.os, k.tape.trans h.tape, k.output.trans h.output, Nat.le_trans h.size k.size, fun i hi hb => (k.block i (Nat.lt_of_lt_of_le hi h.size) hb).trans (h.block i hi hb)⟩
theorem Keeps.drew {b : Nat} {u v : World} (h : Keeps b u v) : Keeps b u v.drew := ⟨h.os, h.tape, h.output, h.size, h.block⟩
theorem Keeps.drewN {b : Nat} {u v : World} (h : Keeps b u v) (n : Nat) : Keeps b u (v.drewN n) := ⟨h.os, h.tape, h.output, h.size, h.block⟩
theorem Keeps.alloc {b : Nat} {u v : World} (h : Keeps b u v) (o : Obj) : Keeps b u (v.alloc o) :=
  h.trans ⟨rfl, rfl, rfl, by simp, fun k hk _ => Below.heap_alloc _ _ _ hk⟩
theorem Keeps.setCell {b : Nat} {u v : World} (h : Keeps b u v) {p : Addr} (hp : p.block = b ∨ u.heap.size ≤ p.block) (x : Value) : Keeps b u (v.setCell p x) :=
  ⟨h.os, h.tape, h.output, by simpa [World.setCell] using h.size, fun k hk hb => by
    rw [Below.heap_setCell v p x k (by omega)]
    exact h.block k hk hb⟩
theorem Keeps.below {b : Nat} {u v : World} (h : Keeps b u v) (hb : b ≤ u.heap.size) : Below b u v := ⟨h.os, h.tape, h.output, h.size, fun k hk => h.block k (by omega) (by omega)⟩
theorem Keeps.cell {b : Nat} {u v : World} (h : Keeps b u v) {p : Addr} (hp : p.block < u.heap.size) (hb : p.block ≠ b) : v.cell? p = u.cell? p := World.cell?_of_block (w := u) (h.block p.block hp hb)
theorem Keeps.frozen {b : Nat} {u v : World} (h : Keeps b u v) {p : Addr} (hp : p.block < u.heap.size) (hb : p.block ≠ b) : v.frozen? p = u.frozen? p := World.frozen?_of_block (w := u) (h.block p.block hp hb)

set_option maxHeartbeats 400000 in
theorem next_in (b p : Nat) (s : ByteArray) (w : World) (h : At w b s p) (hp : p < s.size) (_hs : s.size ≤ 40) :
    Calls Tryz.prog 231 #[.pointer (some ⟨b, 0, none⟩)] w fun e w' => e = .returned (.int .u8 (nx s p)) ∧ Keeps b w w' ∧ At w' b s p := by
  have H := h
  have h1 := h.text
  have h2 := h.place
  have hne : ((p : Int) == (s.size : Int)) = false := by simp; omega
  rw [idx_byte hp]
  clear h
  go_enter Tryz.func231, Tryz.ntmps231
  go_wp2
  go_quiet (fail)
  go_wp2
  go_quiet (fail)
  go_wp2
  go_ret
  exact ⟨rfl, ((Keeps.refl _ _).drewN _).drewN _, H⟩

set_option maxHeartbeats 400000 in
theorem next_out (b p : Nat) (s : ByteArray) (w : World) (h : At w b s p) (hp : p = s.size) :
    Calls Tryz.prog 231 #[.pointer (some ⟨b, 0, none⟩)] w fun e w' => e = .returned (.int .u8 (nx s p)) ∧ Keeps b w w' ∧ At w' b s p := by
  rw [nx_out (by omega)]
  have H := h
  have h1 := h.text
  have h2 := h.place
  have hne : ((p : Int) == (s.size : Int)) = true := by simp; omega
  clear h hp
  go_enter Tryz.func231, Tryz.ntmps231
  go_wp2
  go_quiet (fail)
  go_wp2
  go_ret
  exact ⟨rfl, (Keeps.refl _ _).drewN _, H⟩

theorem next_any (b p : Nat) (s : ByteArray) (w : World) (h : At w b s p) (hp : p ≤ s.size) (hs : s.size ≤ 40) :
    Calls Tryz.prog 231 #[.pointer (some ⟨b, 0, none⟩)] w fun e w' => e = .returned (.int .u8 (nx s p)) ∧ Keeps b w w' ∧ At w' b s p := by
  by_cases hlt : p < s.size
  · exact next_in b p s w h hlt hs
  · exact next_out b p s w h (by omega)

set_option maxHeartbeats 400000 in
theorem wrong_any (b p : Nat) (s : ByteArray) (w : World) (h : At w b s p) :
    Calls Tryz.prog 129 #[.pointer (some ⟨b, 0, none⟩)] w fun e w' => e = .returned (.agg #[.int .i64 2, .int .i64 p]) ∧ Keeps b w w' := by
  have h2 := fun o => (h.alloc o).place
  clear h
  go_enter Tryz.func129, Tryz.ntmps129
  go_wp2
  exact bodyPost_ret (v := .agg #[.int .i64 2, .int .i64 p]) (by simp [results, Tryz.results129, go_sem]) rfl ⟨rfl, (Keeps.refl _ _).alloc _⟩

/- what is wrong at place q -/
abbrev wrongAt (q : Nat) : Ending := .panicked [{ v := .iface 86 (.agg #[.int .i64 2, .int .i64 q]), recovered := false }]

set_option maxHeartbeats 1000000 in
theorem letter_ok (b p : Nat) (s : ByteArray) (w : World) (c : Nat) (h : At w b s p) (hp : p ≤ s.size) (hs : s.size ≤ 40) (hx : nx s p = c) (hc : c = 98 ∨ c = 99 ∨ c = 105 ∨ c = 115 ∨ c = 101 ∨ c = 97 ∨ c = 113 ∨ c = 114 ∨ c = 117) :
    Calls Tryz.prog 194 #[.pointer (some ⟨b, 0, none⟩)] w fun e w' => e = .returned (.int .u8 c) ∧ Keeps b w w' ∧ At w' b s (p + 1) := by
  have HN := next_any b p s w h hp hs
  rw [hx] at HN
  have HX : Hid (nx s p = c) := hx
  clear hx
  rcases hc with rfl | rfl | rfl | rfl | rfl | rfl | rfl | rfl | rfl
  all_goals
    go_enter Tryz.func194, Tryz.ntmps194
    go_wp2_with fail
    refine HN.mono ?_
    rintro e w1 ⟨rfl, hk, ha⟩
    have h2 := ha.place
    have h3 := ha.thawed
    go_wp2
    go_ret
    exact ⟨rfl, hk.setCell (Or.inl rfl) _, ha.set⟩

set_option maxHeartbeats 1000000 in
theorem letter_no (b p : Nat) (s : ByteArray) (w : World) (c : Nat) (h : At w b s p) (hp : p ≤ s.size) (hs : s.size ≤ 40) (hx : nx s p = c) (hc : ¬ (c = 98 ∨ c = 99 ∨ c = 105 ∨ c = 115 ∨ c = 101 ∨ c = 97 ∨ c = 113 ∨ c = 114 ∨ c = 117)) :
    Calls Tryz.prog 194 #[.pointer (some ⟨b, 0, none⟩)] w fun e w' => e = wrongAt p ∧ Keeps b w w' := by
  have HN := next_any b p s w h hp hs
  rw [hx] at HN
  clear hx
  have c1 : ((c : Int) == 98) = false := by simp; omega
  have c2 : ((c : Int) == 99) = false := by simp; omega
  have c3 : ((c : Int) == 105) = false := by simp; omega
  have c4 : ((c : Int) == 115) = false := by simp; omega
  have c5 : ((c : Int) == 101) = false := by simp; omega
  have c6 : ((c : Int) == 97) = false := by simp; omega
  have c7 : ((c : Int) == 113) = false := by simp; omega
  have c8 : ((c : Int) == 114) = false := by simp; omega
  have c9 : ((c : Int) == 117) = false := by simp; omega
  clear hc
  go_enter Tryz.func194, Tryz.ntmps194
  go_wp2_with fail
  refine HN.mono ?_
  rintro e w1 ⟨rfl, hk, ha⟩
  go_wp2_with fail
  refine (wrong_any b p s _ ha).mono ?_
  rintro e w2 ⟨rfl, hk2⟩
  go_wp2
  exact ⟨rfl, rfl, hk.trans hk2⟩

set_option maxHeartbeats 1000000 in
theorem digit_ok (b p : Nat) (s : ByteArray) (w : World) (c l : Nat) (h : At w b s p) (hp : p ≤ s.size) (hs : s.size ≤ 40) (hx : nx s p = c) (hc : 48 + l ≤ c ∧ c ≤ 57) :
    Calls Tryz.prog 195 #[.pointer (some ⟨b, 0, none⟩), .int .i64 l] w fun e w' => e = .returned (.int .i64 ((c : Int) - 48)) ∧ Keeps b w w' ∧ At w' b s (p + 1) := by
  have HN := next_any b p s w h hp hs
  rw [hx] at HN
  clear hx h
  obtain ⟨c1, c2⟩ := hc
  have d1 : ¬ ((c : Int) - 48 < (l : Int)) := by omega
  have d2 : ¬ ((9 : Int) < (c : Int) - 48) := by omega
  go_enter Tryz.func195, Tryz.ntmps195
  go_wp2_with fail
  refine HN.mono ?_
  rintro e w1 ⟨rfl, hk, ha⟩
  have h2 := ha.place
  have h3 := ha.thawed
  clear HN
  go_wp2
  go_ret
  exact ⟨rfl, hk.setCell (Or.inl rfl) _, ha.set⟩

set_option maxHeartbeats 1000000 in
theorem digit_no (b p : Nat) (s : ByteArray) (w : World) (c l : Nat) (h : At w b s p) (hp : p ≤ s.size) (hs : s.size ≤ 40) (hx : nx s p = c) (hc : ¬ (48 + l ≤ c ∧ c ≤ 57)) :
    Calls Tryz.prog 195 #[.pointer (some ⟨b, 0, none⟩), .int .i64 l] w fun e w' => e = wrongAt p ∧ Keeps b w w' := by
  have HN := next_any b p s w h hp hs
  have hlt := nx_lt s p
  rw [hx] at HN hlt
  clear hx h
  by_cases d1 : (c : Int) - 48 < (l : Int)
  · clear hc
    go_enter Tryz.func195, Tryz.ntmps195
    go_wp2_with fail
    refine HN.mono ?_
    rintro e w1 ⟨rfl, hk, ha⟩
    clear HN
    go_wp2_with fail
    refine (wrong_any b p s _ ha).mono ?_
    rintro e w2 ⟨rfl, hk2⟩
    go_wp2
    exact ⟨rfl, rfl, hk.trans hk2⟩
  · have d2 : (9 : Int) < (c : Int) - 48 := by omega
    clear hc
    go_enter Tryz.func195, Tryz.ntmps195
    go_wp2_with fail
    refine HN.mono ?_
    rintro e w1 ⟨rfl, hk, ha⟩
    clear HN
    go_wp2_with fail
    refine (wrong_any b p s _ ha).mono ?_
    rintro e w2 ⟨rfl, hk2⟩
    go_wp2
    exact ⟨rfl, rfl, hk.trans hk2⟩

set_option maxHeartbeats 1000000 in
theorem bracket_ok (b p : Nat) (s : ByteArray) (w : World) (c : Nat) (h : At w b s p) (hp : p ≤ s.size) (hs : s.size ≤ 40) (hx : nx s p = c) :
    Calls Tryz.prog 232 #[.pointer (some ⟨b, 0, none⟩), .int .u8 c] w fun e w' => e = .returned (.tuple #[]) ∧ Keeps b w w' ∧ At w' b s (p + 1) := by
  have HN := next_any b p s w h hp hs
  rw [hx] at HN
  clear hx h
  go_enter Tryz.func232, Tryz.ntmps232
  go_wp2_with fail
  refine HN.mono ?_
  rintro e w1 ⟨rfl, hk, ha⟩
  have h2 := ha.place
  have h3 := ha.thawed
  clear HN
  go_wp2
  go_end0
  exact ⟨rfl, hk.setCell (Or.inl rfl) _, ha.set⟩

set_option maxHeartbeats 1000000 in
theorem bracket_no (b p : Nat) (s : ByteArray) (w : World) (c d : Nat) (h : At w b s p) (hp : p ≤ s.size) (hs : s.size ≤ 40) (hx : nx s p = c) (hd : c ≠ d) :
    Calls Tryz.prog 232 #[.pointer (some ⟨b, 0, none⟩), .int .u8 d] w fun e w' => e = wrongAt p ∧ Keeps b w w' := by
  have HN := next_any b p s w h hp hs
  rw [hx] at HN
  clear hx h
  have d1 : ((c : Int) != (d : Int)) = true := by simp; omega
  clear hd
  go_enter Tryz.func232, Tryz.ntmps232
  go_wp2_with fail
  refine HN.mono ?_
  rintro e w1 ⟨rfl, hk, ha⟩
  clear HN
  go_wp2_with fail
  refine (wrong_any b p s _ ha).mono ?_
  rintro e w2 ⟨rfl, hk2⟩
  go_wp2
  exact ⟨rfl, rfl, hk.trans hk2⟩
end Go.Proofs.YtblomippkddgiaaGreatDoor.V
/-
  A type as it lies in memory behind its reading: 'Rep' says that three cells and what they lead to are the type that begins at a place of the text; and that later work leaves it as it is.
-/
namespace Go.Proofs.YtblomippkddgiaaGreatDoor.V
open Go.RowKit

def nodeDigit (g : Nat → Nat) (p : Nat) : Int := if g p = 101 ∨ g p = 97 ∨ g p = 113 then (g (p + 1) : Int) - 48 else 0

/- the slice v owns its row, which lies in a block of S -/
def Owns (w : World) (S : Nat → Prop) (v : Value) (n : Nat) (xs : List Value) : Prop := w.ownsRow 0 153 3 v n xs ∧ ∀ k, v.ownBlock = some k → S k

def Rep (w : World) (S : Nat → Prop) (g : Nat → Nat) : Nat → Nat → Value → Value → Value → Prop
  | 0, _, _, _, _ => False
  | f + 1, p, c0, c1, c2 => c0 = .int .u8 (g p) ∧ c1 = .int .i64 (nodeDigit g p) ∧ ∃ xs : List Value, Owns w S c2 (Pt.kids g f p).length xs ∧
      ∀ (i q : Nat), (Pt.kids g f p)[i]? = some q → ∃ d0 d1 d2, xs[3 * i]? = some d0 ∧ xs[3 * i + 1]? = some d1 ∧ xs[3 * i + 2]? = some d2 ∧ Rep w S g f q d0 d1 d2

/- what lies in the blocks of S is as it was -/
structure Above (S : Nat → Prop) (w w' : World) : Prop where
  size : w.heap.size ≤ w'.heap.size
  block : ∀ k, S k → k < w.heap.size → w'.heap[k]? = w.heap[k]?
theorem Above.refl (S : Nat → Prop) (w : World) : Above S w w := ⟨Nat.le_refl _, fun _ _ _ => rfl⟩
theorem Above.trans {S : Nat → Prop} {u v w : World} (h : Above S u v) (k : Above S v w) : Above S u w :=
  ⟨Nat.le_trans h.size k.size, fun i hb hi => (k.block i hb (Nat.lt_of_lt_of_le hi h.size)).trans (h.block i hb hi)⟩
theorem Above.alloc {S : Nat → Prop} {u v : World} (h : Above S u v) (o : Obj) : Above S u (v.alloc o) :=
  h.trans ⟨by simp, fun k _ hk => Below.heap_alloc _ _ _ hk⟩
theorem Above.drewN {S : Nat → Prop} {u v : World} (h : Above S u v) (n : Nat) : Above S u (v.drewN n) := ⟨h.size, h.block⟩
theorem Above.setCell {S : Nat → Prop} {u v : World} (h : Above S u v) {a : Addr} (ha : ¬ S a.block) (x : Value) : Above S u (v.setCell a x) :=
  h.trans ⟨by simp [World.setCell], fun k hb _ => Below.heap_setCell _ _ _ _ (fun e => ha (e ▸ hb))⟩
theorem Keeps.above {b : Nat} {S : Nat → Prop} {u v : World} (h : Keeps b u v) (hb : ¬ S b) : Above S u v := ⟨h.size, fun k hk hl => h.block k hl (fun e => hb (e ▸ hk))⟩

theorem lt_of_block {w : World} {k : Nat} {o : Obj} (h : w.heap[k]? = some o) : k < w.heap.size := by
  rcases Nat.lt_or_ge k w.heap.size with hh | hh
  · exact hh
  · rw [Array.getElem?_eq_none hh] at h
    cases h

theorem owns_above {S : Nat → Prop} {n : Nat} {v : Value} {xs : List Value} {w w' : World} (h : Owns w S v n xs) (hk : Above S w w') : Owns w' S v n xs := by
  obtain ⟨⟨hl, h⟩, hS⟩ := h
  refine ⟨⟨hl, ?_⟩, hS⟩
  rcases h with h | ⟨g, cap, cur, hv, hg, hh, r⟩
  · exact Or.inl h
  · refine Or.inr ⟨g, cap, cur, hv, hg, ?_, r⟩
    rw [hk.block g (hS g (by rw [hv]; rfl)) (lt_of_block hh)]
    exact hh
theorem owns_mono {S S' : Nat → Prop} {n : Nat} {v : Value} {xs : List Value} {w : World} (h : Owns w S v n xs) (hb : ∀ k, S k → k < w.heap.size → S' k) : Owns w S' v n xs := by
  refine ⟨h.1, fun k hk => hb k (h.2 k hk) ?_⟩
  obtain ⟨⟨_, h⟩, _⟩ := h
  rcases h with ⟨hv, _⟩ | ⟨g, cap, cur, hv, hg, hh, r⟩
  · rw [hv] at hk; cases hk
  · rw [hv] at hk
    cases hk
    exact lt_of_block hh
theorem owns_new {m : Nat} {d0 d1 d2 : Value} (X : World) (hm : X.heap.size = m) : Owns (X.alloc (.cells #[d0, d1, d2] 153)) (fun k => k = m) (.slice (some ⟨m, 0, none⟩) 1 1) 1 [d0, d1, d2] := by
  subst hm
  refine ⟨⟨rfl, Or.inr ⟨_, _, #[d0, d1, d2], rfl, Nat.zero_le _, ?_, Nat.le_refl _, by decide, rfl, rfl⟩⟩, fun k hk => by cases hk; rfl⟩
  show (X.heap.push _)[X.heap.size]? = _
  rw [Array.getElem?_push_size]

theorem rep_above {S : Nat → Prop} {g : Nat → Nat} {w w' : World} (hk : Above S w w') : ∀ {f p : Nat} {c0 c1 c2 : Value}, Rep w S g f p c0 c1 c2 → Rep w' S g f p c0 c1 c2 := by
  intro f
  induction f with
  | zero => intro p c0 c1 c2 h; exact h
  | succ f ih =>
    intro p c0 c1 c2 h
    obtain ⟨h0, h1, xs, ho, hi⟩ := h
    refine ⟨h0, h1, xs, owns_above ho hk, fun i q hq => ?_⟩
    obtain ⟨d0, d1, d2, a0, a1, a2, hr⟩ := hi i q hq
    exact ⟨d0, d1, d2, a0, a1, a2, ih hr⟩
theorem rep_mono {S S' : Nat → Prop} {g : Nat → Nat} {w : World} (hb : ∀ k, S k → k < w.heap.size → S' k) : ∀ {f p : Nat} {c0 c1 c2 : Value}, Rep w S g f p c0 c1 c2 → Rep w S' g f p c0 c1 c2 := by
  intro f
  induction f with
  | zero => intro p c0 c1 c2 h; exact h
  | succ f ih =>
    intro p c0 c1 c2 h
    obtain ⟨h0, h1, xs, ho, hi⟩ := h
    refine ⟨h0, h1, xs, owns_mono ho hb, fun i q hq => ?_⟩
    obtain ⟨d0, d1, d2, a0, a1, a2, hr⟩ := hi i q hq
    exact ⟨d0, d1, d2, a0, a1, a2, ih hr⟩

theorem owns_nil (w : World) (S : Nat → Prop) : Owns w S (.slice none 0 0) 0 [] := ⟨World.ownsRow_nil _ _ _ _, fun k hk => by cases hk⟩
theorem rep_none {w : World} {S : Nat → Prop} {f p : Nat} {g : Nat → Nat} {c0 c1 : Value} (hk : Pt.kids g f p = []) (h0 : c0 = .int .u8 (g p)) (h1 : c1 = .int .i64 (nodeDigit g p)) : Rep w S g (f + 1) p c0 c1 (.slice none 0 0) := by
  refine ⟨h0, h1, [], ?_, ?_⟩
  · rw [hk]
    exact owns_nil _ _
  · intro i q hq
    rw [hk] at hq
    simp at hq

theorem kcell {b : Nat} {W w1 : World} (hb : Keeps b W w1) : (∀ k o, k < W.heap.size → ¬ k = b → w1.cell? ⟨k, o, none⟩ = W.cell? ⟨k, o, none⟩) ∧ (∀ k o, k < W.heap.size → ¬ k = b → w1.frozen? ⟨k, o, none⟩ = W.frozen? ⟨k, o, none⟩) :=
  ⟨fun k o h hn => hb.cell (p := ⟨k, o, none⟩) h hn, fun k o h hn => hb.frozen (p := ⟨k, o, none⟩) h hn⟩
theorem At.other {w : World} {b p : Nat} {s : ByteArray} (h : At w b s p) {a : Addr} (ha : ¬ a.block = b) (x : Value) : At (w.setCell a x) b s p := by
  unfold At at h ⊢
  rw [Below.heap_setCell _ _ _ _ (fun e => ha e.symm)]
  exact h

def TyPost (b : Nat) (s : ByteArray) (f p : Nat) (w : World) (e : Ending) (w' : World) : Prop :=
  if (Pt.ty (nx s) f p).1 then ∃ c0 c1 c2, e = .returned (.agg #[c0, c1, c2]) ∧ Keeps b w w' ∧ At w' b s (Pt.ty (nx s) f p).2 ∧ Rep w' (fun k => w.heap.size ≤ k) (nx s) f p c0 c1 c2
  else e = wrongAt (Pt.ty (nx s) f p).2 ∧ Keeps b w w'

abbrev zero63 : Obj := .cells #[.int .u8 0, .int .i64 0, .slice none 0 0] 153

set_option maxHeartbeats 1000000 in
theorem one_leaf (b p : Nat) (s : ByteArray) (w : World) (c : Nat) (h : At w b s p) (hp : p ≤ s.size) (hs : s.size ≤ 40) (hx : nx s p = c) (hc : c = 98 ∨ c = 99 ∨ c = 105 ∨ c = 115) :
    Calls Tryz.prog 128 #[.pointer (some ⟨b, 0, none⟩)] w fun e w' => e = .returned (.agg #[.int .u8 c, .int .i64 0, .slice none 0 0]) ∧ Keeps b w w' ∧ At w' b s (p + 1) := by
  have hlt := h.lt
  have HL := letter_ok b p s (w.alloc zero63) c (h.alloc _) hp hs hx (by omega)
  clear hx h
  have hne : ¬ w.heap.size = b := by omega
  rcases hc with rfl | rfl | rfl | rfl
  all_goals
    go_enter Tryz.func128, Tryz.ntmps128
    go_wp2_with fail
    refine HL.mono ?_
    rintro e w1 ⟨rfl, hk, ha⟩
    obtain ⟨hc, hf⟩ := kcell hk
    have hz : w.heap.size < w1.heap.size := by have := hk.size; simp at this; omega
    clear HL
    go_wp2
    refine bodyPost_ret (v := .agg #[.int .u8 _, .int .i64 0, .slice none 0 0]) (by simp [results, Tryz.results128, go_sem, hc, hz, hne]) rfl ⟨rfl, ?_, ?_⟩
    · refine Keeps.alloc ?_ _
      have hk0 := ((Keeps.refl b w).alloc zero63).trans hk
      repeat (first | exact hk0 | refine Keeps.setCell ?_ (by simp) _)
    · refine At.alloc ?_ _
      repeat (first | exact ha | refine At.other ?_ (by simpa using hne) _)

set_option maxHeartbeats 1000000 in
theorem one_bad (b p : Nat) (s : ByteArray) (w : World) (c : Nat) (h : At w b s p) (hp : p ≤ s.size) (hs : s.size ≤ 40) (hx : nx s p = c) (hc : ¬ (c = 98 ∨ c = 99 ∨ c = 105 ∨ c = 115 ∨ c = 101 ∨ c = 97 ∨ c = 113 ∨ c = 114 ∨ c = 117)) :
    Calls Tryz.prog 128 #[.pointer (some ⟨b, 0, none⟩)] w fun e w' => e = wrongAt p ∧ Keeps b w w' := by
  have HL := letter_no b p s (w.alloc zero63) c (h.alloc _) hp hs hx hc
  clear hx h hc
  go_enter Tryz.func128, Tryz.ntmps128
  go_wp2_with fail
  refine HL.mono ?_
  rintro e w1 ⟨rfl, hk⟩
  clear HL
  go_wp2
  exact ⟨rfl, rfl, ((Keeps.refl b w).alloc zero63).trans hk⟩

/- three cells of a block -/
def Tri (w : World) (k : Nat) (a0 a1 a2 : Value) : Prop := w.heap[k]? = some (.cells #[a0, a1, a2] 153 (0, 0))
theorem Tri.facts {w : World} {k : Nat} {a0 a1 a2 : Value} (h : Tri w k a0 a1 a2) :
    w.cell? ⟨k, 0, none⟩ = some a0 ∧ w.cell? ⟨k, 1, none⟩ = some a1 ∧ w.cell? ⟨k, 2, none⟩ = some a2 ∧ w.frozen? ⟨k, 0, none⟩ = false ∧ w.frozen? ⟨k, 1, none⟩ = false ∧ w.frozen? ⟨k, 2, none⟩ = false := by
  unfold Tri at h
  simp [World.cell?, World.frozen?, h]
theorem Tri.new (w : World) (a0 a1 a2 : Value) : Tri (w.alloc (.cells #[a0, a1, a2] 153)) w.heap.size a0 a1 a2 := by
  show (w.heap.push _)[w.heap.size]? = _
  rw [Array.getElem?_push_size]
theorem Tri.lt {w : World} {k : Nat} {a0 a1 a2 : Value} (h : Tri w k a0 a1 a2) : k < w.heap.size := by
  unfold Tri at h
  rcases Nat.lt_or_ge k w.heap.size with hh | hh
  · exact hh
  · rw [Array.getElem?_eq_none hh] at h
    cases h
theorem Tri.keeps {b : Nat} {w w' : World} {k : Nat} {a0 a1 a2 : Value} (h : Tri w k a0 a1 a2) (hk : Keeps b w w') (hb : k ≠ b) : Tri w' k a0 a1 a2 := by
  have hl := h.lt
  unfold Tri at h ⊢
  rw [hk.block k hl hb]
  exact h
theorem Tri.alloc {w : World} {k : Nat} {a0 a1 a2 : Value} (h : Tri w k a0 a1 a2) (o : Obj) : Tri (w.alloc o) k a0 a1 a2 := by
  have hl := h.lt
  unfold Tri at h ⊢
  rw [Below.heap_alloc w o k hl]
  exact h
theorem Tri.set1 {w : World} {k : Nat} {a0 a1 a2 : Value} (h : Tri w k a0 a1 a2) (x : Value) : Tri (w.setCell ⟨k, 1, none⟩ x) k a0 x a2 := by
  unfold Tri at h ⊢
  simp only [World.setCell, Array.getElem?_modify, h]
  simp
theorem Tri.other {w : World} {k : Nat} {a0 a1 a2 : Value} (h : Tri w k a0 a1 a2) {a : Addr} (ha : ¬ a.block = k) (x : Value) : Tri (w.setCell a x) k a0 a1 a2 := by
  unfold Tri at h ⊢
  rw [Below.heap_setCell _ _ _ _ (fun e => ha e.symm)]
  exact h

set_option maxHeartbeats 1000000 in
theorem one_e (b p : Nat) (s : ByteArray) (w : World) (h : At w b s p) (hp : p < s.size) (hs : s.size ≤ 40) (hx : nx s p = 101) (hd : 49 ≤ nx s (p + 1) ∧ nx s (p + 1) ≤ 57) :
    Calls Tryz.prog 128 #[.pointer (some ⟨b, 0, none⟩)] w fun e w' => e = .returned (.agg #[.int .u8 101, .int .i64 ((nx s (p + 1) : Int) - 48), .slice none 0 0]) ∧ Keeps b w w' ∧ At w' b s (p + 2) := by
  have hlt := h.lt
  have HL := letter_ok b p s (w.alloc zero63) 101 (h.alloc _) (by omega) hs hx (by omega)
  clear hx h
  have hne : ¬ w.heap.size = b := by omega
  generalize hc2 : nx s (p + 1) = c2 at *
  have HC2 : Hid (nx s (p + 1) = c2) := hc2
  clear hc2
  go_enter Tryz.func128, Tryz.ntmps128
  go_wp2_with fail
  refine HL.mono ?_
  rintro e w1 ⟨rfl, hk, ha⟩
  have T := (Tri.new w (.int .u8 0) (.int .i64 0) (.slice none 0 0)).keeps hk hne
  have hz : w.heap.size < w1.heap.size := T.lt
  have hb1 : ¬ w1.heap.size = b := by have := ha.lt; omega
  have hmm : ¬ w.heap.size = w1.heap.size := by omega
  clear HL
  go_wp2_with fail
  refine (digit_ok b (p + 1) s _ c2 1 (ha.alloc _) (by omega) hs HC2.out (by omega)).mono ?_
  rintro e w2 ⟨rfl, hk2, ha2⟩
  have T1 := (Tri.new w1 (.int .u8 101) (.int .i64 0) (.slice none 0 0)).keeps hk2 hb1
  have T2 := (T.alloc (.cells #[.int .u8 101, .int .i64 0, .slice none 0 0] 153)).keeps hk2 hne
  have hk0 := (((Keeps.refl b w).alloc zero63).trans hk).trans (((Keeps.refl b w1).alloc _).trans hk2)
  obtain ⟨x0, x1, x2, y0, y1, y2⟩ := T1.facts
  obtain ⟨u0, u1, u2, v0, v1, v2⟩ := T2.facts
  clear T hk hk2 ha T1 T2
  go_wp2
  refine bodyPost_ret (v := .agg #[.int .u8 101, .int .i64 ((c2 : Int) - 48), .slice none 0 0]) (by simp [results, Tryz.results128, go_sem, u0, u1, u2]) rfl ⟨rfl, ?_, ?_⟩
  · repeat (first | exact hk0 | refine Keeps.setCell ?_ (by simp; try omega) _)
  · repeat (first | exact ha2 | refine At.other ?_ (by first | simpa using hne | simpa using hb1) _)
end Go.Proofs.YtblomippkddgiaaGreatDoor.V
