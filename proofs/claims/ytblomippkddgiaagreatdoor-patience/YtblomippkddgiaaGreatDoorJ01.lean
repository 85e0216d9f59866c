/-
  Joined: Wire Foot Tab.
-/
import Derived.Test.YtblomippkddgiaaGreatDoorJ00
import Derived.Lib.BufferWrite
import Derived.Lib.UnsafeStr
import Derived.Laws.MakeOwn
import Derived.Below
import Derived.Deep.RegionWith
import Derived.Maps.OwnSet
import Derived.Maps.AppendAt
/-
  The landed code's reader of bytes, as packets use it: bytes taken, a number in one byte and in two, a copy of a string.
-/
namespace Go.Proofs.YtblomippkddgiaaGreatDoor
open Go.RowKit

abbrev faultOf (n q : Nat) : Value := .agg #[.int .i64 n, .int .i64 q]
abbrev gaveUp (n q : Nat) : Ending := .panicked [{ v := .iface 86 (faultOf n q), recovered := false }]

theorem lt_of_block {w : World} {k : Nat} {o : Obj} (h : w.heap[k]? = some o) : k < w.heap.size := by
  rcases Nat.lt_or_ge k w.heap.size with hh | hh
  · exact hh
  · rw [Array.getElem?_eq_none hh] at h
    cases h
theorem str_extract (l : List UInt8) (a b : Nat) : (str l).extract a b = str ((l.drop a).take (b - a)) := by
  apply ByteArray.ext
  simp [ByteArray.data_extract, List.extract_eq_take_drop]
def u8s (l : List UInt8) : List Value := l.map fun c => Value.int .u8 (c.toNat : Int)
theorem info5 : (Tryz.prog.info? 5).map (fun i => (i.zero, i.size, i.bytes)) = some (some (.int .u8 0), 1, 1) := by kernel_rfl

theorem run_copied (w : World) (l : List UInt8) (M : Array Value) (hM : M.size = l.length) :
    (Builtin.copy_ #[199, 9] 3 #[.slice (some ⟨w.heap.size, 0, none⟩) l.length l.length, .string (str l)]).run Tryz.prog (w.alloc (.cells M 5)) = .ok (goInt l.length) ((w.alloc (.cells M 5)).setRow w.heap.size (u8s l).toArray) := by
  have h := Lib.run_copy_row_string (P := Tryz.prog) (w.alloc (.cells M 5)) 199 9 3 5 w.heap.size 0 l.length l.length (str l) M 5 Tryz.underlying199 (by kernel_rfl) (heap_alloc_new w _) (by rw [str_size]; exact Nat.le_refl _) (by rw [str_size]; omega)
  rw [str_size] at h
  have e : M.toList.drop (0 + l.length) = [] := List.drop_of_length_le (by rw [Array.length_toList]; omega)
  have e2 : M.toList.take 0 ++ Lib.byteCells (str l).data.toList ++ M.toList.drop (0 + l.length) = u8s l := by
    rw [e, List.take_zero, List.nil_append, List.append_nil]
    rfl
  rw [e2] at h
  exact h

theorem below_laid (w : World) (M : Array Value) (Y : Array Value) (n : Nat) : Below w.heap.size w (((w.alloc (.cells M 5)).setRow w.heap.size Y).freeze ⟨w.heap.size, 0, none⟩ n) := by
  refine Lib.below_freeze (p := ⟨w.heap.size, 0, none⟩) ?_ (Nat.le_refl _) _
  exact ((Below.refl w.heap.size w).alloc (Nat.le_refl _) _).trans ⟨rfl, rfl, rfl, by simp [World.setRow], fun k hk => setRow_other _ _ _ _ (by omega)⟩

theorem run_shared (w : World) (l : List UInt8) (M : Array Value) (h0 : l ≠ []) (hl : l.length ≤ 1000) :
    (Builtin.unsafeString_ #[338, 3] 9 #[.pointer (some ⟨w.heap.size, 0, none⟩), .int .i64 l.length]).run Tryz.prog ((w.alloc (.cells M 5)).setRow w.heap.size (u8s l).toArray) = .ok (.string (str l)) (((w.alloc (.cells M 5)).setRow w.heap.size (u8s l).toArray).freeze ⟨w.heap.size, 0, none⟩ l.length) := by
  have hg := setRow_heap (w.alloc (.cells M 5)) w.heap.size M (u8s l).toArray 5 (0, 0) (heap_alloc_new w _)
  have hsz : (u8s l).toArray.size = l.length := by simp [u8s]
  refine Lib.run_unsafeString_row (P := Tryz.prog) _ 338 3 9 5 Tryz.underlying338 (by kernel_rfl) w.heap.size l.length ?_ l h0 (Nat.le_refl _) (by omega) fun j x hx => ?_
  · unfold World.shape?
    rw [hg]
    simp [u8s]
  · refine Lib.cells_of_row hg l.length j _ ?_
    rw [List.toList_toArray, List.take_of_length_le (by simp [u8s])]
    unfold u8s
    rw [List.getElem?_map, hx]
    rfl

set_option maxRecDepth 100000 in
set_option maxHeartbeats 1000000 in
theorem clone_low (l : List UInt8) (w : World) (hl : l.length ≤ 1000) : Calls Tryz.prog 229 #[.string (str l)] w fun e w' => e = .returned (.string (str l)) ∧ Below w.heap.size w w' := by
  have hsz := str_size l
  by_cases h0 : l = []
  · subst h0
    go_enter Tryz.func229, Tryz.ntmps229
    go_wp2
    go_ret
    exact ⟨rfl, Below.refl _ _⟩
  · obtain ⟨i0, hi, hz0, hz1, hz2⟩ := info_parts info5
    have hpos : 0 < l.length := List.length_pos_iff.2 h0
    obtain ⟨M, hM⟩ : ∃ M, M = madeCells (Value.int .u8 0).cells (l.length * 1) := ⟨_, rfl⟩
    have hMs : M.size = l.length := by rw [hM, size_madeCells]; omega
    have hmk : ∀ W : World, (Instr.makeSlice 199 (.int .i64 (l.length : Int)) (.int .i64 (l.length : Int))).run Tryz.prog W = .ok (.slice (some ⟨W.heap.size, 0, none⟩) l.length l.length) (W.alloc (.cells M 5)) := fun W => by
      have h := run_make (P := Tryz.prog) W 199 5 i0 (.int .u8 0) Tryz.underlying199 hi hz0 .i64 .i64 (l.length : Int) (l.length : Int) (by omega) (Int.le_refl _) (by rw [hz2]; omega) (by omega)
      rw [hz1, Int.toNat_natCast, ← hM] at h
      exact h
    have hcp := run_copied w l M hMs
    have hus := run_shared w l M h0 hl
    have HB := hide (below_laid w M (u8s l).toArray l.length)
    have hne : ((l.length : Int) == 0) = false := by simp; omega
    generalize hY : (u8s l).toArray = Y at *
    generalize hS : str l = S at *
    clear hM hY h0 hS
    generalize l.length = n at *
    subst hsz
    go_enter Tryz.func229, Tryz.ntmps229
    go_wp2
    go_ret
    exact ⟨rfl, unhide HB⟩

set_option maxRecDepth 100000 in
set_option maxHeartbeats 400000 in
theorem clone_any (l : List UInt8) (w : World) (hl : l.length ≤ 1000) : Calls Tryz.prog 184 #[.string (str l)] w fun e w' => e = .returned (.string (str l)) ∧ Below w.heap.size w w' := by
  have H := hide (clone_low l w hl)
  generalize hS : str l = S at *
  clear hS
  go_enter Tryz.func184, Tryz.ntmps184
  go_wp2_with fail
  refine (unhide H).mono ?_
  rintro e w1 ⟨rfl, hb⟩
  go_wp2
  go_ret
  exact ⟨rfl, hb⟩

/- the reader lies in block b: what is left of the bytes -/
def Rd (w : World) (b : Nat) (l : List UInt8) : Prop := w.heap[b]? = some (.cells #[.string (str l), .int .i64 7] 127 (0, 0))
theorem Rd.left {w : World} {b : Nat} {l : List UInt8} (h : Rd w b l) : w.cell? ⟨b, 0, none⟩ = some (.string (str l)) := by
  unfold Rd at h
  simp [World.cell?, h]
theorem Rd.wrong {w : World} {b : Nat} {l : List UInt8} (h : Rd w b l) : w.cell? ⟨b, 1, none⟩ = some (.int .i64 7) := by
  unfold Rd at h
  simp [World.cell?, h]
theorem Rd.thaw {w : World} {b : Nat} {l : List UInt8} (h : Rd w b l) (o : Nat) : w.frozen? ⟨b, o, none⟩ = false := by
  unfold Rd at h
  simp [World.frozen?, h]
theorem Rd.lt {w : World} {b : Nat} {l : List UInt8} (h : Rd w b l) : b < w.heap.size := lt_of_block h
theorem Rd.set {w : World} {b : Nat} {l : List UInt8} (h : Rd w b l) (l' : List UInt8) : Rd (w.setCell ⟨b, 0, none⟩ (.string (str l'))) b l' := by
  unfold Rd at h ⊢
  simp only [World.setCell, Array.getElem?_modify, h]
  simp
theorem Rd.below {w w' : World} {b B : Nat} {l : List UInt8} (h : Rd w b l) (hb : Below B w w') (hB : b < B) : Rd w' b l := by
  unfold Rd at h ⊢
  rw [hb.block b hB]
  exact h

set_option maxRecDepth 100000 in
set_option maxHeartbeats 400000 in
theorem refuse_any (b : Nat) (l : List UInt8) (w : World) (h : Rd w b l) : Calls Tryz.prog 120 #[.pointer (some ⟨b, 0, none⟩)] w fun e w' => e = gaveUp 7 0 ∧ w' = w := by
  have h1 := h.wrong
  clear h
  go_enter Tryz.func120, Tryz.ntmps120
  go_wp2
  exact ⟨rfl, rfl, rfl⟩

set_option maxRecDepth 100000 in
set_option maxHeartbeats 1000000 in
theorem take_ok (b : Nat) (l : List UInt8) (n : Nat) (w : World) (h : Rd w b l) (hn : n ≤ l.length) (hl : l.length ≤ 9223372036854775807) :
    Calls Tryz.prog 190 #[.pointer (some ⟨b, 0, none⟩), .int .i64 n] w fun e w' => e = .returned (.string (str (l.take n))) ∧ w' = w.setCell ⟨b, 0, none⟩ (.string (str (l.drop n))) := by
  have h1 := h.left
  have h2 := h.thaw 0
  have hsz := str_size l
  have e1 : (str l).extract 0 n = str (l.take n) := by rw [str_extract]; simp
  have e2 : (str l).extract n (str l).size = str (l.drop n) := by
    rw [str_extract, str_size, List.take_of_length_le (by rw [List.length_drop]; omega)]
  generalize hS : str l = S at *
  generalize hA : str (l.take n) = A at *
  generalize hB : str (l.drop n) = B at *
  clear hS hA hB h
  generalize l.length = m at *
  subst hsz
  have hlt : ¬ ((S.size : Int) < (n : Int)) := by omega
  go_enter Tryz.func190, Tryz.ntmps190
  go_wp2
  go_ret
  exact ⟨rfl, rfl⟩
set_option maxRecDepth 100000 in
set_option maxHeartbeats 1000000 in
theorem take_no (b : Nat) (l : List UInt8) (n : Nat) (w : World) (h : Rd w b l) (hn : ¬ n ≤ l.length) :
    Calls Tryz.prog 190 #[.pointer (some ⟨b, 0, none⟩), .int .i64 n] w fun e w' => e = gaveUp 7 0 ∧ w' = w := by
  have h1 := h.left
  have hsz := str_size l
  have HN := hide (refuse_any b l w h)
  generalize hS : str l = S at *
  clear hS h
  have hlt : ((S.size : Int) < (n : Int)) := by omega
  clear hn hsz
  go_enter Tryz.func190, Tryz.ntmps190
  go_wp2_with fail
  refine (unhide HN).mono ?_
  rintro e w1 ⟨rfl, rfl⟩
  go_wp2
  exact ⟨rfl, rfl, rfl⟩

/- of what was there nothing has turned but block b -/
structure Only (b : Nat) (w w' : World) : Prop where
  below : Below b w w'
  size : w.heap.size ≤ w'.heap.size
  block : ∀ k, k < w.heap.size → k ≠ b → w'.heap[k]? = w.heap[k]?
theorem Only.refl (b : Nat) (w : World) : Only b w w := ⟨Below.refl _ _, Nat.le_refl _, fun _ _ _ => rfl⟩
theorem Only.trans {b : Nat} {u v w : World} (h : Only b u v) (k : Only b v w) : Only b u w := ⟨h.below.trans k.below, Nat.le_trans h.size k.size, fun i hi hb => (k.block i (Nat.lt_of_lt_of_le hi h.size) hb).trans (h.block i hi hb)⟩
theorem Only.set (b o : Nat) (w : World) (x : Value) : Only b w (w.setCell ⟨b, o, none⟩ x) := ⟨(Below.refl _ _).setCell (by simp) _, by simp, fun _ _ hk => Below.heap_setCell _ _ _ _ (by simpa using hk)⟩
theorem Only.of_below {b : Nat} {w w' : World} (h : Below w.heap.size w w') (hb : b ≤ w.heap.size) : Only b w w' := ⟨h.mono hb, h.size, fun k hk _ => h.block k hk⟩

/- a byte; or too few -/
def byteP (b : Nat) (l : List UInt8) (w : World) (e : Ending) (w' : World) : Prop := Only b w w' ∧ ((l = [] ∧ e = gaveUp 7 0) ∨ ∃ c r, l = c :: r ∧ e = .returned (.int .i64 (c.toNat : Int)) ∧ Rd w' b r)
set_option maxRecDepth 100000 in
set_option maxHeartbeats 1000000 in
theorem byte_any (b : Nat) (l : List UInt8) (w : World) (h : Rd w b l) (hl : l.length ≤ 9223372036854775807) : Calls Tryz.prog 113 #[.pointer (some ⟨b, 0, none⟩)] w (byteP b l w) := by
  cases l with
  | nil =>
    have H := hide (take_no b [] 1 w h (by simp))
    clear h
    go_enter Tryz.func113, Tryz.ntmps113
    go_wp2_with fail
    refine (unhide H).mono ?_
    rintro e w1 ⟨rfl, rfl⟩
    go_wp2
    exact ⟨rfl, Only.refl _ _, Or.inl ⟨rfl, rfl⟩⟩
  | cons c r =>
    have H := hide (take_ok b (c :: r) 1 w h (by simp) hl)
    have HS := hide (h.set r)
    rw [show (c :: r).take 1 = [c] from rfl, show (c :: r).drop 1 = r from rfl] at H
    have i0 : (str [c])[0]'(by rw [str_size]; simp) = c := rfl
    have hc := c.toNat_lt
    have hw : wrap64 (c.toNat : Int) = (c.toNat : Int) := by unfold wrap64; omega
    clear h
    go_enter Tryz.func113, Tryz.ntmps113
    go_wp2_with fail
    refine (unhide H).mono ?_
    rintro e w1 ⟨rfl, rfl⟩
    go_wp2
    go_ret
    exact ⟨Only.set _ _ _ _, Or.inr ⟨c, r, rfl, rfl, unhide HS⟩⟩

end Go.Proofs.YtblomippkddgiaaGreatDoor
/-
  Which blocks a thing in memory has (its foot), and what a call on it may turn.
-/
namespace Go.Proofs.YtblomippkddgiaaGreatDoor
open Go.RowKit

abbrev Foot := Nat → Prop

/- nothing has turned but the blocks of F; blocks have come -/
structure Keeps (F : Foot) (w w' : World) : Prop where
  os : w'.os = w.os
  tape : w'.tape = w.tape
  output : w'.output = w.output
  size : w.heap.size ≤ w'.heap.size
  block : ∀ k, k < w.heap.size → ¬ F k → w'.heap[k]? = w.heap[k]?

theorem Keeps.refl (F : Foot) (w : World) : Keeps F w w := ⟨rfl, rfl, rfl, Nat.le_refl _, fun _ _ _ => rfl⟩
theorem Keeps.mono {F G : Foot} {w w' : World} (h : Keeps F w w') (hG : ∀ k, k < w.heap.size → F k → G k) : Keeps G w w' := ⟨h.os, h.tape, h.output, h.size, fun k hk hn => h.block k hk (fun hf => hn (hG k hk hf))⟩
theorem Keeps.andThen {F G : Foot} {a b c : World} (h : Keeps F a b) (k : Keeps G b c) (hG : ∀ i, i < a.heap.size → G i → F i) : Keeps F a c :=
  ⟨k.os.trans h.os, k.tape.trans h.tape, k.output.trans h.output, Nat.le_trans h.size k.size, fun i hi hn => (k.block i (Nat.lt_of_lt_of_le hi h.size) (fun hg => hn (hG i hi hg))).trans (h.block i hi hn)⟩
theorem Keeps.trans {F : Foot} {a b c : World} (h : Keeps F a b) (k : Keeps F b c) : Keeps F a c := h.andThen k (fun _ _ h => h)
theorem Keeps.ofBelow {w w' : World} (h : Below w.heap.size w w') (F : Foot) : Keeps F w w' := ⟨h.os, h.tape, h.output, h.size, fun k hk _ => h.block k hk⟩
theorem Keeps.below {F : Foot} {w w' : World} (h : Keeps F w w') {B : Nat} (hB : B ≤ w.heap.size) (hF : ∀ k, F k → B ≤ k) : Below B w w' := ⟨h.os, h.tape, h.output, h.size, fun k hk => h.block k (Nat.lt_of_lt_of_le hk hB) (fun hf => by have := hF k hf; omega)⟩
theorem Keeps.drew {F : Foot} {a w : World} (h : Keeps F a w) : Keeps F a w.drew := ⟨h.os, h.tape, h.output, h.size, h.block⟩
theorem Keeps.alloc {F : Foot} {a w : World} (h : Keeps F a w) (o : Obj) : Keeps F a (w.alloc o) :=
  h.trans ⟨rfl, rfl, rfl, by simp, fun k hk _ => Below.heap_alloc _ _ _ hk⟩
theorem Keeps.setCell {F : Foot} {a w : World} (h : Keeps F a w) {p : Addr} (hp : F p.block ∨ a.heap.size ≤ p.block) (u : Value) : Keeps F a (w.setCell p u) :=
  ⟨h.os, h.tape, h.output, by simpa [World.setCell] using h.size, fun k hk hn => by
    rw [Below.heap_setCell _ _ _ _ (fun e => by
      subst e
      rcases hp with hp | hp
      · exact hn hp
      · omega)]
    exact h.block k hk hn⟩
theorem Keeps.grown {F : Foot} {a w w' : World} {row : Option Nat} (h : Keeps F a w) (hg : w.grownBy w' row) (hr : ∀ k, row = some k → F k ∨ a.heap.size ≤ k) : Keeps F a w' :=
  ⟨hg.os.trans h.os, hg.tape.trans h.tape, hg.output.trans h.output, Nat.le_trans h.size hg.size, fun k hk hn => by
    rw [hg.block k (Nat.lt_of_lt_of_le hk h.size) (fun e => by
      rcases hr k e.symm with q | q
      · exact hn q
      · omega)]
    exact h.block k hk hn⟩
/- what two worlds have in common at a block that is not of the foot -/
theorem Keeps.at {F : Foot} {w w' : World} (h : Keeps F w w') {k : Nat} {o : Obj} (hk : w.heap[k]? = some o) (hn : ¬ F k) : w'.heap[k]? = some o := by
  rw [h.block k (Array.getElem?_eq_some_iff.1 hk).1 hn]
  exact hk
theorem Keeps.row {F : Foot} {w w' : World} (h : Keeps F w w') {B n size : Nat} {e : TypeId} {v : Value} {xs : List Value} (hr : w.ownsRow B e size v n xs) (hn : ∀ j, v.ownBlock = some j → ¬ F j) : w'.ownsRow B e size v n xs := by
  obtain ⟨hl, hr⟩ := hr
  refine ⟨hl, ?_⟩
  rcases hr with hr | ⟨g, cap, cur, rfl, hb, hg, r⟩
  · exact Or.inl hr
  · exact Or.inr ⟨g, cap, cur, rfl, hb, h.at hg (hn g rfl), r⟩
theorem Keeps.map {F : Foot} {w w' : World} (h : Keeps F w w') {H : Type} {P : Program} {k : TypeId} {R : Value → Option (DataW H × List MemPlace)} {b n : Nat} {D : DataW H} (hm : w.ownsMap P k R b n D) (hn : ¬ F b) : w'.ownsMap P k R b n D := by
  obtain ⟨es, clock, hb, r⟩ := hm
  exact ⟨es, clock, h.at hb hn, r⟩

/- a call that turned a thing with the foot F into one with the foot F' -/
structure Went (F F' : Foot) (w w' : World) : Prop where
  keeps : Keeps F w w'
  fresh : ∀ k, F' k → F k ∨ w.heap.size ≤ k
theorem Went.refl (F : Foot) (w : World) : Went F F w w := ⟨Keeps.refl F w, fun _ h => Or.inl h⟩
theorem Went.trans {F F' F'' : Foot} {a b c : World} (h : Went F F' a b) (k : Went F' F'' b c) : Went F F'' a c :=
  ⟨h.keeps.andThen k.keeps (fun i hi hf => (h.fresh i hf).resolve_right (by omega)), fun i hi => by
    rcases k.fresh i hi with q | q
    · exact h.fresh i q
    · exact Or.inr (Nat.le_trans h.keeps.size q)⟩
theorem Went.ofBelow {w w' : World} (F : Foot) (h : Below w.heap.size w w') : Went F F w w' := ⟨Keeps.ofBelow h F, fun _ h => Or.inl h⟩
/- two feet apart stay apart -/
theorem Went.apart {F F' G : Foot} {w w' : World} (h : Went F F' w w') (hG : ∀ k, G k → k < w.heap.size) (ha : ∀ k, F k → ¬ G k) : ∀ k, F' k → ¬ G k := fun k hf hg => by
  rcases h.fresh k hf with q | q
  · exact ha k q hg
  · have := hG k hg
    omega
theorem Went.widen {F F' G : Foot} {w w' : World} (h : Went F F' w w') : Went (fun k => F k ∨ G k) (fun k => F' k ∨ G k) w w' :=
  ⟨h.keeps.mono (fun _ _ h => Or.inl h), fun k hk => by
    rcases hk with hk | hk
    · rcases h.fresh k hk with q | q
      · exact Or.inl (Or.inl q)
      · exact Or.inr q
    · exact Or.inl (Or.inr hk)⟩
end Go.Proofs.YtblomippkddgiaaGreatDoor
/-
  A row of things of n cells each.
-/
namespace Go.Proofs.YtblomippkddgiaaGreatDoor
open Go.RowKit

def tab {α : Type} (f : α → List Value) (xs : List α) : List Value := xs.flatMap f
theorem tab_length {α : Type} {f : α → List Value} {n : Nat} (hf : ∀ x, (f x).length = n) : ∀ xs : List α, (tab f xs).length = n * xs.length
  | [] => by simp [tab]
  | x :: xs => by
    have h := tab_length hf xs
    simp only [tab, List.flatMap_cons, List.length_append, hf, List.length_cons] at h ⊢
    rw [h, Nat.mul_succ]
    omega
theorem tab_get {α : Type} {f : α → List Value} {n : Nat} (hf : ∀ x, (f x).length = n) : ∀ (xs : List α) (k j : Nat) (x : α), xs[k]? = some x → j < n → (tab f xs)[k * n + j]? = (f x)[j]?
  | [], k, j, x, h, _ => by simp at h
  | y :: xs, 0, j, x, h, hj => by
    simp at h
    subst h
    simp only [tab, List.flatMap_cons, Nat.zero_mul, Nat.zero_add]
    rw [List.getElem?_append_left (by rw [hf]; exact hj)]
  | y :: xs, k + 1, j, x, h, hj => by
    have ih := tab_get hf xs k j x (by simpa using h) hj
    simp only [tab, List.flatMap_cons] at ih ⊢
    rw [List.getElem?_append_right (by rw [hf, Nat.succ_mul]; omega), hf, ← ih]
    congr 1
    rw [Nat.succ_mul]
    omega
theorem tab_set {α : Type} {f : α → List Value} {n : Nat} (hf : ∀ x, (f x).length = n) : ∀ (xs : List α) (k j : Nat) (x x' : α) (v : Value), xs[k]? = some x → j < n → f x' = (f x).set j v → (tab f xs).set (k * n + j) v = tab f (xs.set k x')
  | [], k, j, x, x', v, h, _, _ => by simp at h
  | y :: xs, 0, j, x, x', v, h, hj, e => by
    simp at h
    subst h
    simp only [tab, List.flatMap_cons, Nat.zero_mul, Nat.zero_add, List.set_cons_zero]
    rw [List.set_append_left _ _ (by rw [hf]; exact hj), e]
  | y :: xs, k + 1, j, x, x', v, h, hj, e => by
    have ih := tab_set hf xs k j x x' v (by simpa using h) hj e
    simp only [tab, List.flatMap_cons, List.set_cons_succ] at ih ⊢
    rw [List.set_append_right _ _ (by rw [hf, Nat.succ_mul]; omega), hf, ← ih]
    congr 2
    rw [Nat.succ_mul]
    omega
theorem tab_snoc {α : Type} (f : α → List Value) (xs : List α) (x : α) : tab f (xs ++ [x]) = tab f xs ++ f x := by simp [tab]

/- a store into a block of cells -/
theorem heap_store {w : World} {b off : Nat} {cs : List Value} {t : TypeId} {fz : Nat × Nat} (h : w.heap[b]? = some (.cells cs.toArray t fz)) (v : Value) : (w.setCell ⟨b, off, none⟩ v).heap[b]? = some (.cells (cs.set off v).toArray t fz) := by
  simp [World.setCell, Array.getElem?_modify, h]
theorem cell_list {w : World} {b off : Nat} {cs : List Value} {t : TypeId} {fz : Nat × Nat} {v : Value} (h : w.heap[b]? = some (.cells cs.toArray t fz)) (hv : cs[off]? = some v) : w.cell? ⟨b, off, none⟩ = some v := by
  simp [World.cell?, h, hv]
theorem open_list {w : World} {b off : Nat} {cs : Array Value} {t : TypeId} (h : w.heap[b]? = some (.cells cs t (0, 0))) : w.frozen? ⟨b, off, none⟩ = false := by
  simp [World.frozen?, h]
theorem ne_tag {w : World} {a b : Nat} {xs ys : Array Value} {t u : TypeId} {f g : Nat × Nat} (ha : w.heap[a]? = some (.cells xs t f)) (hb : w.heap[b]? = some (.cells ys u g)) (h : t ≠ u) : a ≠ b := by
  rintro rfl
  rw [ha] at hb
  cases hb
  exact h rfl
theorem ne_map {w : World} {a b : Nat} {xs : Array Value} {t : TypeId} {f : Nat × Nat} {es : Array MapEntry} {cl : Nat} (ha : w.heap[a]? = some (.cells xs t f)) (hb : w.heap[b]? = some (.map es cl)) : a ≠ b := by
  rintro rfl
  rw [ha] at hb
  cases hb
end Go.Proofs.YtblomippkddgiaaGreatDoor
