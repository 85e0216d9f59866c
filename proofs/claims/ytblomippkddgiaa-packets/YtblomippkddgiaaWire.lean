/-
  The landed code's reader of bytes, as packets use it: bytes taken, a number in one byte and in two, a copy of a string.
-/
import Derived.Test.YtblomippkddgiaaSixteenB
import Derived.Test.YtblomippkddgiaaPack
import Derived.Lib.BufferWrite
import Derived.Lib.UnsafeStr
import Derived.Laws.MakeOwn
import Derived.Below
import Derived.Deep.RegionWith
namespace Go.Proofs.Ytblomippkddgiaa
open Go.RowKit

abbrev faultOf (n q : Nat) : Value := .agg #[.int .i64 n, .int .i64 q]
abbrev gaveUp (n q : Nat) : Ending := .panicked [{ v := .iface 71 (faultOf n q), recovered := false }]

theorem lt_of_block {w : World} {k : Nat} {o : Obj} (h : w.heap[k]? = some o) : k < w.heap.size := by
  rcases Nat.lt_or_ge k w.heap.size with hh | hh
  · exact hh
  · rw [Array.getElem?_eq_none hh] at h
    cases h
theorem str_extract (l : List UInt8) (a b : Nat) : (str l).extract a b = str ((l.drop a).take (b - a)) := by
  apply ByteArray.ext
  simp [ByteArray.data_extract, List.extract_eq_take_drop]
def u8s (l : List UInt8) : List Value := l.map fun c => Value.int .u8 (c.toNat : Int)
theorem info5 : (Try.prog.info? 5).map (fun i => (i.zero, i.size, i.bytes)) = some (some (.int .u8 0), 1, 1) := by kernel_rfl

theorem run_copied (w : World) (l : List UInt8) (M : Array Value) (hM : M.size = l.length) :
    (Builtin.copy_ #[67, 9] 3 #[.slice (some ⟨w.heap.size, 0, none⟩) l.length l.length, .string (str l)]).run Try.prog (w.alloc (.cells M 5)) = .ok (goInt l.length) ((w.alloc (.cells M 5)).setRow w.heap.size (u8s l).toArray) := by
  have h := Lib.run_copy_row_string (P := Try.prog) (w.alloc (.cells M 5)) 67 9 3 5 w.heap.size 0 l.length l.length (str l) M 5 Try.underlying67 (by kernel_rfl) (heap_alloc_new w _) (by rw [str_size]; exact Nat.le_refl _) (by rw [str_size]; omega)
  rw [str_size] at h
  have e : M.toList.drop (0 + l.length) = [] := List.drop_of_length_le (by rw [Array.length_toList]; omega)
  have e2 : M.toList.take 0 ++ Lib.byteCells (str l).data.toList ++ M.toList.drop (0 + l.length) = u8s l := by
    rw [e, List.take_zero, List.nil_append, List.append_nil]
    rfl
  rw [e2] at h
  exact h

theorem below_laid (w : World) (M : Array Value) (Y : Array Value) (n : Nat) : Below w.heap.size w (((w.alloc (.cells M 5)).setRow w.heap.size Y).freeze ⟨w.heap.size, 0, none⟩ n) := by
  refine Lib.below_freeze (p := ⟨w.heap.size, 0, none⟩) ?_ (Nat.le_refl _) _
  exact ((Below.refl w.heap.size w).alloc (Nat.le_refl _) _).trans ⟨rfl, rfl, rfl, by simp [World.setRow], fun k hk => setRow_other _ _ _ _ (by omega)⟩

theorem run_shared (w : World) (l : List UInt8) (M : Array Value) (h0 : l ≠ []) (hl : l.length ≤ 1000) :
    (Builtin.unsafeString_ #[156, 3] 9 #[.pointer (some ⟨w.heap.size, 0, none⟩), .int .i64 l.length]).run Try.prog ((w.alloc (.cells M 5)).setRow w.heap.size (u8s l).toArray) = .ok (.string (str l)) (((w.alloc (.cells M 5)).setRow w.heap.size (u8s l).toArray).freeze ⟨w.heap.size, 0, none⟩ l.length) := by
  have hg := setRow_heap (w.alloc (.cells M 5)) w.heap.size M (u8s l).toArray 5 (0, 0) (heap_alloc_new w _)
  have hsz : (u8s l).toArray.size = l.length := by simp [u8s]
  refine Lib.run_unsafeString_row (P := Try.prog) _ 156 3 9 5 Try.underlying156 (by kernel_rfl) w.heap.size l.length ?_ l h0 (Nat.le_refl _) (by omega) fun j x hx => ?_
  · unfold World.shape?
    rw [hg]
    simp [u8s]
  · refine Lib.cells_of_row hg l.length j _ ?_
    rw [List.toList_toArray, List.take_of_length_le (by simp [u8s])]
    unfold u8s
    rw [List.getElem?_map, hx]
    rfl

set_option maxRecDepth 100000 in
set_option maxHeartbeats 1000000 in
theorem clone_low (l : List UInt8) (w : World) (hl : l.length ≤ 1000) : Calls Try.prog 101 #[.string (str l)] w fun e w' => e = .returned (.string (str l)) ∧ Below w.heap.size w w' := by
  have hsz := str_size l
  by_cases h0 : l = []
  · subst h0
    go_enter Try.func101, Try.ntmps101
    go_wp2
    go_ret
    exact ⟨rfl, Below.refl _ _⟩
  · obtain ⟨i0, hi, hz0, hz1, hz2⟩ := info_parts info5
    have hpos : 0 < l.length := List.length_pos_iff.2 h0
    obtain ⟨M, hM⟩ : ∃ M, M = madeCells (Value.int .u8 0).cells (l.length * 1) := ⟨_, rfl⟩
    have hMs : M.size = l.length := by rw [hM, size_madeCells]; omega
    have hmk : ∀ W : World, (Instr.makeSlice 67 (.int .i64 (l.length : Int)) (.int .i64 (l.length : Int))).run Try.prog W = .ok (.slice (some ⟨W.heap.size, 0, none⟩) l.length l.length) (W.alloc (.cells M 5)) := fun W => by
      have h := run_make (P := Try.prog) W 67 5 i0 (.int .u8 0) Try.underlying67 hi hz0 .i64 .i64 (l.length : Int) (l.length : Int) (by omega) (Int.le_refl _) (by rw [hz2]; omega) (by omega)
      rw [hz1, Int.toNat_natCast, ← hM] at h
      exact h
    have hcp := run_copied w l M hMs
    have hus := run_shared w l M h0 hl
    have HB := hide (below_laid w M (u8s l).toArray l.length)
    have hne : ((l.length : Int) == 0) = false := by simp; omega
    generalize hY : (u8s l).toArray = Y at *
    generalize hS : str l = S at *
    clear hM hY h0 hS
    generalize l.length = n at *
    subst hsz
    go_enter Try.func101, Try.ntmps101
    go_wp2
    go_ret
    exact ⟨rfl, unhide HB⟩

set_option maxRecDepth 100000 in
set_option maxHeartbeats 400000 in
theorem clone_any (l : List UInt8) (w : World) (hl : l.length ≤ 1000) : Calls Try.prog 99 #[.string (str l)] w fun e w' => e = .returned (.string (str l)) ∧ Below w.heap.size w w' := by
  have H := hide (clone_low l w hl)
  generalize hS : str l = S at *
  clear hS
  go_enter Try.func99, Try.ntmps99
  go_wp2_with fail
  refine (unhide H).mono ?_
  rintro e w1 ⟨rfl, hb⟩
  go_wp2
  go_ret
  exact ⟨rfl, hb⟩

/- the reader lies in block b: what is left of the bytes -/
def Rd (w : World) (b : Nat) (l : List UInt8) : Prop := w.heap[b]? = some (.cells #[.string (str l), .int .i64 7] 128 (0, 0))
theorem Rd.left {w : World} {b : Nat} {l : List UInt8} (h : Rd w b l) : w.cell? ⟨b, 0, none⟩ = some (.string (str l)) := by
  unfold Rd at h
  simp [World.cell?, h]
theorem Rd.wrong {w : World} {b : Nat} {l : List UInt8} (h : Rd w b l) : w.cell? ⟨b, 1, none⟩ = some (.int .i64 7) := by
  unfold Rd at h
  simp [World.cell?, h]
theorem Rd.thaw {w : World} {b : Nat} {l : List UInt8} (h : Rd w b l) (o : Nat) : w.frozen? ⟨b, o, none⟩ = false := by
  unfold Rd at h
  simp [World.frozen?, h]
theorem Rd.lt {w : World} {b : Nat} {l : List UInt8} (h : Rd w b l) : b < w.heap.size := lt_of_block h
theorem Rd.set {w : World} {b : Nat} {l : List UInt8} (h : Rd w b l) (l' : List UInt8) : Rd (w.setCell ⟨b, 0, none⟩ (.string (str l'))) b l' := by
  unfold Rd at h ⊢
  simp only [World.setCell, Array.getElem?_modify, h]
  simp
theorem Rd.below {w w' : World} {b B : Nat} {l : List UInt8} (h : Rd w b l) (hb : Below B w w') (hB : b < B) : Rd w' b l := by
  unfold Rd at h ⊢
  rw [hb.block b hB]
  exact h

set_option maxRecDepth 100000 in
set_option maxHeartbeats 400000 in
theorem refuse_any (b : Nat) (l : List UInt8) (w : World) (h : Rd w b l) : Calls Try.prog 79 #[.pointer (some ⟨b, 0, none⟩)] w fun e w' => e = gaveUp 7 0 ∧ w' = w := by
  have h1 := h.wrong
  clear h
  go_enter Try.func79, Try.ntmps79
  go_wp2
  exact ⟨rfl, rfl, rfl⟩

set_option maxRecDepth 100000 in
set_option maxHeartbeats 1000000 in
theorem take_ok (b : Nat) (l : List UInt8) (n : Nat) (w : World) (h : Rd w b l) (hn : n ≤ l.length) (hl : l.length ≤ 9223372036854775807) :
    Calls Try.prog 98 #[.pointer (some ⟨b, 0, none⟩), .int .i64 n] w fun e w' => e = .returned (.string (str (l.take n))) ∧ w' = w.setCell ⟨b, 0, none⟩ (.string (str (l.drop n))) := by
  have h1 := h.left
  have h2 := h.thaw 0
  have hsz := str_size l
  have e1 : (str l).extract 0 n = str (l.take n) := by rw [str_extract]; simp
  have e2 : (str l).extract n (str l).size = str (l.drop n) := by
    rw [str_extract, str_size, List.take_of_length_le (by rw [List.length_drop]; omega)]
  generalize hS : str l = S at *
  generalize hA : str (l.take n) = A at *
  generalize hB : str (l.drop n) = B at *
  clear hS hA hB h
  generalize l.length = m at *
  subst hsz
  have hlt : ¬ ((S.size : Int) < (n : Int)) := by omega
  go_enter Try.func98, Try.ntmps98
  go_wp2
  go_ret
  exact ⟨rfl, rfl⟩
set_option maxRecDepth 100000 in
set_option maxHeartbeats 1000000 in
theorem take_no (b : Nat) (l : List UInt8) (n : Nat) (w : World) (h : Rd w b l) (hn : ¬ n ≤ l.length) :
    Calls Try.prog 98 #[.pointer (some ⟨b, 0, none⟩), .int .i64 n] w fun e w' => e = gaveUp 7 0 ∧ w' = w := by
  have h1 := h.left
  have hsz := str_size l
  have HN := hide (refuse_any b l w h)
  generalize hS : str l = S at *
  clear hS h
  have hlt : ((S.size : Int) < (n : Int)) := by omega
  clear hn hsz
  go_enter Try.func98, Try.ntmps98
  go_wp2_with fail
  refine (unhide HN).mono ?_
  rintro e w1 ⟨rfl, rfl⟩
  go_wp2
  exact ⟨rfl, rfl, rfl⟩

/- of what was there nothing has turned but block b -/
structure Only (b : Nat) (w w' : World) : Prop where
  below : Below b w w'
  size : w.heap.size ≤ w'.heap.size
  block : ∀ k, k < w.heap.size → k ≠ b → w'.heap[k]? = w.heap[k]?
theorem Only.refl (b : Nat) (w : World) : Only b w w := ⟨Below.refl _ _, Nat.le_refl _, fun _ _ _ => rfl⟩
theorem Only.trans {b : Nat} {u v w : World} (h : Only b u v) (k : Only b v w) : Only b u w := ⟨h.below.trans k.below, Nat.le_trans h.size k.size, fun i hi hb => (k.block i (Nat.lt_of_lt_of_le hi h.size) hb).trans (h.block i hi hb)⟩
theorem Only.set (b o : Nat) (w : World) (x : Value) : Only b w (w.setCell ⟨b, o, none⟩ x) := ⟨(Below.refl _ _).setCell (by simp) _, by simp, fun _ _ hk => Below.heap_setCell _ _ _ _ (by simpa using hk)⟩
theorem Only.of_below {b : Nat} {w w' : World} (h : Below w.heap.size w w') (hb : b ≤ w.heap.size) : Only b w w' := ⟨h.mono hb, h.size, fun k hk _ => h.block k hk⟩

/- a byte; or too few -/
def byteP (b : Nat) (l : List UInt8) (w : World) (e : Ending) (w' : World) : Prop := Only b w w' ∧ ((l = [] ∧ e = gaveUp 7 0) ∨ ∃ c r, l = c :: r ∧ e = .returned (.int .i64 (c.toNat : Int)) ∧ Rd w' b r)
set_option maxRecDepth 100000 in
set_option maxHeartbeats 1000000 in
theorem byte_any (b : Nat) (l : List UInt8) (w : World) (h : Rd w b l) (hl : l.length ≤ 9223372036854775807) : Calls Try.prog 87 #[.pointer (some ⟨b, 0, none⟩)] w (byteP b l w) := by
  cases l with
  | nil =>
    have H := hide (take_no b [] 1 w h (by simp))
    clear h
    go_enter Try.func87, Try.ntmps87
    go_wp2_with fail
    refine (unhide H).mono ?_
    rintro e w1 ⟨rfl, rfl⟩
    go_wp2
    exact ⟨rfl, Only.refl _ _, Or.inl ⟨rfl, rfl⟩⟩
  | cons c r =>
    have H := hide (take_ok b (c :: r) 1 w h (by simp) hl)
    have HS := hide (h.set r)
    rw [show (c :: r).take 1 = [c] from rfl, show (c :: r).drop 1 = r from rfl] at H
    have i0 : (str [c])[0]'(by rw [str_size]; simp) = c := rfl
    have hc := c.toNat_lt
    have hw : wrap64 (c.toNat : Int) = (c.toNat : Int) := by unfold wrap64; omega
    clear h
    go_enter Try.func87, Try.ntmps87
    go_wp2_with fail
    refine (unhide H).mono ?_
    rintro e w1 ⟨rfl, rfl⟩
    go_wp2
    go_ret
    exact ⟨Only.set _ _ _ _, Or.inr ⟨c, r, rfl, rfl, unhide HS⟩⟩

end Go.Proofs.Ytblomippkddgiaa
