/-
  The landed code's reader of bytes: bytes taken, a number of two bytes, a copy of a string.
-/
import Derived.Test.YtblomippkddgiaaVCarrier3
import Derived.Lib.BufferWrite
import Derived.Lib.UnsafeStr
import Derived.Laws.MakeOwn
namespace Go.Proofs.Ytblomippkddgiaa.V
open Go.RowKit

abbrev str (l : List UInt8) : ByteArray := ⟨l.toArray⟩
theorem str_size (l : List UInt8) : (str l).size = l.length := by simp [ByteArray.size]
theorem str_extract (l : List UInt8) (a b : Nat) : (str l).extract a b = str ((l.drop a).take (b - a)) := by
  apply ByteArray.ext
  simp [ByteArray.data_extract, List.extract_eq_take_drop]

theorem run_copied (w : World) (l : List UInt8) (M : Array Value) (hM : M.size = l.length) :
    (Builtin.copy_ #[67, 9] 3 #[.slice (some ⟨w.heap.size, 0, none⟩) l.length l.length, .string (str l)]).run Try.prog (w.alloc (.cells M 5)) = .ok (goInt l.length) ((w.alloc (.cells M 5)).setRow w.heap.size (u8s l).toArray) := by
  have h := Lib.run_copy_row_string (P := Try.prog) (w.alloc (.cells M 5)) 67 9 3 5 w.heap.size 0 l.length l.length (str l) M 5 Try.underlying67 (by kernel_rfl) (heap_alloc_new w _) (by rw [str_size]; exact Nat.le_refl _) (by rw [str_size]; omega)
  rw [str_size] at h
  have e : M.toList.drop (0 + l.length) = [] := List.drop_of_length_le (by rw [Array.length_toList]; omega)
  have e2 : M.toList.take 0 ++ Lib.byteCells (str l).data.toList ++ M.toList.drop (0 + l.length) = u8s l := by
    rw [e, List.take_zero, List.nil_append, List.append_nil]
    rfl
  rw [e2] at h
  exact h

theorem below_laid (w : World) (M : Array Value) (Y : Array Value) (n : Nat) : Below w.heap.size w (((w.alloc (.cells M 5)).setRow w.heap.size Y).freeze ⟨w.heap.size, 0, none⟩ n) := by
  refine Lib.below_freeze (p := ⟨w.heap.size, 0, none⟩) ?_ (Nat.le_refl _) _
  exact ((Below.refl w.heap.size w).alloc (Nat.le_refl _) _).trans ⟨rfl, rfl, rfl, by simp [World.setRow], fun k hk => setRow_other _ _ _ _ (by omega)⟩

theorem run_shared (w : World) (l : List UInt8) (M : Array Value) (h0 : l ≠ []) (hl : l.length ≤ 1000) :
    (Builtin.unsafeString_ #[156, 3] 9 #[.pointer (some ⟨w.heap.size, 0, none⟩), .int .i64 l.length]).run Try.prog ((w.alloc (.cells M 5)).setRow w.heap.size (u8s l).toArray) = .ok (.string (str l)) (((w.alloc (.cells M 5)).setRow w.heap.size (u8s l).toArray).freeze ⟨w.heap.size, 0, none⟩ l.length) := by
  have hg := setRow_heap (w.alloc (.cells M 5)) w.heap.size M (u8s l).toArray 5 (0, 0) (heap_alloc_new w _)
  have hsz : (u8s l).toArray.size = l.length := by simp [u8s]
  refine Lib.run_unsafeString_row (P := Try.prog) _ 156 3 9 5 Try.underlying156 (by kernel_rfl) w.heap.size l.length ?_ l h0 (Nat.le_refl _) (by omega) fun j x hx => ?_
  · unfold World.shape?
    rw [hg]
    simp [u8s]
  · refine Lib.cells_of_row hg l.length j _ ?_
    rw [List.toList_toArray, List.take_of_length_le (by simp [u8s])]
    unfold u8s
    rw [List.getElem?_map, hx]
    rfl

set_option maxRecDepth 100000 in
set_option maxHeartbeats 1000000 in
theorem clone_low (l : List UInt8) (w : World) (hl : l.length ≤ 1000) : Calls Try.prog 101 #[.string (str l)] w fun e w' => e = .returned (.string (str l)) ∧ Below w.heap.size w w' := by
  have hsz := str_size l
  by_cases h0 : l = []
  · subst h0
    go_enter Try.func101, Try.ntmps101
    go_wp2
    go_ret
    exact ⟨rfl, Below.refl _ _⟩
  · obtain ⟨i0, hi, hz0, hz1, hz2⟩ := info_parts info5
    have hpos : 0 < l.length := List.length_pos_iff.2 h0
    obtain ⟨M, hM⟩ : ∃ M, M = madeCells (Value.int .u8 0).cells (l.length * 1) := ⟨_, rfl⟩
    have hMs : M.size = l.length := by rw [hM, size_madeCells]; omega
    have hmk : ∀ W : World, (Instr.makeSlice 67 (.int .i64 (l.length : Int)) (.int .i64 (l.length : Int))).run Try.prog W = .ok (.slice (some ⟨W.heap.size, 0, none⟩) l.length l.length) (W.alloc (.cells M 5)) := fun W => by
      have h := run_make (P := Try.prog) W 67 5 i0 (.int .u8 0) Try.underlying67 hi hz0 .i64 .i64 (l.length : Int) (l.length : Int) (by omega) (Int.le_refl _) (by rw [hz2]; omega) (by omega)
      rw [hz1, Int.toNat_natCast, ← hM] at h
      exact h
    have hcp := run_copied w l M hMs
    have hus := run_shared w l M h0 hl
    have HB := hide (below_laid w M (u8s l).toArray l.length)
    have hne : ((l.length : Int) == 0) = false := by simp; omega
    generalize hY : (u8s l).toArray = Y at *
    generalize hS : str l = S at *
    clear hM hY h0 hS
    generalize l.length = n at *
    subst hsz
    go_enter Try.func101, Try.ntmps101
    go_wp2
    go_ret
    exact ⟨rfl, unhide HB⟩

set_option maxRecDepth 100000 in
set_option maxHeartbeats 400000 in
theorem clone_any (l : List UInt8) (w : World) (hl : l.length ≤ 1000) : Calls Try.prog 99 #[.string (str l)] w fun e w' => e = .returned (.string (str l)) ∧ Below w.heap.size w w' := by
  have H := hide (clone_low l w hl)
  generalize hS : str l = S at *
  clear hS
  go_enter Try.func99, Try.ntmps99
  go_wp2_with fail
  refine (unhide H).mono ?_
  rintro e w1 ⟨rfl, hb⟩
  go_wp2
  go_ret
  exact ⟨rfl, hb⟩

/- the reader lies in block b: what is left of the bytes, the items so far -/
def Rd (w : World) (b : Nat) (l : List UInt8) (O : Value) : Prop := w.heap[b]? = some (.cells #[.string (str l), .int .i64 6, O] 119 (0, 0))
theorem Rd.left {w : World} {b : Nat} {l : List UInt8} {O : Value} (h : Rd w b l O) : w.cell? ⟨b, 0, none⟩ = some (.string (str l)) := by
  unfold Rd at h
  simp [World.cell?, h]
theorem Rd.wrong {w : World} {b : Nat} {l : List UInt8} {O : Value} (h : Rd w b l O) : w.cell? ⟨b, 1, none⟩ = some (.int .i64 6) := by
  unfold Rd at h
  simp [World.cell?, h]
theorem Rd.items {w : World} {b : Nat} {l : List UInt8} {O : Value} (h : Rd w b l O) : w.cell? ⟨b, 2, none⟩ = some O := by
  unfold Rd at h
  simp [World.cell?, h]
theorem Rd.thaw {w : World} {b : Nat} {l : List UInt8} {O : Value} (h : Rd w b l O) (o : Nat) : w.frozen? ⟨b, o, none⟩ = false := by
  unfold Rd at h
  simp [World.frozen?, h]
theorem Rd.lt {w : World} {b : Nat} {l : List UInt8} {O : Value} (h : Rd w b l O) : b < w.heap.size := lt_of_block h
theorem Rd.set0 {w : World} {b : Nat} {l : List UInt8} {O : Value} (h : Rd w b l O) (l' : List UInt8) : Rd (w.setCell ⟨b, 0, none⟩ (.string (str l'))) b l' O := by
  unfold Rd at h ⊢
  simp only [World.setCell, Array.getElem?_modify, h]
  simp
theorem Rd.set1 {w : World} {b : Nat} {l : List UInt8} {O : Value} (h : Rd w b l O) (x : Value) : Rd (w.setCell ⟨b, 2, none⟩ x) b l x := by
  unfold Rd at h ⊢
  simp only [World.setCell, Array.getElem?_modify, h]
  simp
theorem Rd.below {w w' : World} {b : Nat} {l : List UInt8} {O : Value} (h : Rd w b l O) (hb : Below w.heap.size w w') : Rd w' b l O := by
  have hl := h.lt
  unfold Rd at h ⊢
  rw [hb.block b hl]
  exact h

set_option maxRecDepth 100000 in
set_option maxHeartbeats 400000 in
theorem refuse_cell (b : Nat) (w : World) (h1 : w.cell? ⟨b, 1, none⟩ = some (.int .i64 6)) : Calls Try.prog 79 #[.pointer (some ⟨b, 0, none⟩)] w fun e w' => e = gaveUp 6 0 ∧ w' = w := by
  go_enter Try.func79, Try.ntmps79
  go_wp2
  exact ⟨rfl, rfl, rfl⟩
theorem refuse_any (b : Nat) (l : List UInt8) (O : Value) (w : World) (h : Rd w b l O) : Calls Try.prog 79 #[.pointer (some ⟨b, 0, none⟩)] w fun e w' => e = gaveUp 6 0 ∧ w' = w := refuse_cell b w h.wrong

set_option maxRecDepth 100000 in
set_option maxHeartbeats 1000000 in
theorem take_ok (b : Nat) (l : List UInt8) (O : Value) (n : Nat) (w : World) (h : Rd w b l O) (hn : n ≤ l.length) (hl : l.length ≤ 1000) :
    Calls Try.prog 98 #[.pointer (some ⟨b, 0, none⟩), .int .i64 n] w fun e w' => e = .returned (.string (str (l.take n))) ∧ w' = w.setCell ⟨b, 0, none⟩ (.string (str (l.drop n))) := by
  have h1 := h.left
  have h2 := h.thaw 0
  have hsz := str_size l
  have e1 : (str l).extract 0 n = str (l.take n) := by rw [str_extract]; simp
  have e2 : (str l).extract n (str l).size = str (l.drop n) := by
    rw [str_extract, str_size, List.take_of_length_le (by rw [List.length_drop]; omega)]
  generalize hS : str l = S at *
  generalize hA : str (l.take n) = A at *
  generalize hB : str (l.drop n) = B at *
  clear hS hA hB h
  generalize l.length = m at *
  subst hsz
  have hlt : ¬ ((S.size : Int) < (n : Int)) := by omega
  go_enter Try.func98, Try.ntmps98
  go_wp2
  go_ret
  exact ⟨rfl, rfl⟩

end Go.Proofs.Ytblomippkddgiaa.V
