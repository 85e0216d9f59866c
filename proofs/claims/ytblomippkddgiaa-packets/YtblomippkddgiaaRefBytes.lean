/-
  The document's own 'two' and 'bytes'.
-/
import Derived.Test.YtblomippkddgiaaRow
namespace Go.Proofs.Ytblomippkddgiaa
open Go.RowKit

theorem conv_two (w : World) (a b : Int) : (convert 67 9 (.slice (some ⟨w.heap.size, 0, none⟩) 2 2)).run Try.prog (w.alloc (.cells #[.int .u8 a, .int .u8 b] 5)) = .ok (.string (str [b8 a, b8 b])) (w.alloc (.cells #[.int .u8 a, .int .u8 b] 5)) := by
  rw [run_convert_bytes_string _ 67 9 5 _ _ _ Try.underlying67 Try.underlying5 Try.underlying9, run_bytesToString _ _ _ _ [a, b]]
  · rfl
  · simp [loadCells, go_sem]

set_option maxRecDepth 100000 in
set_option maxHeartbeats 400000 in
theorem refTwo_any (n : Int) (w : World) (h0 : 0 ≤ n) (h1 : n ≤ 65535) :
    Calls Try.prog 78 #[.int .i64 n] w fun e w' => e = .returned (.string (str (two8 n))) ∧ Below w.heap.size w w' := by
  have hc := conv_two w (n / 256) (n % 256)
  have e : two8 n = [b8 (n / 256), b8 (n % 256)] := rfl
  rw [e]
  clear e
  have hd : 0 ≤ n / 256 ∧ n / 256 ≤ 255 := by omega
  have hm : 0 ≤ n % 256 ∧ n % 256 ≤ 255 := by omega
  go_enter Try.func78, Try.ntmps78
  go_wp2
  go_ret
  exact ⟨rfl, (Below.refl _ _).alloc (Nat.le_refl _) _⟩

def Fill (w : World) (G N i : Nat) (xs : List Int) : Prop := ∃ cur : Array Value, w.heap[G]? = some (.cells cur 5 (0, 0)) ∧ cur.size = N ∧ ∀ k x, k < i → xs[k]? = some x → cur[k]? = some (.int .u8 x)
theorem Fill.cell {w : World} {G N i : Nat} {xs : List Int} (h : Fill w G N i xs) {k : Nat} (hk : k < N) : ∃ v, w.cell? ⟨G, k, none⟩ = some v := by
  obtain ⟨cur, hg, hs, _⟩ := h
  exact ⟨_, cell_of hg k _ (Array.getElem?_eq_getElem (by omega))⟩
theorem Fill.thaw {w : World} {G N i : Nat} {xs : List Int} (h : Fill w G N i xs) (o : Nat) : w.frozen? ⟨G, o, none⟩ = false := by
  obtain ⟨cur, hg, _⟩ := h
  exact thaw_of hg o
theorem Fill.set {w : World} {G N i : Nat} {xs : List Int} (h : Fill w G N i xs) {x : Int} (hx : xs[i]? = some x) (hi : i < N) : Fill (w.setCell ⟨G, i, none⟩ (.int .u8 x)) G N (i + 1) xs := by
  obtain ⟨cur, hg, hs, r⟩ := h
  refine ⟨cur.setIfInBounds i (.int .u8 x), set_block hg _, by simpa using hs, fun k y hk hy => ?_⟩
  by_cases hki : k = i
  · subst hki
    rw [hx] at hy
    cases hy
    rw [Array.getElem?_setIfInBounds_self_of_lt (by omega)]
  · rw [Array.getElem?_setIfInBounds_ne (by omega)]
    exact r k y (by omega) hy
theorem Fill.conv {w : World} {G N : Nat} {xs : List Int} (h : Fill w G N N xs) (hN : N = xs.length) (hx : ∀ x ∈ xs, 0 ≤ x ∧ x ≤ 255) : (convert 67 9 (.slice (some ⟨G, 0, none⟩) N N)).run Try.prog w = .ok (.string (str (xs.map b8))) w := by
  obtain ⟨cur, hg, hs, r⟩ := h
  have := run_convert_bytes_back (P := Try.prog) w 67 9 5 ⟨G, 0, none⟩ N (xs.map b8) Try.underlying67 (by kernel_rfl) Try.underlying9 fun j hj => ?_
  · rw [List.length_map, ← hN] at this
    exact this
  · rw [List.length_map] at hj
    have hxj := r j xs[j] (by omega) (List.getElem?_eq_getElem hj)
    rw [Addr.add_lit, Nat.zero_add, cell_of hg j _ hxj]
    have hm := hx xs[j] (List.getElem_mem hj)
    rw [List.getElem_map, b8_val hm.1 hm.2]

set_option maxRecDepth 100000 in
set_option maxHeartbeats 1000000 in
theorem refBytes_any (xs : List Int) (G c : Nat) (w : World) (hG : G < w.heap.size) (hcx : ∀ i x, xs[i]? = some x → w.cell? ⟨G, i, none⟩ = some (.int .i64 x)) (hx : ∀ x ∈ xs, 0 ≤ x ∧ x ≤ 255) (hl : xs.length ≤ 1000) :
    Calls Try.prog 91 #[.slice (some ⟨G, 0, none⟩) xs.length c] w fun e w' => e = .returned (.string (str (xs.map b8))) ∧ Below w.heap.size w w' := by
  obtain ⟨i0, hi, hz0, hz1, hz2⟩ := info_parts info5
  obtain ⟨n, hn⟩ : ∃ n, n = xs.length := ⟨_, rfl⟩
  obtain ⟨M, hM⟩ : ∃ M, M = madeCells (Value.int .u8 0).cells (n * 1) := ⟨_, rfl⟩
  have hmk : ∀ W : World, (Instr.makeSlice 67 (.int .i64 (n : Int)) (.int .i64 (n : Int))).run Try.prog W = .ok (.slice (some ⟨W.heap.size, 0, none⟩) n n) (W.alloc (.cells M 5)) := fun W => by
    have h := run_make (P := Try.prog) W 67 5 i0 (.int .u8 0) Try.underlying67 hi hz0 .i64 .i64 (n : Int) (n : Int) (by omega) (Int.le_refl _) (by rw [hz2]; omega) (by omega)
    rw [hz1, Int.toNat_natCast, ← hM] at h
    exact h
  have HM : Hid (Fill (w.alloc (.cells M 5)) w.heap.size n 0 xs) := ⟨M, heap_alloc_new w _, by rw [hM, size_madeCells]; omega, fun k x hk => by omega⟩
  have HBM := hide ((Below.refl w.heap.size w).alloc (Nat.le_refl _) (.cells M 5))
  have HCX := hide hcx
  have HX := hide hx
  obtain ⟨ST, hST⟩ : ∃ ST, ST = str (xs.map b8) := ⟨_, rfl⟩
  rw [← hn, ← hST]
  have HST := hide hST
  clear hST
  have HN := hide hn
  have hnn : n ≤ 1000 := by omega
  clear hM hcx hx hl hn
  go_enter Try.func91, Try.ntmps91
  go_wp2
  go_loopw [4] (fun iv wr => ∃ i : Nat, i ≤ n ∧ iv = .int .i64 i ∧ Fill wr w.heap.size n i xs ∧ Below w.heap.size w wr) (fun iv _ => n - (intOf iv).toNat)
  case atStart => exact ⟨0, Nat.zero_le _, rfl, unhide HM, unhide HBM⟩
  case round =>
    obtain ⟨i, hi, rfl, hf, hb⟩ := hrel
    by_cases hlt : i < n
    · obtain ⟨x, hx⟩ : ∃ x, xs[i]? = some x := ⟨_, List.getElem?_eq_getElem (by have := unhide HN; omega)⟩
      have hxb := (unhide HX) x (List.mem_of_getElem? hx)
      have hcell := (hb.cell (p := ⟨G, i, none⟩) hG).trans ((unhide HCX) i x hx)
      obtain ⟨v0, hv0⟩ := hf.cell hlt
      have hth := hf.thaw i
      have HF := hide (hf.set hx hlt)
      have HB := hide (hb.setCell (show w.heap.size ≤ (⟨w.heap.size, i, none⟩ : Addr).block from Nat.le_refl _) (.int .u8 x))
      clear hf hb hx
      go_wp2
      go_roundw
      case rel => exact ⟨i + 1, by omega, by go_num, unhide HF, unhide HB⟩
      case measure => simp [intOf]; omega
    · have hie : i = n := by omega
      subst hie
      have hcv := hf.conv (unhide HN) (unhide HX)
      have HB := hide hb
      clear hf hb
      rw [← unhide HST] at hcv
      go_wp2
      go_ret
      exact ⟨rfl, unhide HB⟩
end Go.Proofs.Ytblomippkddgiaa
