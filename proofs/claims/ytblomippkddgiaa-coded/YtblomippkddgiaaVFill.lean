/-
  The law's 'fill': its state; a number more, a string more.
-/
import Derived.Test.YtblomippkddgiaaVMemo
import Derived.Test.YtblomippkddgiaaVBack
namespace Go.Proofs.Ytblomippkddgiaa.V
open Go.RowKit

theorem ten_pow (d : Nat) : 10 ^ (d + 1) = 10 * 10 ^ d ∧ 1 ≤ 10 ^ d := ⟨by rw [Nat.pow_succ]; omega, Nat.one_le_pow _ _ (by decide)⟩
/- while a value is filled: w1 is the world just ahead of the list, which lies in block w1.heap.size -/
structure FS (w0 w1 : World) (rb : Nat) (V : Value) (m : Nat) (v : List It) (sz : Nat) (FV : Value) (w : World) : Prop where
  raw : w.heap[rb]? = some (.cells #[V, .int .i64 m] 45 (0, 0))
  cell : w.heap[w1.heap.size]? = some (.cells #[FV, .int .i64 sz] 54 (0, 0))
  row : w.ownsRow (w1.heap.size + 1) 31 2 FV v.length (flat v)
  keep : ∀ k, k < w1.heap.size → k ≠ rb → w.heap[k]? = w1.heap[k]?
  below : Below w0.heap.size w0 w
structure Wf (rb fb : Nat) (F F' : Value) (w w' : World) : Prop where
  size : w.heap.size ≤ w'.heap.size
  block : ∀ k, k < w.heap.size → k ≠ rb → k ≠ fb → F.ownBlock ≠ some k → w'.heap[k]? = w.heap[k]?
  row : F'.ownBlock = F.ownBlock ∨ ∃ j, F'.ownBlock = some j ∧ w.heap.size ≤ j
theorem Wf.refl (rb fb : Nat) (F : Value) (w : World) : Wf rb fb F F w w := ⟨Nat.le_refl _, fun _ _ _ _ _ => rfl, Or.inl rfl⟩
theorem Wf.trans {rb fb : Nat} {F F1 F2 : Value} {w w1 w2 : World} (h : Wf rb fb F F1 w w1) (h' : Wf rb fb F1 F2 w1 w2) : Wf rb fb F F2 w w2 := by
  have hs := h.size
  refine ⟨Nat.le_trans h.size h'.size, fun k hk h1 h2 h3 => ?_, ?_⟩
  · rw [h'.block k (by omega) h1 h2 ?_]
    · exact h.block k hk h1 h2 h3
    · rcases h.row with e | ⟨j, e, hj⟩
      · rw [e]; exact h3
      · rw [e]
        intro e2
        injection e2
        omega
  · rcases h'.row with e | ⟨j, e, hj⟩
    · rcases h.row with e' | ⟨j, e', hj⟩
      · exact Or.inl (e.trans e')
      · exact Or.inr ⟨j, e.trans e', hj⟩
    · exact Or.inr ⟨j, e, by omega⟩
theorem Wf.of_below {rb fb : Nat} {F : Value} {w w' : World} (hb : Below w.heap.size w w') : Wf rb fb F F w w' := ⟨hb.size, fun k hk _ _ _ => hb.block k hk, Or.inl rfl⟩
theorem FS.go {w0 w1 : World} {rb : Nat} {V : Value} {m : Nat} {v : List It} {sz : Nat} {FV : Value} {w w' : World} (h : FS w0 w1 rb V m v sz FV w) (hb : Below w.heap.size w w') : FS w0 w1 rb V m v sz FV w' :=
  ⟨by rw [hb.block rb (lt_of_block h.raw)]; exact h.raw, by rw [hb.block _ (lt_of_block h.cell)]; exact h.cell, row_below' h.row hb, fun k hk hr => by
    rw [hb.block k (by have := lt_of_block h.cell; omega)]
    exact h.keep k hk hr, h.below.trans (hb.mono h.below.size)⟩
theorem FS.next {w0 w1 : World} {rb : Nat} {V : Value} {m : Nat} {v : List It} {sz : Nat} {FV : Value} {w w' : World} (h : FS w0 w1 rb V m v sz FV w) (hr : rb < w1.heap.size) (hn : Nxt w0 rb V (m + 1) w w') : FS w0 w1 rb V (m + 1) v sz FV w' ∧ Wf rb w1.heap.size FV FV w w' := by
  have hF : ∀ j, FV.ownBlock = some j → w1.heap.size + 1 ≤ j := fun j hj => (h.row.lt j hj).1
  refine ⟨⟨hn.cell, by rw [hn.keep _ (by omega)]; exact h.cell, row_keep h.row (fun g hg => hn.keep g (by have := hF g hg; omega)), fun k hk hkr => by rw [hn.keep k hkr]; exact h.keep k hk hkr, hn.below⟩, ⟨by rw [hn.size]; exact Nat.le_refl _, fun k _ hk _ _ => hn.keep k hk, Or.inl rfl⟩⟩
theorem fs_push {w0 w1 : World} {rb : Nat} {V : Value} {m : Nat} {v : List It} {sz sz' : Nat} {FV F1 : Value} {w w2 : World} {o : Obj} {x : It} (h : FS w0 w1 rb V m v sz FV w) (hr : rb < w1.heap.size) (h0 : w0.heap.size ≤ w1.heap.size) (hown : w2.ownsRow (w1.heap.size + 1) 31 2 F1 (v.length + 1) (flat v ++ [.int .i64 x.1, .string x.2])) (hg : (w.alloc o).grownBy w2 FV.ownBlock) (hat : F1.ownBlock = FV.ownBlock ∨ F1.ownBlock = some (w.heap.size + 1)) :
    w2.heap[w1.heap.size]? = some (.cells #[FV, .int .i64 sz] 54 (0, 0)) ∧ FS w0 w1 rb V m (v ++ [x]) sz' F1 ((w2.setCell ⟨w1.heap.size, 0, none⟩ F1).setCell ⟨w1.heap.size, 1, none⟩ (.int .i64 sz')) ∧ Wf rb w1.heap.size FV F1 w ((w2.setCell ⟨w1.heap.size, 0, none⟩ F1).setCell ⟨w1.heap.size, 1, none⟩ (.int .i64 sz')) := by
  have hcl := lt_of_block h.cell
  have hs0 := h.below.size
  have hws : (w.alloc o).heap.size = w.heap.size + 1 := by simp
  have hgs := hg.size
  have hF : ∀ j, FV.ownBlock = some j → w1.heap.size + 1 ≤ j := fun j hj => (h.row.lt j hj).1
  have keepR : ∀ k, k < w.heap.size → FV.ownBlock ≠ some k → w2.heap[k]? = w.heap[k]? := fun k hk hne => by
    rw [hg.block k (by omega) (fun e => hne e.symm)]
    exact Below.heap_alloc _ _ _ hk
  have hset : ∀ k, k ≠ w1.heap.size → ((w2.setCell ⟨w1.heap.size, 0, none⟩ F1).setCell ⟨w1.heap.size, 1, none⟩ (.int .i64 sz')).heap[k]? = w2.heap[k]? := fun k hk => by
    rw [Below.heap_setCell _ _ _ _ (by simpa using hk), Below.heap_setCell _ _ _ _ (by simpa using hk)]
  have hc2 : w2.heap[w1.heap.size]? = some (.cells #[FV, .int .i64 sz] 54 (0, 0)) := by
    rw [keepR _ hcl (fun e => by have := hF _ e; omega)]
    exact h.cell
  refine ⟨hc2, ⟨?_, ?_, ?_, fun k hk hkr => ?_, ?_⟩, ⟨by simp; omega, fun k hk h1 h2 h3 => ?_, ?_⟩⟩
  · rw [hset rb (by omega), keepR rb (by omega) (fun e => by have := hF _ e; omega)]
    exact h.raw
  · simp only [World.setCell, Array.getElem?_modify, hc2]
    simp
  · rw [List.length_append, flat_snoc]
    exact row_keep hown fun g hg => hset g (by have := (hown.lt g hg).1; omega)
  · rw [hset k (by omega), keepR k (by omega) (fun e => by have := hF _ e; omega)]
    exact h.keep k hk hkr
  · exact (((h.below.alloc (by omega) o).grown hg (by omega) (fun k hk => by have := hF k hk; omega)).setCell (by simpa using h0) _).setCell (by simpa using h0) _
  · rw [hset k h2]
    exact keepR k hk h3
  · rcases hat with e | e
    · exact Or.inl e
    · exact Or.inr ⟨_, e, by omega⟩

set_option maxRecDepth 100000 in
set_option maxHeartbeats 1000000 in
theorem number_fill (w0 w1 : World) (rb : Nat) (V : Value) (m : Nat) (v : List It) (sz : Nat) (FV : Value) (w : World) (n : Int) (h : FS w0 w1 rb V m v sz FV w) (hr : rb < w1.heap.size) (h0 : w0.heap.size ≤ w1.heap.size) (hv : v.length ≤ 100000) (hsz : sz ≤ 100000000) :
    Calls Try.prog 44 #[.pointer (some ⟨w1.heap.size, 0, none⟩), .int .i64 n] w fun e w' => e = .returned (.tuple #[]) ∧ ∃ F', FS w0 w1 rb V m (v ++ [(n, ⟨#[]⟩)]) (sz + 2) F' w' ∧ Wf rb w1.heap.size FV F' w w' := by
  obtain ⟨i0, hi0, hz0, hz1, hz2⟩ := info_parts info31
  obtain ⟨oa, on, oc, hsh⟩ := row_shape h.row
  subst hsh
  have c0 : w.cell? ⟨w1.heap.size, 0, none⟩ = some (.slice oa on oc) := by simp [World.cell?, h.cell]
  have how := h.row
  have hlt := lt_of_block h.cell
  have HS := hide h
  clear h
  go_enter Try.func44, Try.ntmps44
  go_wp2_with (at_builtin; go_must (refine wpList_append_own_at _ rfl (.tmp 8) (.tmp 11) 27 rfl (w1.heap.size + 1) 31 i0 _ 2 24 Try.underlying27 hi0 hz0 hz1 hz2 rfl (by decide) _ v.length (flat v) rfl (by exact how.alloc _) ⟨w.heap.size, 0, none⟩ 1 1 [.int .i64 n, .string ⟨#[]⟩] rfl rfl (by exact cells_pair w (n, ⟨#[]⟩)) (by exact pair_one (n, ⟨#[]⟩)) (by unfold maxLen; omega) (by omega) (by simp; omega) ?_))
  intro O1 w2 hown hgrow _ hat
  obtain ⟨ta, tn, tc, hts⟩ := row_shape hown
  subst hts
  obtain ⟨hc2, hfs, hwf⟩ := fs_push (sz' := sz + 2) (x := (n, ⟨#[]⟩)) (unhide HS) hr h0 hown hgrow (by simpa using hat)
  have k1 : w2.cell? ⟨w1.heap.size, 0, none⟩ = some (.slice oa on oc) := by simp [World.cell?, hc2]
  have k2 : w2.frozen? ⟨w1.heap.size, 0, none⟩ = false := by simp [World.frozen?, hc2]
  have k3 : w2.cell? ⟨w1.heap.size, 1, none⟩ = some (.int .i64 sz) := by simp [World.cell?, hc2]
  have k4 : w2.frozen? ⟨w1.heap.size, 1, none⟩ = false := by simp [World.frozen?, hc2]
  simp only [Int.natCast_add, Int.cast_ofNat_Int] at hfs hwf
  have HF := hide hfs
  have HW := hide hwf
  clear hown hgrow hat hfs hwf how c0 hc2
  go_wp2
  go_end0
  exact ⟨rfl, _, unhide HF, unhide HW⟩

end Go.Proofs.Ytblomippkddgiaa.V

/-
  The law's 'fill': its walk, letter by letter.
-/
namespace Go.Proofs.Ytblomippkddgiaa.V
open Go.RowKit

set_option maxRecDepth 100000 in
set_option maxHeartbeats 1000000 in
theorem fill_b (w : World) (tb rb fb n : Nat) (x : Nd) (g pn pc : Nat) (ka : Option Addr) (kc : Nat) (A : Nat → World → Prop) (B : World → Prop) (hN : NodeAt w tb n x g pn pc ka kc) (hc : x.c = 98)
    (HN : Calls Try.prog 43 #[.pointer (some ⟨rb, 0, none⟩), .int .i64 2] (w.alloc (.cells #[.int .u8 98, .int .i64 x.d, .slice ka x.ks.length kc] 90)) fun e w' => ∃ k : Nat, e = .returned (.int .i64 k) ∧ A k w')
    (HF : ∀ k w', A k w' → Calls Try.prog 44 #[.pointer (some ⟨fb, 0, none⟩), .int .i64 k] w' fun e w'' => e = .returned (.tuple #[]) ∧ B w'') :
    Calls Try.prog 20 #[.pointer (some ⟨tb, 0, none⟩), .pointer (some ⟨rb, 0, none⟩), .int .i64 n, .pointer (some ⟨fb, 0, none⟩)] w fun e w' => e = .returned (.tuple #[]) ∧ B w' := by
  obtain ⟨c0, hlt, hsm, e0, e1, e2, _⟩ := hN
  obtain ⟨xc, xd, xv, ks⟩ := x
  simp only at hc e0 e1 e2 HN
  subst hc
  generalize ks.length = kn at *
  have HNN := hide HN
  have HFF := hide HF
  clear HN HF
  go_enter Try.func20, Try.ntmps20
  go_wp2_with fail
  refine (unhide HNN).mono ?_
  rintro e w1 ⟨k, rfl, hA⟩
  have HC := hide ((unhide HFF) k w1 hA)
  clear hA
  go_wp2_with fail
  refine (unhide HC).mono ?_
  rintro e w2 ⟨rfl, hB⟩
  have HB := hide hB
  clear hB
  go_wp2
  go_loopw [13] (fun iv wr => iv = .int .i64 0 ∧ wr = w2) (fun _ _ => 0)
  case atStart => exact ⟨rfl, rfl⟩
  case round =>
    obtain ⟨rfl, rfl⟩ := hrel
    go_wp2
    go_end0
    exact ⟨rfl, unhide HB⟩

set_option maxRecDepth 100000 in
set_option maxHeartbeats 1000000 in
theorem fill_c (w : World) (tb rb fb n : Nat) (x : Nd) (g pn pc : Nat) (ka : Option Addr) (kc : Nat) (A : Nat → World → Prop) (B : World → Prop) (hN : NodeAt w tb n x g pn pc ka kc) (hc : x.c = 99)
    (HN : Calls Try.prog 43 #[.pointer (some ⟨rb, 0, none⟩), .int .i64 65536] (w.alloc (.cells #[.int .u8 99, .int .i64 x.d, .slice ka x.ks.length kc] 90)) fun e w' => ∃ k : Nat, e = .returned (.int .i64 k) ∧ A k w')
    (HF : ∀ k w', A k w' → Calls Try.prog 44 #[.pointer (some ⟨fb, 0, none⟩), .int .i64 k] w' fun e w'' => e = .returned (.tuple #[]) ∧ B w'') :
    Calls Try.prog 20 #[.pointer (some ⟨tb, 0, none⟩), .pointer (some ⟨rb, 0, none⟩), .int .i64 n, .pointer (some ⟨fb, 0, none⟩)] w fun e w' => e = .returned (.tuple #[]) ∧ B w' := by
  obtain ⟨c0, hlt, hsm, e0, e1, e2, _⟩ := hN
  obtain ⟨xc, xd, xv, ks⟩ := x
  simp only at hc e0 e1 e2 HN
  subst hc
  generalize ks.length = kn at *
  have HNN := hide HN
  have HFF := hide HF
  clear HN HF
  go_enter Try.func20, Try.ntmps20
  go_wp2_with fail
  refine (unhide HNN).mono ?_
  rintro e w1 ⟨k, rfl, hA⟩
  have HC := hide ((unhide HFF) k w1 hA)
  clear hA
  go_wp2_with fail
  refine (unhide HC).mono ?_
  rintro e w2 ⟨rfl, hB⟩
  have HB := hide hB
  clear hB
  go_wp2
  go_loopw [13] (fun iv wr => iv = .int .i64 0 ∧ wr = w2) (fun _ _ => 0)
  case atStart => exact ⟨rfl, rfl⟩
  case round =>
    obtain ⟨rfl, rfl⟩ := hrel
    go_wp2
    go_end0
    exact ⟨rfl, unhide HB⟩

set_option maxRecDepth 100000 in
set_option maxHeartbeats 1000000 in
theorem fill_i (w : World) (tb rb fb n : Nat) (x : Nd) (g pn pc : Nat) (ka : Option Addr) (kc : Nat) (A : Nat → World → Prop) (B : World → Prop) (hN : NodeAt w tb n x g pn pc ka kc) (hc : x.c = 105) (hA0 : ∀ k w, A k w → k < 65536)
    (HN : Calls Try.prog 43 #[.pointer (some ⟨rb, 0, none⟩), .int .i64 65536] (w.alloc (.cells #[.int .u8 105, .int .i64 x.d, .slice ka x.ks.length kc] 90)) fun e w' => ∃ k : Nat, e = .returned (.int .i64 k) ∧ A k w')
    (HF : ∀ k w', A k w' → Calls Try.prog 44 #[.pointer (some ⟨fb, 0, none⟩), .int .i64 ((k : Int) - 32768)] w' fun e w'' => e = .returned (.tuple #[]) ∧ B w'') :
    Calls Try.prog 20 #[.pointer (some ⟨tb, 0, none⟩), .pointer (some ⟨rb, 0, none⟩), .int .i64 n, .pointer (some ⟨fb, 0, none⟩)] w fun e w' => e = .returned (.tuple #[]) ∧ B w' := by
  obtain ⟨c0, hlt, hsm, e0, e1, e2, _⟩ := hN
  obtain ⟨xc, xd, xv, ks⟩ := x
  simp only at hc e0 e1 e2 HN
  subst hc
  generalize ks.length = kn at *
  have HNN := hide HN
  have HFF := hide HF
  clear HN HF
  go_enter Try.func20, Try.ntmps20
  go_wp2_with fail
  refine (unhide HNN).mono ?_
  rintro e w1 ⟨k, rfl, hA⟩
  have hk : k < 65536 := hA0 k w1 hA
  have HC := hide ((unhide HFF) k w1 hA)
  clear hA
  go_wp2_with fail
  refine (unhide HC).mono ?_
  rintro e w2 ⟨rfl, hB⟩
  have HB := hide hB
  clear hB
  go_wp2
  go_loopw [13] (fun iv wr => iv = .int .i64 0 ∧ wr = w2) (fun _ _ => 0)
  case atStart => exact ⟨rfl, rfl⟩
  case round =>
    obtain ⟨rfl, rfl⟩ := hrel
    go_wp2
    go_end0
    exact ⟨rfl, unhide HB⟩

set_option maxRecDepth 100000 in
set_option maxHeartbeats 1000000 in
theorem fill_e (w : World) (tb rb fb n : Nat) (x : Nd) (g pn pc : Nat) (ka : Option Addr) (kc : Nat) (A : Nat → World → Prop) (B : World → Prop) (hN : NodeAt w tb n x g pn pc ka kc) (hc : x.c = 101)
    (HN : Calls Try.prog 43 #[.pointer (some ⟨rb, 0, none⟩), .int .i64 x.d] (w.alloc (.cells #[.int .u8 101, .int .i64 x.d, .slice ka x.ks.length kc] 90)) fun e w' => ∃ k : Nat, e = .returned (.int .i64 k) ∧ A k w')
    (HF : ∀ k w', A k w' → Calls Try.prog 44 #[.pointer (some ⟨fb, 0, none⟩), .int .i64 k] w' fun e w'' => e = .returned (.tuple #[]) ∧ B w'') :
    Calls Try.prog 20 #[.pointer (some ⟨tb, 0, none⟩), .pointer (some ⟨rb, 0, none⟩), .int .i64 n, .pointer (some ⟨fb, 0, none⟩)] w fun e w' => e = .returned (.tuple #[]) ∧ B w' := by
  obtain ⟨c0, hlt, hsm, e0, e1, e2, _⟩ := hN
  obtain ⟨xc, xd, xv, ks⟩ := x
  simp only at hc e0 e1 e2 HN
  subst hc
  generalize ks.length = kn at *
  have HNN := hide HN
  have HFF := hide HF
  clear HN HF
  go_enter Try.func20, Try.ntmps20
  go_wp2_with fail
  refine (unhide HNN).mono ?_
  rintro e w1 ⟨k, rfl, hA⟩
  have HC := hide ((unhide HFF) k w1 hA)
  clear hA
  go_wp2_with fail
  refine (unhide HC).mono ?_
  rintro e w2 ⟨rfl, hB⟩
  have HB := hide hB
  clear hB
  go_wp2
  go_loopw [13] (fun iv wr => iv = .int .i64 0 ∧ wr = w2) (fun _ _ => 0)
  case atStart => exact ⟨rfl, rfl⟩
  case round =>
    obtain ⟨rfl, rfl⟩ := hrel
    go_wp2
    go_end0
    exact ⟨rfl, unhide HB⟩

/- a choice -/
set_option maxRecDepth 100000 in
set_option maxHeartbeats 1000000 in
theorem fill_u (w : World) (tb rb fb n : Nat) (x : Nd) (g pn pc : Nat) (ka : Option Addr) (kc : Nat) (A A2 : Nat → World → Prop) (B : World → Prop) (hN : NodeAt w tb n x g pn pc ka kc) (hc : x.c = 117)
    (HN : Calls Try.prog 43 #[.pointer (some ⟨rb, 0, none⟩), .int .i64 x.ks.length] (w.alloc (.cells #[.int .u8 117, .int .i64 x.d, .slice ka x.ks.length kc] 90)) fun e w' => ∃ k : Nat, e = .returned (.int .i64 k) ∧ A k w')
    (HF : ∀ k w', A k w' → Calls Try.prog 44 #[.pointer (some ⟨fb, 0, none⟩), .int .i64 k] w' fun e w'' => e = .returned (.tuple #[]) ∧ A2 k w'')
    (HC : ∀ k w', A2 k w' → ∃ kb q, k < x.ks.length ∧ ka = some ⟨kb, 0, none⟩ ∧ w'.cell? ⟨w.heap.size, 2, none⟩ = some (.slice ka x.ks.length kc) ∧ w'.cell? ⟨kb, k, none⟩ = some (.int .i64 q) ∧
      Calls Try.prog 20 #[.pointer (some ⟨tb, 0, none⟩), .pointer (some ⟨rb, 0, none⟩), .int .i64 q, .pointer (some ⟨fb, 0, none⟩)] w' fun e w'' => e = .returned (.tuple #[]) ∧ B w'') :
    Calls Try.prog 20 #[.pointer (some ⟨tb, 0, none⟩), .pointer (some ⟨rb, 0, none⟩), .int .i64 n, .pointer (some ⟨fb, 0, none⟩)] w fun e w' => e = .returned (.tuple #[]) ∧ B w' := by
  obtain ⟨c0, hlt, hsm, e0, e1, e2, _⟩ := hN
  obtain ⟨xc, xd, xv, ks⟩ := x
  simp only at hc e0 e1 e2 HN HC
  subst hc
  generalize ks.length = kn at *
  have HNN := hide HN
  have HFF := hide HF
  have HCC := hide HC
  clear HN HF HC
  go_enter Try.func20, Try.ntmps20
  go_wp2_with fail
  refine (unhide HNN).mono ?_
  rintro e w1 ⟨k, rfl, hA⟩
  have HG := hide ((unhide HFF) k w1 hA)
  clear hA
  go_wp2_with fail
  refine (unhide HG).mono ?_
  rintro e w2 ⟨rfl, hA2⟩
  obtain ⟨kb, q, hkl, rfl, f2, fk, hcall⟩ := (unhide HCC) k w2 hA2
  have HCALL := hide hcall
  clear hA2 hcall
  go_wp2_with fail
  refine (unhide HCALL).mono ?_
  rintro e w3 ⟨rfl, hB⟩
  have HB := hide hB
  clear hB
  go_wp2
  go_loopw [13] (fun iv wr => iv = .int .i64 0 ∧ wr = w3) (fun _ _ => 0)
  case atStart => exact ⟨rfl, rfl⟩
  case round =>
    obtain ⟨rfl, rfl⟩ := hrel
    go_wp2
    go_end0
    exact ⟨rfl, unhide HB⟩

/- a record -/
set_option maxRecDepth 100000 in
set_option maxHeartbeats 1000000 in
theorem fill_r (w : World) (tb rb fb n : Nat) (x : Nd) (g pn pc : Nat) (ka : Option Addr) (kc : Nat) (I : Nat → World → Prop) (hN : NodeAt w tb n x g pn pc ka kc) (hc : x.c = 114) (hk6 : x.ks.length ≤ 6)
    (H0 : I 0 (w.alloc (.cells #[.int .u8 114, .int .i64 x.d, .slice ka x.ks.length kc] 90)))
    (HB : ∀ i w', I i w' → w'.cell? ⟨w.heap.size, 2, none⟩ = some (.slice ka x.ks.length kc))
    (HC : ∀ i w', i < x.ks.length → I i w' → ∃ kb q, ka = some ⟨kb, 0, none⟩ ∧ w'.cell? ⟨kb, i, none⟩ = some (.int .i64 q) ∧
      Calls Try.prog 20 #[.pointer (some ⟨tb, 0, none⟩), .pointer (some ⟨rb, 0, none⟩), .int .i64 q, .pointer (some ⟨fb, 0, none⟩)] w' fun e w'' => e = .returned (.tuple #[]) ∧ I (i + 1) w'') :
    Calls Try.prog 20 #[.pointer (some ⟨tb, 0, none⟩), .pointer (some ⟨rb, 0, none⟩), .int .i64 n, .pointer (some ⟨fb, 0, none⟩)] w fun e w' => e = .returned (.tuple #[]) ∧ I x.ks.length w' := by
  obtain ⟨c0, hlt, hsm, e0, e1, e2, _⟩ := hN
  obtain ⟨xc, xd, xv, ks⟩ := x
  simp only at hc e0 e1 e2 H0 HB HC hk6 ⊢
  subst hc
  generalize ks.length = kn at *
  have HH0 := hide H0
  have HBB := hide HB
  have HCC := hide HC
  clear H0 HB HC
  go_enter Try.func20, Try.ntmps20
  go_wp2
  go_loopw [11] (fun iv wr => ∃ i : Nat, i ≤ kn ∧ iv = .int .i64 i ∧ I i wr) (fun iv _ => kn - (intOf iv).toNat)
  case atStart => exact ⟨0, Nat.zero_le _, rfl, unhide HH0⟩
  case round =>
    obtain ⟨i, hi, rfl, hI⟩ := hrel
    have b2 := (unhide HBB) i wr hI
    by_cases hlt2 : i < kn
    · obtain ⟨kb, q, rfl, fk, hcall⟩ := (unhide HCC) i wr hlt2 hI
      have HCALL := hide hcall
      clear hcall hI
      go_wp2_with fail
      refine (unhide HCALL).mono ?_
      rintro e w2 ⟨rfl, hI2⟩
      have HI2 := hide hI2
      clear hI2
      go_wp2
      go_roundw
      case rel => exact ⟨i + 1, by omega, by go_num, unhide HI2⟩
      case measure => simp [intOf]; omega
    · obtain rfl : i = kn := by omega
      have HI := hide hI
      clear hI
      go_wp2
      go_loopw [13] (fun iv w3 => iv = .int .i64 0 ∧ w3 = wr) (fun _ _ => 0)
      case atStart => exact ⟨rfl, rfl⟩
      case round =>
        obtain ⟨rfl, rfl⟩ := hrel
        go_wp2
        go_end0
        exact ⟨rfl, unhide HI⟩

/- an array -/
set_option maxRecDepth 100000 in
set_option maxHeartbeats 1000000 in
theorem fill_a (w : World) (tb rb fb n : Nat) (x : Nd) (g pn pc : Nat) (ka : Option Addr) (kc : Nat) (I : Nat → World → Prop) (hN : NodeAt w tb n x g pn pc ka kc) (hc : x.c = 97) (hd : x.d ≤ 9) (hk1 : x.ks.length = 1)
    (H0 : I 0 (w.alloc (.cells #[.int .u8 97, .int .i64 x.d, .slice ka x.ks.length kc] 90)))
    (HC : ∀ i w', i < x.d → I i w' → ∃ kb q, ka = some ⟨kb, 0, none⟩ ∧ w'.cell? ⟨w.heap.size, 2, none⟩ = some (.slice ka x.ks.length kc) ∧ w'.cell? ⟨kb, 0, none⟩ = some (.int .i64 q) ∧
      Calls Try.prog 20 #[.pointer (some ⟨tb, 0, none⟩), .pointer (some ⟨rb, 0, none⟩), .int .i64 q, .pointer (some ⟨fb, 0, none⟩)] w' fun e w'' => e = .returned (.tuple #[]) ∧ I (i + 1) w'') :
    Calls Try.prog 20 #[.pointer (some ⟨tb, 0, none⟩), .pointer (some ⟨rb, 0, none⟩), .int .i64 n, .pointer (some ⟨fb, 0, none⟩)] w fun e w' => e = .returned (.tuple #[]) ∧ I x.d w' := by
  obtain ⟨c0, hlt, hsm, e0, e1, e2, _⟩ := hN
  obtain ⟨xc, xd, xv, ks⟩ := x
  simp only at hc e0 e1 e2 H0 HC hd hk1 ⊢
  rw [hk1] at *
  subst hc
  have HH0 := hide H0
  have HCC := hide HC
  clear H0 HC
  go_enter Try.func20, Try.ntmps20
  go_wp2
  go_loopw [13] (fun iv wr => ∃ i : Nat, i ≤ xd ∧ iv = .int .i64 i ∧ I i wr) (fun iv _ => xd - (intOf iv).toNat)
  case atStart => exact ⟨0, Nat.zero_le _, rfl, unhide HH0⟩
  case round =>
    obtain ⟨i, hi, rfl, hI⟩ := hrel
    by_cases hlt2 : i < xd
    · obtain ⟨kb, q, rfl, b2, fk, hcall⟩ := (unhide HCC) i wr hlt2 hI
      have HCALL := hide hcall
      clear hcall hI
      go_wp2_with fail
      refine (unhide HCALL).mono ?_
      rintro e w2 ⟨rfl, hI2⟩
      have HI2 := hide hI2
      clear hI2
      go_wp2
      go_roundw
      case rel => exact ⟨i + 1, by omega, by go_num, unhide HI2⟩
      case measure => simp [intOf]; omega
    · obtain rfl : i = xd := by omega
      have HI := hide hI
      clear hI
      go_wp2
      go_end0
      exact ⟨rfl, unhide HI⟩

/- a row -/
set_option maxRecDepth 100000 in
set_option maxHeartbeats 1000000 in
theorem fill_q (w : World) (tb rb fb n : Nat) (x : Nd) (g pn pc : Nat) (ka : Option Addr) (kc : Nat) (A : Nat → World → Prop) (I : Nat → Nat → World → Prop) (hN : NodeAt w tb n x g pn pc ka kc) (hc : x.c = 113) (hd : x.d ≤ 9) (hk1 : x.ks.length = 1)
    (HN : Calls Try.prog 43 #[.pointer (some ⟨rb, 0, none⟩), .int .i64 ((x.d : Int) + 1)] (w.alloc (.cells #[.int .u8 113, .int .i64 x.d, .slice ka x.ks.length kc] 90)) fun e w' => ∃ k : Nat, e = .returned (.int .i64 k) ∧ k ≤ 9 ∧ A k w')
    (HF : ∀ k w', A k w' → Calls Try.prog 44 #[.pointer (some ⟨fb, 0, none⟩), .int .i64 k] w' fun e w'' => e = .returned (.tuple #[]) ∧ I k 0 w'')
    (HC : ∀ t i w', i < t → I t i w' → ∃ kb q, ka = some ⟨kb, 0, none⟩ ∧ w'.cell? ⟨w.heap.size, 2, none⟩ = some (.slice ka x.ks.length kc) ∧ w'.cell? ⟨kb, 0, none⟩ = some (.int .i64 q) ∧
      Calls Try.prog 20 #[.pointer (some ⟨tb, 0, none⟩), .pointer (some ⟨rb, 0, none⟩), .int .i64 q, .pointer (some ⟨fb, 0, none⟩)] w' fun e w'' => e = .returned (.tuple #[]) ∧ I t (i + 1) w'') :
    Calls Try.prog 20 #[.pointer (some ⟨tb, 0, none⟩), .pointer (some ⟨rb, 0, none⟩), .int .i64 n, .pointer (some ⟨fb, 0, none⟩)] w fun e w' => e = .returned (.tuple #[]) ∧ ∃ t, I t t w' := by
  obtain ⟨c0, hlt, hsm, e0, e1, e2, _⟩ := hN
  obtain ⟨xc, xd, xv, ks⟩ := x
  simp only at hc e0 e1 e2 HN HC hd hk1 ⊢
  rw [hk1] at *
  subst hc
  have HNN := hide HN
  have HFF := hide HF
  have HCC := hide HC
  clear HN HF HC
  go_enter Try.func20, Try.ntmps20
  go_wp2_with fail
  refine (unhide HNN).mono ?_
  rintro e w1 ⟨t, rfl, ht9, hA⟩
  have HG := hide ((unhide HFF) t w1 hA)
  clear hA
  go_wp2_with fail
  refine (unhide HG).mono ?_
  rintro e w2 ⟨rfl, hI0⟩
  have HH0 := hide hI0
  clear hI0
  go_wp2
  go_loopw [13] (fun iv wr => ∃ i : Nat, i ≤ t ∧ iv = .int .i64 i ∧ I t i wr) (fun iv _ => t - (intOf iv).toNat)
  case atStart => exact ⟨0, Nat.zero_le _, rfl, unhide HH0⟩
  case round =>
    obtain ⟨i, hi, rfl, hI⟩ := hrel
    by_cases hlt2 : i < t
    · obtain ⟨kb, q, rfl, b2, fk, hcall⟩ := (unhide HCC) t i wr hlt2 hI
      have HCALL := hide hcall
      clear hcall hI
      go_wp2_with fail
      refine (unhide HCALL).mono ?_
      rintro e w3 ⟨rfl, hI2⟩
      have HI2 := hide hI2
      clear hI2
      go_wp2
      go_roundw
      case rel => exact ⟨i + 1, by omega, by go_num, unhide HI2⟩
      case measure => simp [intOf]; omega
    · obtain rfl : i = t := by omega
      have HI := hide hI
      clear hI
      go_wp2
      go_end0
      exact ⟨rfl, _, unhide HI⟩

end Go.Proofs.Ytblomippkddgiaa.V

/-
  The law's 'fill': what it makes is a value of the type.
-/
namespace Go.Proofs.Ytblomippkddgiaa.V
open Go.RowKit

def cStr : ByteArray := ⟨#[97, 32, 115, 116, 114, 105, 110, 103, 32, 111, 102, 32, 0, 255]⟩
theorem cStr_size : ∀ k, k ≤ 14 → (cStr.extract 0 k).size = k := by decide +kernel

theorem next_fs {w0 w1 : World} {rb : Nat} {V : Value} {m : Nat} {v : List It} {sz : Nat} {FV : Value} {w : World} (hV : RawOk w0 V) (h : FS w0 w1 rb V m v sz FV w) (hr : rb < w1.heap.size) (hr0 : w0.heap.size ≤ rb) (hm : m ≤ 1000000000) (n : Nat) (hn : 0 < n) (hn2 : n ≤ 65536) :
    Calls Try.prog 43 #[.pointer (some ⟨rb, 0, none⟩), .int .i64 n] w fun e w' => ∃ k : Nat, e = .returned (.int .i64 k) ∧ k < n ∧ FS w0 w1 rb V (m + 1) v sz FV w' ∧ Wf rb w1.heap.size FV FV w w' := by
  refine (rawNext_any w0 w rb V m n hV h.below hr0 h.raw hm hn hn2).mono ?_
  rintro e w' ⟨⟨k, hk, rfl⟩, hx⟩
  exact ⟨k, rfl, hk, h.next hr hx⟩

set_option maxRecDepth 100000 in
set_option maxHeartbeats 1000000 in
theorem fill_s (w0 w1 : World) (rb : Nat) (V : Value) (m : Nat) (v : List It) (sz : Nat) (FV : Value) (w : World) (tb n : Nat) (x : Nd) (g pn pc : Nat) (ka : Option Addr) (kc : Nat) (hN : NodeAt w tb n x g pn pc ka kc) (hc : x.c = 115) (hr : rb < w1.heap.size) (h0 : w0.heap.size ≤ w1.heap.size) (hv : v.length ≤ 100000) (hsz : sz ≤ 100000000)
    (HN : Calls Try.prog 43 #[.pointer (some ⟨rb, 0, none⟩), .int .i64 15] (w.alloc (.cells #[.int .u8 115, .int .i64 x.d, .slice ka x.ks.length kc] 90)) fun e w' => ∃ k : Nat, e = .returned (.int .i64 k) ∧ k < 15 ∧ FS w0 w1 rb V (m + 1) v sz FV w' ∧ Wf rb w1.heap.size FV FV (w.alloc (.cells #[.int .u8 115, .int .i64 x.d, .slice ka x.ks.length kc] 90)) w') :
    Calls Try.prog 20 #[.pointer (some ⟨tb, 0, none⟩), .pointer (some ⟨rb, 0, none⟩), .int .i64 n, .pointer (some ⟨w1.heap.size, 0, none⟩)] w fun e w' => e = .returned (.tuple #[]) ∧ ∃ k F', k ≤ 14 ∧ FS w0 w1 rb V (m + 1) (v ++ [(0, cStr.extract 0 k)]) (sz + 2 + k + k % 2) F' w' ∧ Wf rb w1.heap.size FV F' (w.alloc (.cells #[.int .u8 115, .int .i64 x.d, .slice ka x.ks.length kc] 90)) w' := by
  obtain ⟨c0, hlt, hsm, e0, e1, e2, _⟩ := hN
  obtain ⟨xc, xd, xv, ks⟩ := x
  simp only at hc e0 e1 e2 HN ⊢
  subst hc
  generalize ks.length = kn at *
  have HNN := hide HN
  clear HN
  obtain ⟨i0, hi0, hz0, hz1, hz2⟩ := info_parts info31
  go_enter Try.func20, Try.ntmps20
  go_wp2_with fail
  refine (unhide HNN).mono ?_
  rintro e w2 ⟨k, rfl, hk, hfs, hwf⟩
  have hk14 : k ≤ 14 := by omega
  have hsS := cStr_size k hk14
  obtain ⟨S, hS⟩ : ∃ S, cStr.extract 0 k = S := ⟨_, rfl⟩
  rw [hS] at hsS
  have hS' : (⟨#[97, 32, 115, 116, 114, 105, 110, 103, 32, 111, 102, 32, 0, 255]⟩ : ByteArray).extract 0 k = S := hS
  obtain ⟨oa, on, oc, hsh⟩ := row_shape hfs.row
  subst hsh
  have f0 : w2.cell? ⟨w1.heap.size, 0, none⟩ = some (.slice oa on oc) := by simp [World.cell?, hfs.cell]
  have how := hfs.row
  have hlt2 := lt_of_block hfs.cell
  have HS := hide hfs
  have HW := hide hwf
  have HSS := hide hS
  clear hfs hwf hS HNN
  go_wp2_with (at_builtin; go_must (refine wpList_append_own_at _ rfl (.tmp 59) (.tmp 62) 27 rfl (w1.heap.size + 1) 31 i0 _ 2 24 Try.underlying27 hi0 hz0 hz1 hz2 rfl (by decide) _ v.length (flat v) rfl (by exact how.alloc _) ⟨w2.heap.size, 0, none⟩ 1 1 [.int .i64 0, .string S] rfl rfl (by exact cells_pair w2 (0, S)) (by exact pair_one (0, S)) (by unfold maxLen; omega) (by omega) (by simp; omega) ?_))
  intro O1 w3 hown hgrow _ hat
  obtain ⟨ta, tn, tc, hts⟩ := row_shape hown
  subst hts
  obtain ⟨hc2, hfs, hwf⟩ := fs_push (sz' := sz + 2 + k + k % 2) (x := (0, S)) (unhide HS) hr h0 hown hgrow (by simpa using hat)
  have k1 : w3.cell? ⟨w1.heap.size, 0, none⟩ = some (.slice oa on oc) := by simp [World.cell?, hc2]
  have k2 : w3.frozen? ⟨w1.heap.size, 0, none⟩ = false := by simp [World.frozen?, hc2]
  have k3 : w3.cell? ⟨w1.heap.size, 1, none⟩ = some (.int .i64 sz) := by simp [World.cell?, hc2]
  have k4 : w3.frozen? ⟨w1.heap.size, 1, none⟩ = false := by simp [World.frozen?, hc2]
  simp only [Int.natCast_add, Int.cast_ofNat_Int, Int.natCast_emod] at hfs hwf
  have HF := hide hfs
  have HW2 := hide ((unhide HW).trans hwf)
  clear hown hgrow hat hfs hwf how f0 hc2
  go_wp2
  go_loopw [13] (fun iv wr => iv = .int .i64 0 ∧ wr = (w3.setCell ⟨w1.heap.size, 0, none⟩ (.slice ta tn tc)).setCell ⟨w1.heap.size, 1, none⟩ (.int .i64 ((sz : Int) + 2 + (k : Int) + (k : Int) % 2))) (fun _ _ => 0)
  case atStart => exact ⟨rfl, rfl⟩
  case round =>
    obtain ⟨rfl, rfl⟩ := hrel
    go_wp2
    go_end0
    refine ⟨rfl, k, _, hk14, ?_, unhide HW2⟩
    rw [unhide HSS]
    exact unhide HF

end Go.Proofs.Ytblomippkddgiaa.V

/-
  The law's 'fill': what it makes is a value of the type, as many bytes as it says.
-/
namespace Go.Proofs.Ytblomippkddgiaa.V
open Go.RowKit

theorem bytesOf_cat (k1 k2 : List Bool) (v1 v2 : List It) (h : k1.length = v1.length) : bytesOf (k1 ++ k2) (v1 ++ v2) = bytesOf k1 v1 ++ bytesOf k2 v2 := by
  rw [bytesOf_append _ _ _ (by rw [List.length_append, h]; omega), h, List.drop_left, bytesOf_front k1 v1 v2 h]

/- what was filled in -/
structure Fd (w0 w1 : World) (rb : Nat) (V : Value) (E : List It → Eaten) (M m : Nat) (v : List It) (sz : Nat) (FV : Value) (w w' : World) (u : List It) (ks : List Bool) (F' : Value) (m' : Nat) : Prop where
  eaten : ∀ rest, E (u ++ rest) = some (ks, rest)
  same : ks.length = u.length
  fs : FS w0 w1 rb V m' (v ++ u) (sz + (bytesOf ks u).length) F' w'
  wf : Wf rb w1.heap.size FV F' w w'
  few : u.length ≤ M
  raw : m' ≤ m + M
  small : (bytesOf ks u).length ≤ 20 * u.length
def Fld (w0 w1 : World) (rb : Nat) (V : Value) (E : List It → Eaten) (M m : Nat) (v : List It) (sz : Nat) (FV : Value) (w w' : World) : Prop := ∃ u ks F' m', Fd w0 w1 rb V E M m v sz FV w w' u ks F' m'

theorem fd_nil {w0 w1 : World} {rb : Nat} {V : Value} {E : Nat → List It → Eaten} {m : Nat} {v : List It} {sz : Nat} {FV : Value} {w w' : World} (h : FS w0 w1 rb V m v sz FV w') (hw : Wf rb w1.heap.size FV FV w w') : Fd w0 w1 rb V (seqE E []) 0 m v sz FV w w' [] [] FV m :=
  ⟨fun _ => rfl, rfl, by simpa [bytesOf] using h, hw, Nat.le_refl _, Nat.le_refl _, Nat.le_refl _⟩
theorem fd_more {w0 w1 : World} {rb : Nat} {V : Value} {E1 E2 E3 : List It → Eaten} {M1 M2 m m1 : Nat} {v u : List It} {sz : Nat} {FV F1 : Value} {w wa wb : World} {ks : List Bool} (h1 : Fd w0 w1 rb V E1 M1 m v sz FV w wa u ks F1 m1) (h2 : Fld w0 w1 rb V E2 M2 m1 (v ++ u) (sz + (bytesOf ks u).length) F1 wa wb)
    (hE : ∀ u2 k2, (∀ rest, E2 (u2 ++ rest) = some (k2, rest)) → ∀ rest, E3 ((u ++ u2) ++ rest) = some (ks ++ k2, rest)) : Fld w0 w1 rb V E3 (M1 + M2) m v sz FV w wb := by
  obtain ⟨u2, k2, F2, m2, h2⟩ := h2
  have hb := bytesOf_cat ks k2 u u2 h1.same
  refine ⟨u ++ u2, ks ++ k2, F2, m2, hE u2 k2 h2.eaten, by simp [h1.same, h2.same], ?_, h1.wf.trans h2.wf, ?_, ?_, ?_⟩
  · rw [hb, List.length_append, ← List.append_assoc, ← Nat.add_assoc]
    exact h2.fs
  · rw [List.length_append]
    have := h1.few
    have := h2.few
    omega
  · have := h1.raw
    have := h2.raw
    omega
  · rw [hb, List.length_append, List.length_append]
    have := h1.small
    have := h2.small
    omega
theorem fld_mono {w0 w1 : World} {rb : Nat} {V : Value} {E : List It → Eaten} {M M' m : Nat} {v : List It} {sz : Nat} {FV : Value} {w wa wb : World} (h : Fld w0 w1 rb V E M m v sz FV wa wb) (hM : M ≤ M') (hw : Wf rb w1.heap.size FV FV w wa) : Fld w0 w1 rb V E M' m v sz FV w wb := by
  obtain ⟨u, ks, F', m', h⟩ := h
  exact ⟨u, ks, F', m', h.eaten, h.same, h.fs, hw.trans h.wf, Nat.le_trans h.few hM, by have := h.raw; omega, h.small⟩

theorem seq_more {E : Nat → List It → Eaten} {qs : List Nat} {i q : Nat} (hq : qs[i]? = some q) {u : List It} {ks : List Bool} (h1 : ∀ rest, seqE E (qs.take i) (u ++ rest) = some (ks, rest)) : ∀ u2 k2, (∀ rest, E q (u2 ++ rest) = some (k2, rest)) → ∀ rest, seqE E (qs.take (i + 1)) ((u ++ u2) ++ rest) = some (ks ++ k2, rest) := by
  intro u2 k2 h2 rest
  rw [List.take_add_one, hq, Option.toList_some, seqE_snoc, List.append_assoc, h1]
  simp only [h2, joinE]

/- a number that was filled in -/
theorem fd_num {w0 w1 : World} {rb : Nat} {V : Value} {E : List It → Eaten} {m : Nat} {v : List It} {sz : Nat} {FV F' : Value} {w w' : World} {t : Int} (hE : ∀ rest, E ((t, ⟨#[]⟩) :: rest) = some ([false], rest)) (h : FS w0 w1 rb V (m + 1) (v ++ [(t, ⟨#[]⟩)]) (sz + 2) F' w') (hw : Wf rb w1.heap.size FV F' w w') : Fd w0 w1 rb V E 1 m v sz FV w w' [(t, ⟨#[]⟩)] [false] F' (m + 1) :=
  ⟨hE, rfl, h, hw, Nat.le_refl _, Nat.le_refl _, by simp [bytesOf, enc8, two8]⟩

theorem eat_num {g : Nat → Nat} {f p : Nat} {t : Int} (h1 : ¬ g p = 115) (h2 : ¬ g p = 97) (h3 : ¬ g p = 114) (hlo : loOf (g p) ≤ t) (hhi : t ≤ hiOf g f p) (rest : List It) : eat g (f + 1) p ((t, ⟨#[]⟩) :: rest) = joinE [false] (seqE (eat g f) (behindOf g f p t) rest) := by
  have hh : headOf g f p ((t, ⟨#[]⟩) :: rest) = some ([false], behindOf g f p t, rest) := by
    simp only [headOf, if_neg h2, if_neg h3, if_neg h1, behindOf]
    rw [if_pos ⟨rfl, hlo, hhi⟩]
  rw [eat_cons hh]
theorem eat_leaf {g : Nat → Nat} {f p : Nat} {t : Int} (h1 : ¬ g p = 115) (h2 : ¬ g p = 97) (h3 : ¬ g p = 114) (h4 : ¬ g p = 117) (h5 : ¬ g p = 113) (hlo : loOf (g p) ≤ t) (hhi : t ≤ hiOf g f p) (rest : List It) : eat g (f + 1) p ((t, ⟨#[]⟩) :: rest) = some ([false], rest) := by
  rw [eat_num h1 h2 h3 hlo hhi]
  simp [behindOf, h4, h5, seqE, joinE]

def FillSaid (g : Nat → Nat) (P : List Nd) (hi : Nat) (w0 w1 : World) (tb rb : Nat) (V : Value) (d : Nat) : Prop := ∀ (n f p m : Nat) (v : List It) (sz : Nat) (FV : Value) (w : World), Placed g P hi d n f p → FS w0 w1 rb V m v sz FV w → m + 10 ^ d ≤ 1000000 → v.length + 10 ^ d ≤ 50000 → sz + 20 * 10 ^ d ≤ 10000000 →
  Calls Try.prog 20 #[.pointer (some ⟨tb, 0, none⟩), .pointer (some ⟨rb, 0, none⟩), .int .i64 n, .pointer (some ⟨w1.heap.size, 0, none⟩)] w fun e w' => e = .returned (.tuple #[]) ∧ Fld w0 w1 rb V (eat g f p) (10 ^ d) m v sz FV w w'

/- the box of a node -/
theorem box_keep {rb fb : Nat} {F F' : Value} {w w' : World} {a c k : Value} (hr : rb ≠ w.heap.size) (hf : fb ≠ w.heap.size) (hF : F.ownBlock ≠ some w.heap.size) (h : Wf rb fb F F' (w.alloc (.cells #[a, c, k] 90)) w') : w'.cell? ⟨w.heap.size, 2, none⟩ = some k := by
  have hb := h.block w.heap.size (by simp) (fun e => hr e.symm) (fun e => hf e.symm) hF
  rw [World.cell?_of_block (a := ⟨w.heap.size, 2, none⟩) hb]
  exact World.cell?_alloc_new w _ _ _

theorem kid_cell {w0 w1 w : World} {rb : Nat} {V : Value} {m : Nat} {v : List It} {sz : Nat} {FV : Value} {tb : Nat} {P : List Nd} {NV : Value} (hT : Tr w0 tb P NV w1) (hrT : ∀ k, TrB tb P NV k → k ≠ rb) (hP : P.length ≤ 100) (h : FS w0 w1 rb V m v sz FV w) {n : Nat} {x : Nd} (hx : P[n]? = some x) {ka : Option Addr} {kc : Nat} (hv : x.v = .slice ka x.ks.length kc) {i k : Nat} (hk : x.ks[i]? = some k) : ∃ kb, ka = some ⟨kb, 0, none⟩ ∧ w.cell? ⟨kb, i, none⟩ = some (.int .i64 k) := by
  have hTw : Tr w0 tb P NV w := hT.keep fun k hk => h.keep k (hT.lt hk).1 (hrT k hk)
  obtain ⟨_, _, ka', kc', hN, _, hv'⟩ := node_at hTw hx hP
  rw [hv] at hv'
  cases hv'
  obtain ⟨kb, h1, _, h2⟩ := hN.kid i k hk
  exact ⟨kb, h1, h2⟩



theorem fill_any {g : Nat → Nat} {P : List Nd} {hi : Nat} {w0 w1 : World} {tb rb : Nat} {V NV : Value} (hT : Tr w0 tb P NV w1) (hrT : ∀ k, TrB tb P NV k → k ≠ rb) (hP : P.length ≤ 100) (hV : RawOk w0 V) (hr : rb < w1.heap.size) (hr0 : w0.heap.size ≤ rb) : ∀ d, FillSaid g P hi w0 w1 tb rb V d := by
  intro d
  induction d with
  | zero => intro n f p m v sz FV w h; exact absurd h.tk id
  | succ d ih =>
    intro n f p m v sz FV w hpl hFS hm hv hsz
    obtain ⟨tp, tp1⟩ := ten_pow d
    rw [tp] at hm hv hsz
    obtain ⟨f, rfl⟩ : ∃ f', f = f' + 1 := ⟨f - 1, by have := hpl.fuel; have := tk_pos hpl.tk; omega⟩
    obtain ⟨x, hO⟩ := (parse (d + 1) n (f + 1) p hpl).2.2 d f rfl rfl
    have hTw : Tr w0 tb P NV w := hT.keep fun k hk => hFS.keep k (hT.lt hk).1 (hrT k hk)
    obtain ⟨gb, pc, ka, kc, hN, _, hxv⟩ := node_at hTw hO.node hP
    have hcl := lt_of_block hFS.cell
    have hFl : ∀ j, FV.ownBlock = some j → j < w.heap.size := fun j hj => (hFS.row.lt j hj).2
    have nr : rb ≠ w.heap.size := by omega
    have nf : w1.heap.size ≠ w.heap.size := by omega
    have nF : FV.ownBlock ≠ some w.heap.size := fun e => by have := hFl _ e; omega
    have h01 : w0.heap.size ≤ w1.heap.size := by omega
    have bW : ∀ o, Below w.heap.size w (w.alloc o) := fun o => (Below.refl _ _).alloc (Nat.le_refl _) _
    have nxt := fun (o : Obj) (k : Nat) (hk : 0 < k) (hk2 : k ≤ 65536) => next_fs hV (hFS.go (bW o)) hr hr0 (by omega) k hk hk2
    have wfW : ∀ o, Wf rb w1.heap.size FV FV w (w.alloc o) := fun o => Wf.of_below (bW o)
    have numb := fun (t : Int) (w' : World) (h : FS w0 w1 rb V (m + 1) v sz FV w') => number_fill w0 w1 rb V (m + 1) v sz FV w' t h hr h01 (by omega) (by omega)
    have hlt := hO.letter
    have hf := hO.frm
    unfold form at hf
    rcases hf with ⟨hl, hks⟩ | ⟨hl, hd1, hd9, hks⟩ | ⟨hl, hd1, hd3, hks⟩ | ⟨hl, hd3, hks⟩ | ⟨hl, hk1, hk6⟩
    · rcases hl with hl | hl | hl | hl
      · refine (fill_b w tb rb w1.heap.size n x gb P.length pc ka kc (fun k w' => k < 2 ∧ FS w0 w1 rb V (m + 1) v sz FV w' ∧ Wf rb w1.heap.size FV FV w w') (fun w' => Fld w0 w1 rb V (eat g (f + 1) p) 1 m v sz FV w w') hN hl ((nxt _ 2 (by omega) (by omega)).mono ?_) fun k w' ⟨hk, hfs, hwf⟩ => (numb k w' hfs).mono ?_).mono ?_
        · rintro e w' ⟨k, rfl, hk, hfs, hwf⟩
          exact ⟨k, rfl, hk, hfs, (wfW _).trans hwf⟩
        · rintro e w'' ⟨rfl, F', hfs', hwf'⟩
          exact ⟨rfl, _, _, _, _, fd_num (fun rest => eat_leaf (by omega) (by omega) (by omega) (by omega) (by omega) (by rw [hlt, hl]; simp [loOf]) (by simp [hiOf, hlt, hl]; omega) rest) hfs' (hwf.trans hwf')⟩
        · rintro e w' ⟨rfl, h⟩
          exact ⟨rfl, fld_mono h (by omega) (Wf.refl _ _ _ _)⟩
      · refine (fill_c w tb rb w1.heap.size n x gb P.length pc ka kc (fun k w' => k < 65536 ∧ FS w0 w1 rb V (m + 1) v sz FV w' ∧ Wf rb w1.heap.size FV FV w w') (fun w' => Fld w0 w1 rb V (eat g (f + 1) p) 1 m v sz FV w w') hN hl ((nxt _ 65536 (by omega) (by omega)).mono ?_) fun k w' ⟨hk, hfs, hwf⟩ => (numb k w' hfs).mono ?_).mono ?_
        · rintro e w' ⟨k, rfl, hk, hfs, hwf⟩
          exact ⟨k, rfl, hk, hfs, (wfW _).trans hwf⟩
        · rintro e w'' ⟨rfl, F', hfs', hwf'⟩
          exact ⟨rfl, _, _, _, _, fd_num (fun rest => eat_leaf (by omega) (by omega) (by omega) (by omega) (by omega) (by rw [hlt, hl]; simp [loOf]) (by simp [hiOf, hlt, hl]; omega) rest) hfs' (hwf.trans hwf')⟩
        · rintro e w' ⟨rfl, h⟩
          exact ⟨rfl, fld_mono h (by omega) (Wf.refl _ _ _ _)⟩
      · refine (fill_i w tb rb w1.heap.size n x gb P.length pc ka kc (fun k w' => k < 65536 ∧ FS w0 w1 rb V (m + 1) v sz FV w' ∧ Wf rb w1.heap.size FV FV w w') (fun w' => Fld w0 w1 rb V (eat g (f + 1) p) 1 m v sz FV w w') hN hl (fun k w h => h.1) ((nxt _ 65536 (by omega) (by omega)).mono ?_) fun k w' ⟨hk, hfs, hwf⟩ => (numb _ w' hfs).mono ?_).mono ?_
        · rintro e w' ⟨k, rfl, hk, hfs, hwf⟩
          exact ⟨k, rfl, hk, hfs, (wfW _).trans hwf⟩
        · rintro e w'' ⟨rfl, F', hfs', hwf'⟩
          exact ⟨rfl, _, _, _, _, fd_num (fun rest => eat_leaf (by omega) (by omega) (by omega) (by omega) (by omega) (by rw [hlt, hl]; simp [loOf]; omega) (by simp [hiOf, hlt, hl]; omega) rest) hfs' (hwf.trans hwf')⟩
        · rintro e w' ⟨rfl, h⟩
          exact ⟨rfl, fld_mono h (by omega) (Wf.refl _ _ _ _)⟩
      · refine (fill_s w0 w1 rb V m v sz FV w tb n x gb P.length pc ka kc hN hl hr h01 (by omega) (by omega) ((nxt _ 15 (by omega) (by omega)).mono ?_)).mono ?_
        · rintro e w' ⟨k, rfl, hk, hfs, hwf⟩
          exact ⟨k, rfl, hk, hfs, hwf⟩
        · rintro e w' ⟨rfl, k, F', hk, hfs, hwf⟩
          have hsz2 := cStr_size k hk
          have hbl : (bytesOf [true] [(0, cStr.extract 0 k)]).length = 2 + k + k % 2 := by
            have hd : (cStr.extract 0 k).data.toList.length = k := by rw [Array.length_toList]; exact hsz2
            simp only [bytesOf, enc8, if_true, hsz2, List.length_append, hd, two8]
            split <;> simp <;> omega
          refine ⟨rfl, [(0, cStr.extract 0 k)], [true], F', m + 1, fun rest => ?_, rfl, ?_, (wfW _).trans hwf, by simp; omega, by omega, by rw [hbl]; simp; omega⟩
          · have hh : headOf g f p ((0, cStr.extract 0 k) :: rest) = some ([true], [], rest) := by
              simp [headOf, hlt, hl, hsz2, hk]
            rw [List.singleton_append, eat_cons hh]
            rfl
          · rw [hbl, show sz + (2 + k + k % 2) = sz + 2 + k + k % 2 by omega]
            exact hfs
    · have hdg := hO.digit (Or.inl hl)
      refine (fill_e w tb rb w1.heap.size n x gb P.length pc ka kc (fun k w' => k < x.d ∧ FS w0 w1 rb V (m + 1) v sz FV w' ∧ Wf rb w1.heap.size FV FV w w') (fun w' => Fld w0 w1 rb V (eat g (f + 1) p) 1 m v sz FV w w') hN hl ((nxt _ x.d (by omega) (by omega)).mono ?_) fun k w' ⟨hk, hfs, hwf⟩ => (numb k w' hfs).mono ?_).mono ?_
      · rintro e w' ⟨k, rfl, hk, hfs, hwf⟩
        exact ⟨k, rfl, hk, hfs, (wfW _).trans hwf⟩
      · rintro e w'' ⟨rfl, F', hfs', hwf'⟩
        exact ⟨rfl, _, _, _, _, fd_num (fun rest => eat_leaf (by omega) (by omega) (by omega) (by omega) (by omega) (by rw [hlt, hl]; simp [loOf]) (by simp [hiOf, hlt, hl, hdg]; omega) rest) hfs' (hwf.trans hwf')⟩
      · rintro e w' ⟨rfl, h⟩
        exact ⟨rfl, fld_mono h (by omega) (Wf.refl _ _ _ _)⟩
    · have hdg := hO.digit (Or.inr (Or.inl hl))
      obtain ⟨c, hcs, hpc⟩ := hO.one (Or.inl hl)
      have hck : x.ks[0]? = some c := by rw [hcs]; rfl
      have hE : eat g (f + 1) p = seqE (eat g f) (List.replicate x.d (p + 2)) := by
        funext l
        have hh : headOf g f p l = some ([], List.replicate (g (p + 1) - 48) (p + 2), l) := by simp [headOf, hlt, hl]
        rw [eat_cons hh, joinE_nil, hdg, Nat.add_sub_cancel]
      refine (fill_a w tb rb w1.heap.size n x gb P.length pc ka kc (fun i w' => ∃ u ks F' m', Fd w0 w1 rb V (seqE (eat g f) ((List.replicate x.d (p + 2)).take i)) (i * 10 ^ d) m v sz FV (w.alloc (.cells #[.int .u8 97, .int .i64 x.d, .slice ka x.ks.length kc] 90)) w' u ks F' m') hN hl (by omega) hks ?_ fun i w' hi hI => ?_).mono ?_
      · refine ⟨[], [], FV, m, ?_⟩
        rw [List.take_zero, Nat.zero_mul]
        exact fd_nil (hFS.go (bW _)) (Wf.refl _ _ _ _)
      · obtain ⟨u, ks, F', m', hI⟩ := hI
        obtain ⟨kb, hka, hkc⟩ := kid_cell hT hrT hP hI.fs hO.node hxv hck
        have hi3 : i * 10 ^ d ≤ 3 * 10 ^ d := Nat.mul_le_mul_right _ (by omega)
        have h1 := hI.few
        have h2 := hI.raw
        have h3 := hI.small
        refine ⟨kb, c, hka, box_keep nr nf nF hI.wf, hkc, (ih c f (p + 2) m' (v ++ u) (sz + (bytesOf ks u).length) F' w' hpc hI.fs (by omega) (by rw [List.length_append]; omega) (by omega)).mono ?_⟩
        rintro e w'' ⟨rfl, hF⟩
        have := fd_more hI hF (seq_more (by rw [List.getElem?_replicate, if_pos hi]) hI.eaten)
        rw [← Nat.succ_mul] at this
        exact ⟨rfl, this⟩
      · rintro e w' ⟨rfl, h⟩
        rw [List.take_of_length_le (by simp), ← hE] at h
        have hd3' : x.d * 10 ^ d ≤ 3 * 10 ^ d := Nat.mul_le_mul_right _ hd3
        exact ⟨rfl, fld_mono h (by omega) (wfW _)⟩
    · have hdg := hO.digit (Or.inr (Or.inr hl))
      obtain ⟨c, hcs, hpc⟩ := hO.one (Or.inr hl)
      have hck : x.ks[0]? = some c := by rw [hcs]; rfl
      have hE : ∀ (t : Nat), t ≤ x.d → ∀ rest, eat g (f + 1) p (((t : Int), ⟨#[]⟩) :: rest) = joinE [false] (seqE (eat g f) (List.replicate t (p + 2)) rest) := fun t ht rest => by
        rw [eat_num (by omega) (by omega) (by omega) (by rw [hlt, hl]; simp [loOf]) (by simp [hiOf, hlt, hl, hdg]; omega)]
        simp [behindOf, hlt, hl]
      refine (fill_q w tb rb w1.heap.size n x gb P.length pc ka kc (fun k w' => k ≤ x.d ∧ FS w0 w1 rb V (m + 1) v sz FV w' ∧ Wf rb w1.heap.size FV FV (w.alloc (.cells #[.int .u8 113, .int .i64 x.d, .slice ka x.ks.length kc] 90)) w')
        (fun t i w' => t ≤ x.d ∧ ∃ F1 wa, FS w0 w1 rb V (m + 1) (v ++ [((t : Int), ⟨#[]⟩)]) (sz + 2) F1 wa ∧ Wf rb w1.heap.size FV F1 (w.alloc (.cells #[.int .u8 113, .int .i64 x.d, .slice ka x.ks.length kc] 90)) wa ∧ ∃ u ks F' m', Fd w0 w1 rb V (seqE (eat g f) ((List.replicate t (p + 2)).take i)) (i * 10 ^ d) (m + 1) (v ++ [((t : Int), ⟨#[]⟩)]) (sz + 2) F1 wa w' u ks F' m') hN hl (by omega) hks ?_ (fun k w' ⟨hk, hfs, hwf⟩ => (numb k w' hfs).mono ?_) fun t i w' hi hI => ?_).mono ?_
      · have := nxt (.cells #[.int .u8 113, .int .i64 x.d, .slice ka x.ks.length kc] 90) (x.d + 1) (by omega) (by omega)
        rw [show ((x.d + 1 : Nat) : Int) = (x.d : Int) + 1 by omega] at this
        refine this.mono ?_
        rintro e w' ⟨k, rfl, hk, hfs, hwf⟩
        exact ⟨k, rfl, by omega, by omega, hfs, hwf⟩
      · rintro e w'' ⟨rfl, F', hfs', hwf'⟩
        refine ⟨rfl, hk, F', w'', hfs', hwf.trans hwf', [], [], F', m + 1, ?_⟩
        rw [List.take_zero, Nat.zero_mul]
        exact fd_nil hfs' (Wf.refl _ _ _ _)
      · obtain ⟨htd, F1, wa, hfa, hwa, u, ks, F', m', hI⟩ := hI
        obtain ⟨kb, hka, hkc⟩ := kid_cell hT hrT hP hI.fs hO.node hxv hck
        have hi3 : i * 10 ^ d ≤ 3 * 10 ^ d := Nat.mul_le_mul_right _ (by omega)
        have h1 := hI.few
        have h2 := hI.raw
        have h3 := hI.small
        refine ⟨kb, c, hka, box_keep nr nf nF (hwa.trans hI.wf), hkc, (ih c f (p + 2) m' _ _ F' w' hpc hI.fs (by omega) (by simp only [List.length_append, List.length_singleton]; omega) (by omega)).mono ?_⟩
        rintro e w'' ⟨rfl, hF⟩
        have := fd_more hI hF (seq_more (by rw [List.getElem?_replicate, if_pos hi]) hI.eaten)
        rw [← Nat.succ_mul] at this
        exact ⟨rfl, htd, F1, wa, hfa, hwa, this⟩
      · rintro e w' ⟨rfl, t, htd, F1, wa, hfa, hwa, h⟩
        rw [List.take_of_length_le (by simp)] at h
        have hd3' : t * 10 ^ d ≤ 3 * 10 ^ d := Nat.mul_le_mul_right _ (by omega)
        have h1 := fd_num (E := fun l => some ([false], l.drop 1)) (m := m) (fun rest => rfl) hfa ((wfW _).trans hwa)
        refine ⟨rfl, fld_mono (fd_more (E3 := eat g (f + 1) p) h1 h fun u2 k2 h2 rest => ?_) (by omega) (Wf.refl _ _ _ _)⟩
        show eat g (f + 1) p (((t : Int), ⟨#[]⟩) :: (u2 ++ rest)) = _
        rw [hE t htd, h2]
        rfl
    · obtain ⟨hml, hmk⟩ := hO.many hl
      rcases hl with hl | hl
      · have hE : eat g (f + 1) p = seqE (eat g f) (Pt.kids g f p) := by
          funext l
          have hh : headOf g f p l = some ([], Pt.kids g f p, l) := by simp [headOf, hlt, hl]
          rw [eat_cons hh, joinE_nil]
        refine (fill_r w tb rb w1.heap.size n x gb P.length pc ka kc (fun i w' => ∃ u ks F' m', Fd w0 w1 rb V (seqE (eat g f) ((Pt.kids g f p).take i)) (i * 10 ^ d) m v sz FV (w.alloc (.cells #[.int .u8 114, .int .i64 x.d, .slice ka x.ks.length kc] 90)) w' u ks F' m') hN hl hk6 ?_ (fun i w' ⟨_, _, _, _, hI⟩ => box_keep nr nf nF hI.wf) fun i w' hi hI => ?_).mono ?_
        · refine ⟨[], [], FV, m, ?_⟩
          rw [List.take_zero, Nat.zero_mul]
          exact fd_nil (hFS.go (bW _)) (Wf.refl _ _ _ _)
        · obtain ⟨u, ks, F', m', hI⟩ := hI
          obtain ⟨c, hck⟩ : ∃ c, x.ks[i]? = some c := ⟨_, List.getElem?_eq_getElem hi⟩
          obtain ⟨q, hq, hpc⟩ := hmk i c hck
          obtain ⟨kb, hka, hkc⟩ := kid_cell hT hrT hP hI.fs hO.node hxv hck
          have hi3 : i * 10 ^ d ≤ 6 * 10 ^ d := Nat.mul_le_mul_right _ (by omega)
          have h1 := hI.few
          have h2 := hI.raw
          have h3 := hI.small
          refine ⟨kb, c, hka, hkc, (ih c f q m' (v ++ u) (sz + (bytesOf ks u).length) F' w' hpc hI.fs (by omega) (by rw [List.length_append]; omega) (by omega)).mono ?_⟩
          rintro e w'' ⟨rfl, hF⟩
          have := fd_more hI hF (seq_more hq hI.eaten)
          rw [← Nat.succ_mul] at this
          exact ⟨rfl, this⟩
        · rintro e w' ⟨rfl, h⟩
          rw [List.take_of_length_le (by omega), ← hE] at h
          have hd3' : x.ks.length * 10 ^ d ≤ 6 * 10 ^ d := Nat.mul_le_mul_right _ hk6
          exact ⟨rfl, fld_mono h (by omega) (wfW _)⟩
      · refine (fill_u w tb rb w1.heap.size n x gb P.length pc ka kc (fun k w' => k < x.ks.length ∧ FS w0 w1 rb V (m + 1) v sz FV w' ∧ Wf rb w1.heap.size FV FV (w.alloc (.cells #[.int .u8 117, .int .i64 x.d, .slice ka x.ks.length kc] 90)) w')
          (fun k w' => k < x.ks.length ∧ ∃ F1, FS w0 w1 rb V (m + 1) (v ++ [((k : Int), ⟨#[]⟩)]) (sz + 2) F1 w' ∧ Wf rb w1.heap.size FV F1 (w.alloc (.cells #[.int .u8 117, .int .i64 x.d, .slice ka x.ks.length kc] 90)) w')
          (fun w' => Fld w0 w1 rb V (eat g (f + 1) p) (10 ^ (d + 1)) m v sz FV w w') hN hl ((nxt _ x.ks.length (by omega) (by omega)).mono ?_) (fun k w' ⟨hk, hfs, hwf⟩ => (numb k w' hfs).mono ?_) fun k w' ⟨hk, F1, hfs, hwf⟩ => ?_)
        · rintro e w' ⟨k, rfl, hk, hfs, hwf⟩
          exact ⟨k, rfl, hk, hfs, hwf⟩
        · rintro e w'' ⟨rfl, F', hfs', hwf'⟩
          exact ⟨rfl, hk, F', hfs', hwf.trans hwf'⟩
        · obtain ⟨c, hck⟩ : ∃ c, x.ks[k]? = some c := ⟨_, List.getElem?_eq_getElem hk⟩
          obtain ⟨q, hq, hpc⟩ := hmk k c hck
          obtain ⟨kb, hka, hkc⟩ := kid_cell hT hrT hP hfs hO.node hxv hck
          refine ⟨kb, c, hk, hka, box_keep nr nf nF hwf, hkc, (ih c f q (m + 1) _ _ F1 w' hpc hfs (by omega) (by simp only [List.length_append, List.length_singleton]; omega) (by omega)).mono ?_⟩
          rintro e w'' ⟨rfl, hF⟩
          have h1 := fd_num (E := fun l => some ([false], l.drop 1)) (m := m) (fun rest => rfl) hfs ((wfW _).trans hwf)
          refine ⟨rfl, fld_mono (fd_more (E3 := eat g (f + 1) p) h1 hF fun u2 k2 h2 rest => ?_) (by omega) (Wf.refl _ _ _ _)⟩
          show eat g (f + 1) p (((k : Int), ⟨#[]⟩) :: (u2 ++ rest)) = _
          have hhi : hiOf g f p = ((Pt.kids g f p).length : Int) - 1 := by simp [hiOf, hlt, hl]
          have hpo : partOf (Pt.kids g f p) (k : Int) = q := by
            unfold partOf
            rw [if_pos (by omega), Int.toNat_natCast, hq]
            rfl
          rw [eat_num (by omega) (by omega) (by omega) (by rw [hlt, hl]; simp [loOf]) (by omega)]
          simp [behindOf, hlt, hl, hpo, seqE, h2, joinE]

end Go.Proofs.Ytblomippkddgiaa.V
