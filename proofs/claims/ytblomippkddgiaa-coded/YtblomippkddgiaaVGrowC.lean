/-
  The law's 'grow': its state in memory.
-/
import Derived.Test.YtblomippkddgiaaVFill
import Derived.Test.YtblomippkddgiaaVReadFace
import Derived.Deep.RegionLaw
import Derived.Deep.RegionWith
namespace Go.Proofs.Ytblomippkddgiaa.V
open Go.RowKit

theorem info78 : (Try.prog.info? 90).map (fun i => (i.zero, i.size, i.bytes)) = some (some (.agg #[.int .u8 0, .int .i64 0, .slice none 0 0]), 3, 40) := by kernel_rfl
theorem info3 : (Try.prog.info? 3).map (fun i => (i.zero, i.size, i.bytes)) = some (some (.int .i64 0), 1, 8) := by kernel_rfl

/- a tree that grows, and the raw numbers that it grows out of -/
structure Gs (w0 : World) (tb rb : Nat) (V : Value) (P : List Nd) (NV : Value) (m : Nat) (w : World) : Prop where
  tree : Tr w0 tb P NV w
  raw : w.heap[rb]? = some (.cells #[V, .int .i64 m] 45 (0, 0))
  sep : ∀ k, TrB tb P NV k → k ≠ rb
  below : Below w0.heap.size w0 w
theorem Gs.keep {w0 : World} {tb rb : Nat} {V : Value} {P : List Nd} {NV : Value} {m : Nat} {w w' : World} (h : Gs w0 tb rb V P NV m w) (hk : ∀ k, TrB tb P NV k ∨ k = rb → w'.heap[k]? = w.heap[k]?) (hb : Below w0.heap.size w0 w') : Gs w0 tb rb V P NV m w' :=
  ⟨h.tree.keep fun k hk' => hk k (Or.inl hk'), by rw [hk rb (Or.inr rfl)]; exact h.raw, h.sep, hb⟩
theorem Gs.lt {w0 : World} {tb rb : Nat} {V : Value} {P : List Nd} {NV : Value} {m : Nat} {w : World} (h : Gs w0 tb rb V P NV m w) {k : Nat} (hk : TrB tb P NV k ∨ k = rb) : k < w.heap.size := by
  rcases hk with hk | rfl
  · exact (h.tree.lt hk).1
  · exact lt_of_block h.raw
theorem Gs.go {w0 : World} {tb rb : Nat} {V : Value} {P : List Nd} {NV : Value} {m : Nat} {w w' : World} (h : Gs w0 tb rb V P NV m w) (hb : Below w.heap.size w w') : Gs w0 tb rb V P NV m w' :=
  h.keep (fun k hk => hb.block k (h.lt hk)) (h.below.trans (hb.mono h.below.size))
theorem Gs.next {w0 : World} {tb rb : Nat} {V : Value} {P : List Nd} {NV : Value} {m : Nat} {w w' : World} (h : Gs w0 tb rb V P NV m w) (hn : Nxt w0 rb V (m + 1) w w') : Gs w0 tb rb V P NV (m + 1) w' ∧ Wf rb tb NV NV w w' :=
  ⟨⟨h.tree.keep fun k hk => hn.keep k (h.sep k hk), hn.cell, h.sep, hn.below⟩, ⟨by rw [hn.size]; exact Nat.le_refl _, fun k _ hk _ _ => hn.keep k hk, Or.inl rfl⟩⟩

def zeroNd : Nd := ⟨0, 0, .slice none 0 0, []⟩
/- a node more -/
theorem gs_push {w0 : World} {tb rb : Nat} {V : Value} {P : List Nd} {NV N1 : Value} {m : Nat} {w w2 : World} {o : Obj} (h : Gs w0 tb rb V P NV m w) (hown : w2.ownsRow w0.heap.size 90 3 N1 (P.length + 1) (nflat P ++ [.int .u8 0, .int .i64 0, .slice none 0 0])) (hg : (w.alloc o).grownBy w2 NV.ownBlock) (hat : N1.ownBlock = NV.ownBlock ∨ N1.ownBlock = some (w.heap.size + 1)) :
    w2.heap[tb]? = some (.cells #[NV] 49 (0, 0)) ∧ Gs w0 tb rb V (P ++ [zeroNd]) N1 m (w2.setCell ⟨tb, 0, none⟩ N1) ∧ Wf rb tb NV N1 w (w2.setCell ⟨tb, 0, none⟩ N1) := by
  have htl := lt_of_block h.tree.cell
  have hrl := lt_of_block h.raw
  have hs0 := h.below.size
  have hws : (w.alloc o).heap.size = w.heap.size + 1 := by simp
  have hgs := hg.size
  have hNl : ∀ j, NV.ownBlock = some j → w0.heap.size ≤ j := fun j hj => (h.tree.row.lt j hj).1
  have keepR : ∀ k, k < w.heap.size → NV.ownBlock ≠ some k → w2.heap[k]? = w.heap[k]? := fun k hk hne => by
    rw [hg.block k (by omega) (fun e => hne e.symm)]
    exact Below.heap_alloc _ _ _ hk
  have hset : ∀ k, k ≠ tb → (w2.setCell ⟨tb, 0, none⟩ N1).heap[k]? = w2.heap[k]? := fun k hk => Below.heap_setCell _ _ _ _ (by simpa using hk)
  have hc2 : w2.heap[tb]? = some (.cells #[NV] 49 (0, 0)) := by
    rw [keepR tb htl h.tree.sep]
    exact h.tree.cell
  have hN1 : ∀ j, N1.ownBlock = some j → NV.ownBlock = some j ∨ j = w.heap.size + 1 := fun j hj => by
    rcases hat with e | e
    · exact Or.inl (e ▸ hj)
    · rw [e] at hj
      injection hj with hj
      exact Or.inr hj.symm
  have hN1t : N1.ownBlock ≠ some tb := fun e => by
    rcases hN1 tb e with e | e
    · exact h.tree.sep e
    · omega
  have hxk : ∀ x ∈ P, ∀ j, x.v.ownBlock = some j → j < w.heap.size ∧ j ≠ tb ∧ NV.ownBlock ≠ some j := fun x hx j hj =>
    ⟨((h.tree.kids x hx).lt j hj).2, fun e => (h.tree.sepk x hx).1 (e ▸ hj), (h.tree.sepk x hx).2 j hj⟩
  refine ⟨hc2, ⟨⟨?_, ?_, fun x hx => ?_, h.tree.b0, hN1t, fun x hx => ?_⟩, ?_, fun k hk => ?_, ?_⟩, ⟨by simp; omega, fun k hk h1 h2 h3 => ?_, ?_⟩⟩
  · simp only [World.setCell, Array.getElem?_modify, hc2]
    simp
  · rw [List.length_append, nflat_snoc]
    exact row_keep hown fun g hg => hset g (fun e => hN1t (e ▸ hg))
  · rcases List.mem_append.1 hx with hx | hx
    · refine row_keep (h.tree.kids x hx) fun g hg => ?_
      obtain ⟨a1, a2, a3⟩ := hxk x hx g hg
      rw [hset g a2]
      exact keepR g a1 a3
    · simp only [List.mem_singleton] at hx
      subst hx
      exact World.ownsRow_nil _ _ _ _
  · rcases List.mem_append.1 hx with hx | hx
    · refine ⟨(h.tree.sepk x hx).1, fun j hj e => ?_⟩
      obtain ⟨a1, a2, a3⟩ := hxk x hx j hj
      rcases hN1 j e with e | e
      · exact a3 e
      · omega
    · simp only [List.mem_singleton] at hx
      subst hx
      exact ⟨by simp [zeroNd, Value.ownBlock], fun j hj => by simp [zeroNd, Value.ownBlock] at hj⟩
  · rw [hset rb (fun e => h.sep tb (Or.inl rfl) e.symm), keepR rb hrl (fun e => h.sep rb (Or.inr (Or.inl e)) rfl)]
    exact h.raw
  · rcases hk with rfl | hk | ⟨x, hx, hk⟩
    · exact h.sep k (Or.inl rfl)
    · rcases hN1 k hk with e | e
      · exact h.sep k (Or.inr (Or.inl e))
      · omega
    · rcases List.mem_append.1 hx with hx | hx
      · exact h.sep k (Or.inr (Or.inr ⟨x, hx, hk⟩))
      · simp only [List.mem_singleton] at hx
        subst hx
        simp [zeroNd, Value.ownBlock] at hk
  · exact ((h.below.alloc (by omega) o).grown hg (by omega) hNl).setCell (by simpa using h.tree.b0) _
  · rw [hset k h2]
    exact keepR k hk h3
  · rcases hat with e | e
    · exact Or.inl e
    · exact Or.inr ⟨_, e, by omega⟩

theorem nflat_set : ∀ (P : List Nd) (n : Nat) (y : Nd), n < P.length → nflat (P.set n y) = (((nflat P).set (n * 3) (.int .u8 y.c)).set (n * 3 + 1) (.int .i64 y.d)).set (n * 3 + 2) y.v
  | [], n, y, h => by simp at h
  | x :: P, 0, y, h => rfl
  | x :: P, n + 1, y, h => by
    have := nflat_set P n y (by simpa using h)
    simp only [List.set_cons_succ, nflat, this]
    rw [show (n + 1) * 3 = n * 3 + 1 + 1 + 1 by omega]
    simp only [List.set_cons_succ]

/- a node is written -/
theorem gs_set {w0 : World} {tb rb : Nat} {V : Value} {P : List Nd} {g pc : Nat} {m : Nat} {w : World} {n : Nat} {y : Nd} (h : Gs w0 tb rb V P (.slice (some ⟨g, 0, none⟩) P.length pc) m w) (hn : n < P.length) (hr : w.ownsRow w0.heap.size 3 1 y.v y.ks.length (nums y.ks)) (hy : ∀ j, y.v.ownBlock = some j → j ≠ tb ∧ j ≠ rb ∧ j ≠ g) :
    Gs w0 tb rb V (P.set n y) (.slice (some ⟨g, 0, none⟩) P.length pc) m (((w.setCell ⟨g, n * 3, none⟩ (.int .u8 y.c)).setCell ⟨g, n * 3 + 1, none⟩ (.int .i64 y.d)).setCell ⟨g, n * 3 + 2, none⟩ y.v) ∧ Wf rb tb (.slice (some ⟨g, 0, none⟩) P.length pc) (.slice (some ⟨g, 0, none⟩) P.length pc) w (((w.setCell ⟨g, n * 3, none⟩ (.int .u8 y.c)).setCell ⟨g, n * 3 + 1, none⟩ (.int .i64 y.d)).setCell ⟨g, n * 3 + 2, none⟩ y.v) := by
  have hset : ∀ k, k ≠ g → (((w.setCell ⟨g, n * 3, none⟩ (.int .u8 y.c)).setCell ⟨g, n * 3 + 1, none⟩ (.int .i64 y.d)).setCell ⟨g, n * 3 + 2, none⟩ y.v).heap[k]? = w.heap[k]? := fun k hk => by
    rw [Below.heap_setCell _ _ _ _ (by simpa using hk), Below.heap_setCell _ _ _ _ (by simpa using hk), Below.heap_setCell _ _ _ _ (by simpa using hk)]
  have hg0 := (h.tree.row.lt g rfl).1
  have hgt : tb ≠ g := fun e => h.tree.sep (by rw [e]; rfl)
  have hgr : rb ≠ g := fun e => h.sep g (Or.inr (Or.inl rfl)) e.symm
  have hlen : (P.set n y).length = P.length := List.length_set
  have hmem : ∀ x ∈ P.set n y, x ∈ P ∨ x = y := fun x hx => List.mem_or_eq_of_mem_set hx
  obtain ⟨hl0, hrow⟩ := h.tree.row
  rcases hrow with ⟨he, _⟩ | ⟨g', cap, cur, hv, hbg, hgb, hnc, hcm, hcs, htk⟩
  · cases he
  · cases hv
    refine ⟨⟨⟨?_, ?_, fun x hx => ?_, h.tree.b0, h.tree.sep, fun x hx => ?_⟩, ?_, fun k hk => ?_, ?_⟩, ⟨by simp, fun k _ _ _ h3 => hset k (fun e => h3 (by rw [e]; rfl)), Or.inl rfl⟩⟩
    · rw [hset tb hgt]
      exact h.tree.cell
    · rw [hlen]
      refine ⟨by rw [nflat_length, hlen], Or.inr ⟨g, pc, ((cur.setIfInBounds (n * 3) (.int .u8 y.c)).setIfInBounds (n * 3 + 1) (.int .i64 y.d)).setIfInBounds (n * 3 + 2) y.v, rfl, hbg, ?_, hnc, hcm, by simp [hcs], ?_⟩⟩
      · simp only [World.setCell, Array.getElem?_modify, hgb]
        simp
      · simp only [Array.toList_setIfInBounds, List.take_set]
        rw [htk, nflat_set P n y hn]
    · rcases hmem x hx with hx | rfl
      · exact row_keep (h.tree.kids x hx) fun j hj => hset j (fun e => (h.tree.sepk x hx).2 j hj (by rw [e]; rfl))
      · exact row_keep hr fun j hj => hset j (hy j hj).2.2
    · rcases hmem x hx with hx | rfl
      · exact h.tree.sepk x hx
      · exact ⟨fun e => (hy tb e).1 rfl, fun j hj e => (hy j hj).2.2 (by injection e with e; exact e.symm)⟩
    · rw [hset rb hgr]
      exact h.raw
    · rcases hk with rfl | hk | ⟨x, hx, hk⟩
      · exact h.sep k (Or.inl rfl)
      · exact h.sep k (Or.inr (Or.inl hk))
      · rcases hmem x hx with hx | rfl
        · exact h.sep k (Or.inr (Or.inr ⟨x, hx, hk⟩))
        · exact (hy k hk).2.1
    · exact ((h.below.setCell (by simpa using hg0) _).setCell (by simpa using hg0) _).setCell (by simpa using hg0) _

/- the node that is being made lies in a box A; its list of numbers in a row of its own, from block Bs on -/
structure Bx (Bs : Nat) (tb rb : Nat) (P : List Nd) (NV : Value) (A c d : Nat) (iv : Value) (ks : List Nat) (w : World) : Prop where
  box : w.heap[A]? = some (.cells #[.int .u8 c, .int .i64 d, iv] 90 (0, 0))
  row : w.ownsRow Bs 3 1 iv ks.length (nums ks)
  apart : A ≠ rb ∧ ¬ TrB tb P NV A
  iapart : ∀ j, iv.ownBlock = some j → j ≠ A ∧ j ≠ rb ∧ ¬ TrB tb P NV j
theorem Bx.keep {Bs : Nat} {tb rb : Nat} {P P' : List Nd} {NV NV' : Value} {A c d : Nat} {iv : Value} {ks : List Nat} {w w' : World} (h : Bx Bs tb rb P NV A c d iv ks w) (hk : ∀ k, k = A ∨ iv.ownBlock = some k → w'.heap[k]? = w.heap[k]?) (hT : ∀ k, k < w.heap.size → TrB tb P' NV' k → TrB tb P NV k) : Bx Bs tb rb P' NV' A c d iv ks w' :=
  ⟨by rw [hk A (Or.inl rfl)]; exact h.box, row_keep h.row (fun g hg => hk g (Or.inr hg)), ⟨h.apart.1, fun e => h.apart.2 (hT A (lt_of_block h.box) e)⟩, fun j hj => ⟨(h.iapart j hj).1, (h.iapart j hj).2.1, fun e => (h.iapart j hj).2.2 (hT j ((h.row.lt j hj).2) e)⟩⟩
/- whatever changes but the tree and the raw numbers leaves it -/
theorem Bx.wf {Bs : Nat} {tb rb : Nat} {P P' : List Nd} {NV NV' : Value} {A c d : Nat} {iv : Value} {ks : List Nat} {w w' : World} (h : Bx Bs tb rb P NV A c d iv ks w) (hw : Wf rb tb NV NV' w w') (hP : ∀ x ∈ P', x ∈ P ∨ ∀ j, x.v.ownBlock = some j → w.heap.size ≤ j) : Bx Bs tb rb P' NV' A c d iv ks w' := by
  refine h.keep (fun k hk => ?_) fun k hkl hk => ?_
  · have : k < w.heap.size ∧ k ≠ rb ∧ ¬ TrB tb P NV k := by
      rcases hk with rfl | hk
      · exact ⟨lt_of_block h.box, h.apart⟩
      · exact ⟨(h.row.lt k hk).2, (h.iapart k hk).2⟩
    exact hw.block k this.1 this.2.1 (fun e => this.2.2 (Or.inl e)) (fun e => this.2.2 (Or.inr (Or.inl e)))
  · rcases hk with rfl | hk | ⟨x, hx, hk⟩
    · exact Or.inl rfl
    · rcases hw.row with e | ⟨j, e, hj⟩
      · exact Or.inr (Or.inl (e ▸ hk))
      · rw [e] at hk
        injection hk
        omega
    · rcases hP x hx with hx | hx
      · exact Or.inr (Or.inr ⟨x, hx, hk⟩)
      · have := hx k hk
        omega

end Go.Proofs.Ytblomippkddgiaa.V

/-
  The law's 'grow': what a node more means, a kid more, the end.
-/
namespace Go.Proofs.Ytblomippkddgiaa.V
open Go.RowKit

theorem nums_snoc (ks : List Nat) (c : Nat) : nums (ks ++ [c]) = nums ks ++ [.int .i64 c] := by simp [nums]
theorem nums_length (ks : List Nat) : (nums ks).length = ks.length := by simp [nums]

theorem in_more {Bs : Nat} {w2 : World} {iv : Value} {ks : List Nat} (c : Nat) (h : w2.ownsRow Bs 3 1 iv ks.length (nums ks)) (hk : ks.length ≤ 100) (hB : Bs ≤ w2.heap.size) :
    ∃ a c' w3, (Builtin.append_ #[42, 42] 42 #[iv, .slice (some ⟨w2.heap.size, 0, none⟩) 1 1]).run Try.prog (w2.alloc (.cells #[.int .i64 c] 3)) = .ok (.slice a (ks.length + 1) c') w3 ∧ w3.ownsRow Bs 3 1 (.slice a (ks.length + 1) c') (ks ++ [c]).length (nums (ks ++ [c])) ∧
      (w2.alloc (.cells #[.int .i64 c] 3)).grownBy w3 iv.ownBlock ∧ ((Value.slice a (ks.length + 1) c').ownBlock = iv.ownBlock ∨ (Value.slice a (ks.length + 1) c').ownBlock = some (w2.heap.size + 1)) := by
  obtain ⟨i0, hi, hz0, hz1, hz2⟩ := info_parts info3
  have hws : (w2.alloc (.cells #[.int .i64 c] 3)).heap.size = w2.heap.size + 1 := by simp
  obtain ⟨v', w', hr, hown, hg, _, hat⟩ := run_append_own_at (P := Try.prog) (w2.alloc (.cells #[.int .i64 c] 3)) Bs 42 42 3 i0 _ 1 8 Try.underlying42 hi hz0 hz1 hz2 rfl (by decide) iv ks.length (nums ks) (h.alloc _) ⟨w2.heap.size, 0, none⟩ 1 1 [.int .i64 c] rfl (cell_one_new _ _ _) (by intro u hu; simp at hu; subst hu; rfl) (by unfold maxLen; omega) (by omega) (by omega)
  obtain ⟨a, n', c', hsh⟩ := row_shape hown
  subst hsh
  have hn' : n' = ks.length + 1 := by
    rcases hown.2 with ⟨hv, h0⟩ | ⟨g, cap, cur, hv, _⟩
    · cases hv
      omega
    · cases hv
      rfl
  subst hn'
  rw [hws] at hat
  refine ⟨a, c', w', hr, ?_, hg, hat⟩
  rw [List.length_append, nums_snoc]
  exact hown

theorem Wf.above {rb fb : Nat} {F F' : Value} {w w' w'' : World} (h : Wf rb fb F F' w w') (hs : w'.heap.size ≤ w''.heap.size) (hk : ∀ k, k < w.heap.size → w''.heap[k]? = w'.heap[k]?) : Wf rb fb F F' w w'' :=
  ⟨Nat.le_trans h.size hs, fun k hl h1 h2 h3 => (hk k hl).trans (h.block k hl h1 h2 h3), h.row⟩

/- what 'grow' leaves -/
structure Grown (w0 w : World) (tb rb : Nat) (V : Value) (P : List Nd) (NV : Value) (m D : Nat) (w' : World) (P' : List Nd) (NV' : Value) (m' : Nat) : Prop where
  gs : Gs w0 tb rb V P' NV' m' w'
  wf : Wf rb tb NV NV' w w'
  len : P.length < P'.length ∧ P'.length ≤ 9
  pre : ∀ i, i < P.length → P'[i]? = P[i]?
  fresh : ∀ (i : Nat) x, P'[i]? = some x → P.length ≤ i → ∀ j, x.v.ownBlock = some j → w.heap.size ≤ j
  tk : Tk P' P'.length D P.length
  text : (txt P' D P.length).length + 3 * P.length ≤ 3 * P'.length
  raw : m' ≤ m + 10 ^ D

/- while a node is made -/
structure GL (w0 w : World) (tb rb : Nat) (V : Value) (P0 : List Nd) (N0 : Value) (M A c d D : Nat) (wr : World) (P : List Nd) (NV : Value) (m : Nat) (iv : Value) (ks : List Nat) : Prop where
  gs : Gs w0 tb rb V P NV m wr
  bx : Bx w.heap.size tb rb P NV A c d iv ks wr
  wf : Wf rb tb N0 NV w wr
  len : P0.length < P.length ∧ P.length ≤ 9
  pre : ∀ i, i < P0.length → P[i]? = P0[i]?
  fresh : ∀ (i : Nat) x, P[i]? = some x → P0.length ≤ i → ∀ j, x.v.ownBlock = some j → w.heap.size ≤ j
  kids : ∀ k ∈ ks, P0.length < k ∧ Tk P P.length D k
  text : (catN (txt P D) ks).length + 3 * (P0.length + 1) ≤ 3 * P.length
  raw : m ≤ M
  abase : w.heap.size ≤ A
  wbase : w0.heap.size ≤ w.heap.size
theorem GL.next {w0 w : World} {tb rb : Nat} {V : Value} {P0 : List Nd} {N0 : Value} {M A c d D : Nat} {wr w' : World} {P : List Nd} {NV : Value} {m : Nat} {iv : Value} {ks : List Nat} (h : GL w0 w tb rb V P0 N0 M A c d D wr P NV m iv ks) (hn : Nxt w0 rb V (m + 1) wr w') : GL w0 w tb rb V P0 N0 (M + 1) A c d D w' P NV (m + 1) iv ks := by
  obtain ⟨h1, h2⟩ := h.gs.next hn
  exact ⟨h1, h.bx.wf h2 (fun x hx => Or.inl hx), h.wf.trans h2, h.len, h.pre, h.fresh, h.kids, h.text, by have := h.raw; omega, h.abase, h.wbase⟩
theorem GL.drew {w0 w : World} {tb rb : Nat} {V : Value} {P0 : List Nd} {N0 : Value} {M A c d D : Nat} {wr : World} {P : List Nd} {NV : Value} {m : Nat} {iv : Value} {ks : List Nat} (h : GL w0 w tb rb V P0 N0 M A c d D wr P NV m iv ks) : GL w0 w tb rb V P0 N0 M A c d D wr.drew P NV m iv ks :=
  ⟨⟨⟨h.gs.tree.cell, h.gs.tree.row, h.gs.tree.kids, h.gs.tree.b0, h.gs.tree.sep, h.gs.tree.sepk⟩, h.gs.raw, h.gs.sep, h.gs.below.drew⟩, ⟨h.bx.box, h.bx.row, h.bx.apart, h.bx.iapart⟩, ⟨h.wf.size, h.wf.block, h.wf.row⟩, h.len, h.pre, h.fresh, h.kids, h.text, h.raw, h.abase, h.wbase⟩

/- a kid more -/
theorem gl_kid {w0 w : World} {tb rb : Nat} {V : Value} {P0 : List Nd} {N0 : Value} {M A c d D : Nat} {wr w2 w3 : World} {P P' : List Nd} {NV NV' : Value} {m m' : Nat} {iv iv' : Value} {ks : List Nat} (h : GL w0 w tb rb V P0 N0 M A c d D wr P NV m iv ks) (hG : Grown w0 wr tb rb V P NV m D w2 P' NV' m')
    (hr : w3.ownsRow w.heap.size 3 1 iv' (ks ++ [P.length]).length (nums (ks ++ [P.length]))) (hg : (w2.alloc (.cells #[.int .i64 P.length] 3)).grownBy w3 iv.ownBlock) (hat : iv'.ownBlock = iv.ownBlock ∨ iv'.ownBlock = some (w2.heap.size + 1)) :
    w3.heap[A]? = some (.cells #[.int .u8 c, .int .i64 d, iv] 90 (0, 0)) ∧ GL w0 w tb rb V P0 N0 (M + 10 ^ D) A c d D (w3.setCell ⟨A, 2, none⟩ iv') P' NV' m' iv' (ks ++ [P.length]) := by
  have hsz := h.wf.size
  have hsz2 := hG.wf.size
  have hs0 := hG.gs.below.size
  have hws : (w2.alloc (.cells #[.int .i64 P.length] 3)).heap.size = w2.heap.size + 1 := by simp
  have hgs := hg.size
  have hmemP : ∀ x ∈ P', x ∈ P ∨ ∀ j, x.v.ownBlock = some j → wr.heap.size ≤ j := fun x hx => by
    obtain ⟨i, hi⟩ := List.getElem?_of_mem hx
    by_cases hlt : i < P.length
    · rw [hG.pre i hlt] at hi
      exact Or.inl (List.mem_of_getElem? hi)
    · exact Or.inr (hG.fresh i x hi (by omega))
  have hbx2 := h.bx.wf hG.wf hmemP
  have hAl := lt_of_block hbx2.box
  have hA := h.abase
  have hB := h.wbase
  have hrl := lt_of_block hG.gs.raw
  have hivl : ∀ j, iv.ownBlock = some j → w.heap.size ≤ j ∧ j < w2.heap.size := fun j hj => hbx2.row.lt j hj
  have keepR : ∀ k, k < w2.heap.size → iv.ownBlock ≠ some k → w3.heap[k]? = w2.heap[k]? := fun k hk hne => by
    rw [hg.block k (by omega) (fun e => hne e.symm)]
    exact Below.heap_alloc _ _ _ hk
  have hset : ∀ k, k ≠ A → (w3.setCell ⟨A, 2, none⟩ iv').heap[k]? = w3.heap[k]? := fun k hk => Below.heap_setCell _ _ _ _ (by simpa using hk)
  have hbox : w3.heap[A]? = some (.cells #[.int .u8 c, .int .i64 d, iv] 90 (0, 0)) := by
    rw [keepR A hAl (fun e => (hbx2.iapart A e).1 rfl)]
    exact hbx2.box
  have hiv' : ∀ j, iv'.ownBlock = some j → iv.ownBlock = some j ∨ j = w2.heap.size + 1 := fun j hj => by
    rcases hat with e | e
    · exact Or.inl (e ▸ hj)
    · rw [e] at hj
      injection hj with hj
      exact Or.inr hj.symm
  have hTl : ∀ k, TrB tb P' NV' k → k < w2.heap.size := fun k hk => (hG.gs.tree.lt hk).1
  have hpre : ∀ k, P0.length < k → ∀ i, k ≤ i → i < P.length → P'[i]? = P[i]? := fun k _ i _ hi => hG.pre i hi
  have hkk : ∀ k ∈ ks, Tk P' P'.length D k ∧ txt P' D k = txt P D k := fun k hk => tk_go (Nat.le_of_lt hG.len.1) D k (h.kids k hk).2 (fun i h1 h2 => hG.pre i h2)
  refine ⟨hbox, ?_, ⟨?_, ?_, ⟨hbx2.apart.1, hbx2.apart.2⟩, fun j hj => ?_⟩, ?_, ⟨by have := h.len; have := hG.len; omega, hG.len.2⟩, fun i hi => ?_, fun i x hx hi j hj => ?_, fun k hk => ?_, ?_, ?_, h.abase, h.wbase⟩
  · refine hG.gs.keep (fun k hk => ?_) ?_
    · have hkA : k ≠ A := by
        rintro rfl
        rcases hk with hk | hk
        · exact hbx2.apart.2 hk
        · exact hbx2.apart.1 hk
      have hki : iv.ownBlock ≠ some k := fun e => by
        rcases hk with hk | hk
        · exact (hbx2.iapart k e).2.2 hk
        · exact (hbx2.iapart k e).2.1 hk
      rw [hset k hkA]
      exact keepR k (hG.gs.lt hk) hki
    · exact ((hG.gs.below.alloc (by omega) _).grown hg (by omega) (fun k hk => by have := hivl k hk; omega)).setCell (by simp only; omega) _
  · simp only [World.setCell, Array.getElem?_modify, hbox]
    simp
  · refine row_keep hr fun j hj => hset j ?_
    rcases hiv' j hj with e | e
    · exact (hbx2.iapart j e).1
    · omega
  · rcases hiv' j hj with e | e
    · exact hbx2.iapart j e
    · refine ⟨by omega, by omega, fun e2 => ?_⟩
      have := hTl j e2
      omega
  · refine (h.wf.trans hG.wf).above (by simp; omega) fun k hk => ?_
    rw [hset k (by omega)]
    exact keepR k (by omega) (fun e => by have := hivl k e; omega)
  · rw [hG.pre i (by have := h.len; omega)]
    exact h.pre i hi
  · by_cases hlt : i < P.length
    · rw [hG.pre i hlt] at hx
      exact h.fresh i x hx hi j hj
    · have := hG.fresh i x hx (by omega) j hj
      omega
  · rcases List.mem_append.1 hk with hk | hk
    · exact ⟨(h.kids k hk).1, (hkk k hk).1⟩
    · simp only [List.mem_singleton] at hk
      subst hk
      exact ⟨h.len.1, hG.tk⟩
  · rw [catN_append, catN_congr ks (fun k hk => (hkk k hk).2), List.length_append]
    simp only [catN, List.append_nil]
    have := h.text
    have := hG.text
    omega
  · have := h.raw
    have := hG.raw
    omega

theorem form_len (y : Nd) : (headN y).length + (tailN y).length ≤ 3 := by
  unfold headN tailN
  by_cases h1 : y.c = 101 ∨ y.c = 97 ∨ y.c = 113
  · rw [if_pos h1, if_neg (by omega), if_neg (by omega)]
    simp
  · rw [if_neg h1]
    split <;> simp

/- the node is written: it has grown -/
theorem gl_end {w0 w : World} {tb rb : Nat} {V : Value} {P0 : List Nd} {N0 : Value} {M A c d D : Nat} {wr : World} {P : List Nd} {g pc : Nat} {m m0 : Nat} {iv : Value} {ks : List Nat} (h : GL w0 w tb rb V P0 N0 M A c d D wr P (.slice (some ⟨g, 0, none⟩) P.length pc) m iv ks) (hf : form ⟨c, d, iv, ks⟩) (hM : M ≤ m0 + 10 ^ (D + 1)) :
    Grown w0 w tb rb V P0 N0 m0 (D + 1) (((wr.setCell ⟨g, P0.length * 3, none⟩ (.int .u8 c)).setCell ⟨g, P0.length * 3 + 1, none⟩ (.int .i64 d)).setCell ⟨g, P0.length * 3 + 2, none⟩ iv) (P.set P0.length ⟨c, d, iv, ks⟩) (.slice (some ⟨g, 0, none⟩) P.length pc) m := by
  have hn := h.len.1
  have hB := h.wbase
  have hset : ∀ i, i ≠ P0.length → (P.set P0.length ⟨c, d, iv, ks⟩)[i]? = P[i]? := fun i hi => List.getElem?_set_ne (fun e => hi e.symm)
  have hat : (P.set P0.length ⟨c, d, iv, ks⟩)[P0.length]? = some ⟨c, d, iv, ks⟩ := List.getElem?_set_self hn
  obtain ⟨h1, h2⟩ := gs_set (y := ⟨c, d, iv, ks⟩) h.gs hn (row_base h.bx.row hB) (fun j hj => by
    obtain ⟨_, a2, a3⟩ := h.bx.iapart j hj
    exact ⟨fun e => a3 (Or.inl e), a2, fun e => a3 (Or.inr (Or.inl (by rw [e]; rfl)))⟩)
  have hlen : (P.set P0.length ⟨c, d, iv, ks⟩).length = P.length := List.length_set
  have hkk : ∀ k ∈ ks, Tk (P.set P0.length ⟨c, d, iv, ks⟩) P.length D k ∧ txt (P.set P0.length ⟨c, d, iv, ks⟩) D k = txt P D k := fun k hk => tk_go (Nat.le_refl _) D k (h.kids k hk).2 (fun i h1 h2 => hset i (by have := (h.kids k hk).1; omega))
  refine ⟨h1, h.wf.trans h2, by rw [hlen]; exact h.len, fun i hi => ?_, fun i x hx hi j hj => ?_, ?_, ?_, ?_⟩
  · rw [hset i (by omega)]
    exact h.pre i hi
  · by_cases he : i = P0.length
    · subst he
      rw [hat] at hx
      cases hx
      exact (h.bx.row.lt j hj).1
    · rw [hset i he] at hx
      exact h.fresh i x hx hi j hj
  · rw [hlen]
    exact ⟨hn, _, hat, hf, fun k hk => ⟨(h.kids k hk).1, (hkk k hk).1⟩⟩
  · rw [txt_some hat, hlen]
    simp only
    rw [catN_congr ks (fun k hk => (hkk k hk).2)]
    have h3 := form_len ⟨c, d, iv, ks⟩
    have h4 := h.text
    simp only [List.length_append] at h3 ⊢
    omega
  · have := h.raw
    omega

end Go.Proofs.Ytblomippkddgiaa.V

/-
  The law's 'grow': its walk, a node without kids.
-/
namespace Go.Proofs.Ytblomippkddgiaa.V
open Go.RowKit

theorem gl_start {w0 w wb : World} {tb rb : Nat} {V : Value} {P0 : List Nd} {N0 NV : Value} {M A c d D m : Nat} (h : Gs w0 tb rb V (P0 ++ [zeroNd]) NV m wb) (hw : Wf rb tb N0 NV w wb) (hP : P0.length ≤ 8) (hA : A = wb.heap.size) (hM : m ≤ M) (h0 : w0.heap.size ≤ w.heap.size) :
    GL w0 w tb rb V P0 N0 M A c d D (wb.alloc (.cells #[.int .u8 c, .int .i64 d, .slice none 0 0] 90)) (P0 ++ [zeroNd]) NV m (.slice none 0 0) [] := by
  subst hA
  have hb : Below wb.heap.size wb (wb.alloc (.cells #[.int .u8 c, .int .i64 d, .slice none 0 0] 90)) := (Below.refl _ _).alloc (Nat.le_refl _) _
  have hrl := lt_of_block h.raw
  refine ⟨h.go hb, ⟨?_, World.ownsRow_nil _ _ _ _, ⟨by omega, fun e => by have := (h.tree.lt e).1; omega⟩, fun j hj => by simp [Value.ownBlock] at hj⟩, hw.trans (Wf.of_below hb), ⟨by simp only [List.length_append, List.length_singleton]; omega, by simp only [List.length_append, List.length_singleton]; omega⟩, fun i hi => List.getElem?_append_left hi, fun i x hx hi j hj => ?_, fun k hk => by simp at hk, by simp [catN], hM, hw.size, h0⟩
  · show ((wb.heap.push _)[wb.heap.size]?) = _
    rw [Array.getElem?_push_size]
  · rw [List.getElem?_append_right hi] at hx
    have : x = zeroNd := by
      have h1 := (List.getElem?_eq_some_iff.1 hx).1
      simp at h1
      rw [h1] at hx
      simpa using hx.symm
    subst this
    simp [zeroNd, Value.ownBlock] at hj
/- the letter, the digit of the node that is being made is set -/
theorem gl_box {w0 w : World} {tb rb : Nat} {V : Value} {P0 : List Nd} {N0 : Value} {M A c d c' d' D : Nat} {wr w' : World} {P : List Nd} {NV : Value} {m : Nat} {iv : Value} {ks : List Nat} (h : GL w0 w tb rb V P0 N0 M A c d D wr P NV m iv ks) (hb : w'.heap[A]? = some (.cells #[.int .u8 c', .int .i64 d', iv] 90 (0, 0))) (hk : ∀ k, k ≠ A → w'.heap[k]? = wr.heap[k]?) (hs : w'.heap.size = wr.heap.size) (hbl : Below w0.heap.size w0 w') : GL w0 w tb rb V P0 N0 M A c' d' D w' P NV m iv ks := by
  have hA := h.abase
  refine ⟨h.gs.keep (fun k hk' => hk k ?_) hbl, ⟨hb, row_keep h.bx.row (fun j hj => hk j (h.bx.iapart j hj).1), h.bx.apart, h.bx.iapart⟩, h.wf.above (by omega) (fun k hk' => hk k (by omega)), h.len, h.pre, h.fresh, h.kids, h.text, h.raw, h.abase, h.wbase⟩
  rintro rfl
  rcases hk' with hk' | hk'
  · exact h.bx.apart.2 hk'
  · exact h.bx.apart.1 hk'
theorem gl_letter {w0 w : World} {tb rb : Nat} {V : Value} {P0 : List Nd} {N0 : Value} {M A c d D : Nat} {wr : World} {P : List Nd} {NV : Value} {m : Nat} {iv : Value} {ks : List Nat} (h : GL w0 w tb rb V P0 N0 M A c d D wr P NV m iv ks) (c' : Nat) : GL w0 w tb rb V P0 N0 M A c' d D (wr.setCell ⟨A, 0, none⟩ (.int .u8 c')) P NV m iv ks := by
  refine gl_box h ?_ (fun k hk => Below.heap_setCell _ _ _ _ (by simpa using hk)) (by simp) (h.gs.below.setCell (by have := h.abase; have := h.wbase; simp only; omega) _)
  simp only [World.setCell, Array.getElem?_modify, h.bx.box]
  simp
theorem gl_digit {w0 w : World} {tb rb : Nat} {V : Value} {P0 : List Nd} {N0 : Value} {M A c d D : Nat} {wr : World} {P : List Nd} {NV : Value} {m : Nat} {iv : Value} {ks : List Nat} (h : GL w0 w tb rb V P0 N0 M A c d D wr P NV m iv ks) (d' : Nat) : GL w0 w tb rb V P0 N0 M A c d' D (wr.setCell ⟨A, 1, none⟩ (.int .i64 d')) P NV m iv ks := by
  refine gl_box h ?_ (fun k hk => Below.heap_setCell _ _ _ _ (by simpa using hk)) (by simp) (h.gs.below.setCell (by have := h.abase; have := h.wbase; simp only; omega) _)
  simp only [World.setCell, Array.getElem?_modify, h.bx.box]
  simp

/- what the end of 'grow' sees -/
structure GSeen (tb n A c d : Nat) (iv : Value) (g pn pc : Nat) (wr : World) : Prop where
  t0 : wr.cell? ⟨tb, 0, none⟩ = some (.slice (some ⟨g, 0, none⟩) pn pc)
  lt : n < pn
  small : pn ≤ 9
  b0 : wr.cell? ⟨A, 0, none⟩ = some (.int .u8 c)
  b1 : wr.cell? ⟨A, 1, none⟩ = some (.int .i64 d)
  b2 : wr.cell? ⟨A, 2, none⟩ = some iv
  z : ∀ o, wr.frozen? ⟨A, o, none⟩ = false
  n0 : ∃ u, wr.cell? ⟨g, n * 3, none⟩ = some u
  n1 : ∃ u, wr.cell? ⟨g, n * 3 + 1, none⟩ = some u
  n2 : ∃ u, wr.cell? ⟨g, n * 3 + 2, none⟩ = some u
  gz : ∀ o, wr.frozen? ⟨g, o, none⟩ = false
  lts : tb < wr.heap.size ∧ A < wr.heap.size ∧ g < wr.heap.size
theorem gl_seen {w0 w : World} {tb rb : Nat} {V : Value} {P0 : List Nd} {N0 : Value} {M A c d D : Nat} {wr : World} {P : List Nd} {NV : Value} {m : Nat} {iv : Value} {ks : List Nat} (h : GL w0 w tb rb V P0 N0 M A c d D wr P NV m iv ks) : ∃ g pc, NV = .slice (some ⟨g, 0, none⟩) P.length pc ∧ GSeen tb P0.length A c d iv g P.length pc wr := by
  have hn := h.len
  rcases h.gs.tree.row.2 with ⟨_, h0⟩ | ⟨g, pc, cur, hv, _, hg, hnc, _, hcs, _⟩
  · omega
  · subst hv
    refine ⟨g, pc, rfl, by simp [World.cell?, h.gs.tree.cell], hn.1, hn.2, by simp [World.cell?, h.bx.box], by simp [World.cell?, h.bx.box], by simp [World.cell?, h.bx.box], fun o => by simp [World.frozen?, h.bx.box], ⟨cur[P0.length * 3]'(by omega), ?_⟩, ⟨cur[P0.length * 3 + 1]'(by omega), ?_⟩, ⟨cur[P0.length * 3 + 2]'(by omega), ?_⟩, fun o => by simp [World.frozen?, hg], lt_of_block h.gs.tree.cell, lt_of_block h.bx.box, lt_of_block hg⟩
    · simp [World.cell?, hg, Array.getElem?_eq_getElem (show P0.length * 3 < cur.size by omega)]
    · simp [World.cell?, hg, Array.getElem?_eq_getElem (show P0.length * 3 + 1 < cur.size by omega)]
    · simp [World.cell?, hg, Array.getElem?_eq_getElem (show P0.length * 3 + 2 < cur.size by omega)]

/- the node's cells are written -/
theorem gl_cells {w0 w : World} {tb rb : Nat} {V : Value} {P0 : List Nd} {N0 : Value} {M A c d D : Nat} {wr : World} {P : List Nd} {NV : Value} {m : Nat} {iv : Value} {ks : List Nat} (h : GL w0 w tb rb V P0 N0 M A c d D wr P NV m iv ks) (c' d' : Nat) : GL w0 w tb rb V P0 N0 M A c' d' D (((wr.setCell ⟨A, 0, none⟩ (.int .u8 c')).setCell ⟨A, 1, none⟩ (.int .i64 d')).setCell ⟨A, 2, none⟩ iv) P NV m iv ks := by
  have h1 := gl_digit (gl_letter h c') d'
  refine gl_box h1 ?_ (fun k hk => Below.heap_setCell _ _ _ _ (by simpa using hk)) (by simp) (h1.gs.below.setCell (by have := h.abase; have := h.wbase; simp only; omega) _)
  have hb := h1.bx.box
  generalize (wr.setCell ⟨A, 0, none⟩ (.int .u8 c')).setCell ⟨A, 1, none⟩ (.int .i64 d') = wz at hb
  simp only [World.setCell, Array.getElem?_modify, hb]
  simp
theorem zero_cell {wa W wb : World} {rb m : Nat} {w0 : World} {V : Value} (hx : Nxt w0 rb V m W wb) (hne : wa.heap.size ≠ rb) (hW : W.heap[wa.heap.size]? = some (.cells #[.int .u8 0, .int .i64 0, .slice none 0 0] 90 (0, 0))) : wb.cell? ⟨wa.heap.size, 0, none⟩ = some (.int .u8 0) ∧ wb.cell? ⟨wa.heap.size, 1, none⟩ = some (.int .i64 0) ∧ wb.cell? ⟨wa.heap.size, 2, none⟩ = some (.slice none 0 0) ∧ wb.frozen? ⟨wa.heap.size, 0, none⟩ = false ∧ wb.frozen? ⟨wa.heap.size, 1, none⟩ = false ∧ wb.frozen? ⟨wa.heap.size, 2, none⟩ = false := by
  have h := (hx.keep _ hne).trans hW
  simp [World.cell?, World.frozen?, h]

theorem cells_three (w : World) : ∀ (j : Nat) (u : Value), ([.int .u8 0, .int .i64 0, .slice none 0 0] : List Value)[j]? = some u → (w.alloc (.cells #[.int .u8 0, .int .i64 0, .slice none 0 0] 90)).cell? ((⟨w.heap.size, 0, none⟩ : Addr).add j) = some u := by
  intro j u hj
  rw [Addr.add_lit, Nat.zero_add, World.cell?_alloc_new w _ _ j, ← hj, ← List.getElem?_toArray]
theorem three_one : ∀ u ∈ ([.int .u8 0, .int .i64 0, .slice none 0 0] : List Value), u.oneCell' = true := by
  intro u hu
  simp at hu
  rcases hu with rfl | rfl | rfl <;> rfl

def GrowPost (w0 w : World) (tb rb : Nat) (V : Value) (P : List Nd) (NV : Value) (m D : Nat) (e : Ending) (w' : World) : Prop := e = .returned (.int .i64 P.length) ∧ ∃ P' NV' m', Grown w0 w tb rb V P NV m D w' P' NV' m'
def GrowSaid (w0 : World) (tb rb : Nat) (V : Value) (D : Nat) : Prop := ∀ (P : List Nd) (NV : Value) (m : Nat) (w : World), Gs w0 tb rb V P NV m w → P.length ≤ 8 → m + 10 ^ D ≤ 1000000 → Calls Try.prog 18 #[.pointer (some ⟨tb, 0, none⟩), .pointer (some ⟨rb, 0, none⟩), .int .i64 D] w (GrowPost w0 w tb rb V P NV m D)

def ctail : Code → Code
  | .seq _ b => b
  | c => c
/- what is left of 'grow' once the node's letter and digit stand -/
def growRest (f : Func) : Code := ctail (ctail (ctail (ctail (ctail (ctail (f.body.getD .skip))))))
abbrev growAct (tb rb A n : Nat) (dv kv r6 : Value) (u : Nat → Value) : Act := { tmps := #[.pointer (some ⟨tb, 0, none⟩), .pointer (some ⟨rb, 0, none⟩), dv, u 3, u 4, u 5, r6, .int .i64 n, kv, .pointer (some ⟨A, 0, none⟩), u 10, u 11, u 12, u 13, u 14, u 15, u 16, u 17, u 18, u 19, u 20, u 21, u 22, u 23, u 24, u 25, u 26, u 27, u 28, u 29, u 30, u 31, u 32, u 33, u 34, u 35, u 36, u 37, u 38, u 39, u 40, u 41, u 42, u 43, u 44, u 45, u 46, u 47, u 48, u 49, u 50, u 51, u 52, u 53, u 54, u 55, u 56, u 57, u 58, u 59, u 60, u 61, u 62, u 63, u 64, u 65, u 66, u 67, u 68, u 69, u 70, u 71, u 72, u 73, u 74, u 75, u 76, u 77, u 78, u 79, u 80, u 81, u 82, u 83, u 84, u 85, u 86, u 87, u 88, u 89, u 90, u 91, u 92, u 93, u 94, u 95, u 96, u 97, u 98, u 99, u 100, u 101, u 102, u 103, u 104, u 105, u 106, u 107], defers := [] }

set_option maxRecDepth 100000 in
set_option maxHeartbeats 4000000 in
theorem rest_b (w0 w : World) (tb rb : Nat) (V : Value) (P0 : List Nd) (N0 : Value) (m0 M A d D : Nat) (W : World) (P : List Nd) (NV : Value) (m : Nat) (dv : Value) (u : Nat → Value) (h : GL w0 w tb rb V P0 N0 M A 98 d D W P NV m (.slice none 0 0) []) (hM : M ≤ m0 + 10 ^ (D + 1)) :
    Code.wp Try.prog (growRest Try.f18) (bodyPost Try.prog Try.f18 (GrowPost w0 w tb rb V P0 N0 m0 (D + 1))) (growAct tb rb A P0.length dv (.int .i64 0) (.int .i64 0) u) W := by
  obtain ⟨g, pc, rfl, hS⟩ := gl_seen h
  obtain ⟨t0, hlt, hsm, b0, b1, b2, bz, ⟨u0, n0⟩, ⟨u1, n1⟩, ⟨u2, n2⟩, gz, hl1, hl2, hl3⟩ := hS
  have z0 := gz (P0.length * 3)
  have z1 := gz (P0.length * 3 + 1)
  have z2 := gz (P0.length * 3 + 2)
  have HE := hide (gl_end h.drew (Or.inl ⟨Or.inl rfl, rfl⟩) hM)
  clear h
  unfold growRest
  simp only [Try.f18, Option.getD_some, ctail]
  go_wp2
  go_loopw [] (fun wr => wr = W) (fun _ => 0)
  case atStart => rfl
  case round =>
    subst hrel
    go_wp2
    go_region
    all_goals go_wp2
    all_goals go_ret
    all_goals exact ⟨rfl, _, _, _, unhide HE⟩

set_option maxRecDepth 100000 in
set_option maxHeartbeats 4000000 in
theorem rest_c (w0 w : World) (tb rb : Nat) (V : Value) (P0 : List Nd) (N0 : Value) (m0 M A d D : Nat) (W : World) (P : List Nd) (NV : Value) (m : Nat) (dv : Value) (u : Nat → Value) (h : GL w0 w tb rb V P0 N0 M A 99 d D W P NV m (.slice none 0 0) []) (hM : M ≤ m0 + 10 ^ (D + 1)) :
    Code.wp Try.prog (growRest Try.f18) (bodyPost Try.prog Try.f18 (GrowPost w0 w tb rb V P0 N0 m0 (D + 1))) (growAct tb rb A P0.length dv (.int .i64 1) (.int .i64 0) u) W := by
  obtain ⟨g, pc, rfl, hS⟩ := gl_seen h
  obtain ⟨t0, hlt, hsm, b0, b1, b2, bz, ⟨u0, n0⟩, ⟨u1, n1⟩, ⟨u2, n2⟩, gz, hl1, hl2, hl3⟩ := hS
  have z0 := gz (P0.length * 3)
  have z1 := gz (P0.length * 3 + 1)
  have z2 := gz (P0.length * 3 + 2)
  have HE := hide (gl_end h.drew (Or.inl ⟨Or.inr (Or.inl rfl), rfl⟩) hM)
  clear h
  unfold growRest
  simp only [Try.f18, Option.getD_some, ctail]
  go_wp2
  go_loopw [] (fun wr => wr = W) (fun _ => 0)
  case atStart => rfl
  case round =>
    subst hrel
    go_wp2
    go_region
    all_goals go_wp2
    all_goals go_ret
    all_goals exact ⟨rfl, _, _, _, unhide HE⟩

set_option maxRecDepth 100000 in
set_option maxHeartbeats 4000000 in
theorem rest_i (w0 w : World) (tb rb : Nat) (V : Value) (P0 : List Nd) (N0 : Value) (m0 M A d D : Nat) (W : World) (P : List Nd) (NV : Value) (m : Nat) (dv : Value) (u : Nat → Value) (h : GL w0 w tb rb V P0 N0 M A 105 d D W P NV m (.slice none 0 0) []) (hM : M ≤ m0 + 10 ^ (D + 1)) :
    Code.wp Try.prog (growRest Try.f18) (bodyPost Try.prog Try.f18 (GrowPost w0 w tb rb V P0 N0 m0 (D + 1))) (growAct tb rb A P0.length dv (.int .i64 2) (.int .i64 0) u) W := by
  obtain ⟨g, pc, rfl, hS⟩ := gl_seen h
  obtain ⟨t0, hlt, hsm, b0, b1, b2, bz, ⟨u0, n0⟩, ⟨u1, n1⟩, ⟨u2, n2⟩, gz, hl1, hl2, hl3⟩ := hS
  have z0 := gz (P0.length * 3)
  have z1 := gz (P0.length * 3 + 1)
  have z2 := gz (P0.length * 3 + 2)
  have HE := hide (gl_end h.drew (Or.inl ⟨Or.inr (Or.inr (Or.inl rfl)), rfl⟩) hM)
  clear h
  unfold growRest
  simp only [Try.f18, Option.getD_some, ctail]
  go_wp2
  go_loopw [] (fun wr => wr = W) (fun _ => 0)
  case atStart => rfl
  case round =>
    subst hrel
    go_wp2
    go_region
    all_goals go_wp2
    all_goals go_ret
    all_goals exact ⟨rfl, _, _, _, unhide HE⟩

set_option maxRecDepth 100000 in
set_option maxHeartbeats 4000000 in
theorem rest_e (w0 w : World) (tb rb : Nat) (V : Value) (P0 : List Nd) (N0 : Value) (m0 M A d D : Nat) (W : World) (P : List Nd) (NV : Value) (m : Nat) (dv : Value) (u : Nat → Value) (h : GL w0 w tb rb V P0 N0 M A 101 d D W P NV m (.slice none 0 0) []) (hM : M ≤ m0 + 10 ^ (D + 1)) (hd1 : 1 ≤ d) (hd9 : d ≤ 9) :
    Code.wp Try.prog (growRest Try.f18) (bodyPost Try.prog Try.f18 (GrowPost w0 w tb rb V P0 N0 m0 (D + 1))) (growAct tb rb A P0.length dv (.int .i64 4) (.int .i64 0) u) W := by
  obtain ⟨g, pc, rfl, hS⟩ := gl_seen h
  obtain ⟨t0, hlt, hsm, b0, b1, b2, bz, ⟨u0, n0⟩, ⟨u1, n1⟩, ⟨u2, n2⟩, gz, hl1, hl2, hl3⟩ := hS
  have z0 := gz (P0.length * 3)
  have z1 := gz (P0.length * 3 + 1)
  have z2 := gz (P0.length * 3 + 2)
  have HE := hide (gl_end h.drew (Or.inr (Or.inl ⟨rfl, hd1, hd9, rfl⟩)) hM)
  clear h
  unfold growRest
  simp only [Try.f18, Option.getD_some, ctail]
  go_wp2
  go_loopw [] (fun wr => wr = W) (fun _ => 0)
  case atStart => rfl
  case round =>
    subst hrel
    go_wp2
    go_region
    all_goals go_wp2
    all_goals go_ret
    all_goals exact ⟨rfl, _, _, _, unhide HE⟩

set_option maxRecDepth 100000 in
set_option maxHeartbeats 4000000 in
theorem rest_s (w0 w : World) (tb rb : Nat) (V : Value) (P0 : List Nd) (N0 : Value) (m0 M A d D : Nat) (W : World) (P : List Nd) (NV : Value) (m : Nat) (dv : Value) (u : Nat → Value) (h : GL w0 w tb rb V P0 N0 M A 101 d D W P NV m (.slice none 0 0) []) (hM : M ≤ m0 + 10 ^ (D + 1)) :
    Code.wp Try.prog (growRest Try.f18) (bodyPost Try.prog Try.f18 (GrowPost w0 w tb rb V P0 N0 m0 (D + 1))) (growAct tb rb A P0.length dv (.int .i64 3) (.int .i64 0) u) W := by
  obtain ⟨_, _, _, hS0⟩ := gl_seen h
  have a0 := hS0.b0
  have az := hS0.z 0
  have hA := hS0.lts.2.1
  have h' := gl_letter h 115
  obtain ⟨g, pc, rfl, hS⟩ := gl_seen h'
  obtain ⟨t0, hlt, hsm, b0, b1, b2, bz, ⟨u0, n0⟩, ⟨u1, n1⟩, ⟨u2, n2⟩, gz, hl1, hl2, hl3⟩ := hS
  have z0 := gz (P0.length * 3)
  have z1 := gz (P0.length * 3 + 1)
  have z2 := gz (P0.length * 3 + 2)
  have HE := hide (gl_end h'.drew (Or.inl ⟨Or.inr (Or.inr (Or.inr rfl)), rfl⟩) hM)
  obtain ⟨W', hW'⟩ : ∃ W', W.setCell ⟨A, 0, none⟩ (.int .u8 (115 : Nat)) = W' := ⟨_, rfl⟩
  have hW2 : W.setCell ⟨A, 0, none⟩ (.int .u8 115) = W' := hW'
  rw [hW'] at t0 b0 b1 b2 n0 n1 n2 z0 z1 z2 HE
  clear h h' gz bz hS0 hl1 hl2 hl3 hW'
  unfold growRest
  simp only [Try.f18, Option.getD_some, ctail]
  go_wp2
  go_loopw [] (fun wr => wr = W') (fun _ => 0)
  case atStart => rfl
  case round =>
    subst hrel
    go_wp2
    go_region
    all_goals go_wp2
    all_goals go_ret
    all_goals exact ⟨rfl, _, _, _, unhide HE⟩

end Go.Proofs.Ytblomippkddgiaa.V
