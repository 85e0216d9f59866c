/-
  The book's 'take': a list that came out is written full of marks, and three are made of it.
-/
import Derived.Test.YtblomippkddgiaaVSame
import Derived.Deep.RegionLaw
import Derived.Deep.RegionWith
namespace Go.Proofs.Ytblomippkddgiaa.V
open Go.RowKit

theorem info73 : (Try.prog.info? 85).map (fun i => (i.zero, i.size, i.bytes)) = some (some (.agg #[.slice none 0 0, .slice none 0 0, .slice none 0 0, .slice none 0 0, .int .i64 0, .int .i64 0, .string ⟨#[]⟩]), 7, 128) := by kernel_rfl

def markStr : ByteArray := ⟨#[109, 97, 114, 107]⟩

/- while the marks are written: number i is next -/
structure TkI (w0 w : World) (O : Value) (n : Nat) (x : It) (i : Nat) (wr : World) : Prop where
  size : wr.heap.size = w.heap.size + 1
  box : wr.heap[w.heap.size]? = some (.cells #[.int .i64 x.1, .string x.2] 31 (0, 0))
  keep : ∀ k, k < w.heap.size → O.ownBlock ≠ some k → wr.heap[k]? = w.heap[k]?
  below : Below w0.heap.size w0 wr
  row : (O = .slice none 0 0 ∧ n = 0) ∨ ∃ G cap, O = .slice (some ⟨G, 0, none⟩) n cap ∧ G < w.heap.size ∧ w0.heap.size ≤ G ∧ Lent wr G cap 0 (List.replicate i x) ∧ n ≤ cap ∧ cap ≤ maxLen

theorem TkI.step {w0 w : World} {O : Value} {n : Nat} {x : It} {i : Nat} {wr : World} (h : TkI w0 w O n x i wr) (hi : i < n) : ∃ G cap, O = .slice (some ⟨G, 0, none⟩) n cap ∧ Lent wr G cap 0 (List.replicate i x) ∧ i < cap ∧ G < w.heap.size ∧
    TkI w0 w O n x (i + 1) ((wr.setCell ⟨G, i * 2, none⟩ (.int .i64 x.1)).setCell ⟨G, i * 2 + 1, none⟩ (.string x.2)) := by
  rcases h.row with ⟨_, h0⟩ | ⟨G, cap, hO, hG, hG0, hL, hc, hm⟩
  · omega
  · have hne : ∀ k, k ≠ G → ((wr.setCell ⟨G, i * 2, none⟩ (.int .i64 x.1)).setCell ⟨G, i * 2 + 1, none⟩ (.string x.2)).heap[k]? = wr.heap[k]? := fun k hk => by
      rw [Below.heap_setCell _ _ _ _ (by simpa using hk), Below.heap_setCell _ _ _ _ (by simpa using hk)]
    have hL2 := hL.snoc (by rw [List.length_replicate]; omega) x
    rw [List.length_replicate, show List.replicate i x ++ [x] = List.replicate (i + 1) x by simp [List.replicate_succ']] at hL2
    refine ⟨G, cap, hO, hL, by omega, hG, by simpa using h.size, ?_, fun k hk hkO => ?_, (h.below.setCell (by simpa using hG0) _).setCell (by simpa using hG0) _, Or.inr ⟨G, cap, hO, hG, hG0, hL2, hc, hm⟩⟩
    · rw [hne _ (by omega)]
      exact h.box
    · rw [hne k (fun e => hkO (by rw [hO, e]; rfl))]
      exact h.keep k hk hkO

theorem box_cell {w : World} {A : Nat} {a c : Value} (h : w.heap[A]? = some (.cells #[a, c] 31 (0, 0))) : w.cell? ⟨A, 0, none⟩ = some a ∧ w.cell? ⟨A, 1, none⟩ = some c := by
  constructor <;> simp [World.cell?, h]

/- the marks are written; lists are made -/
structure TkM (w0 w : World) (O : Value) (x : It) (B : Nat) (Ts : List (Value × Nat)) (wr : World) : Prop where
  size : w.heap.size < wr.heap.size
  box : wr.heap[w.heap.size]? = some (.cells #[.int .i64 x.1, .string x.2] 31 (0, 0))
  keep : ∀ k, k < w.heap.size → O.ownBlock ≠ some k → wr.heap[k]? = w.heap[k]?
  below : Below w0.heap.size w0 wr
  marks : ∀ t ∈ Ts, Marks B x wr t.1 t.2 ∧ (t.1.ownBlock = O.ownBlock ∨ ∃ j, t.1.ownBlock = some j ∧ w.heap.size < j)
theorem TkM.drewN {w0 w : World} {O : Value} {x : It} {B : Nat} {Ts : List (Value × Nat)} {wr : World} (h : TkM w0 w O x B Ts wr) (q : Nat) : TkM w0 w O x B Ts (wr.drewN q) := ⟨h.size, h.box, h.keep, below_drewN h.below q, h.marks⟩

theorem tk_end {w0 w : World} {O : Value} {n : Nat} {x : It} {wr : World} {B : Nat} (h : TkI w0 w O n x n wr) (hB : ∀ j, O.ownBlock = some j → B ≤ j) : TkM w0 w O x B [(O, n)] wr := by
  refine ⟨by rw [h.size]; omega, h.box, h.keep, h.below, fun t ht => ?_⟩
  simp only [List.mem_singleton] at ht
  subst ht
  refine ⟨?_, Or.inl rfl⟩
  rcases h.row with ⟨rfl, rfl⟩ | ⟨G, cap, hO, hG, hG0, hL, hc, hm⟩
  · exact World.ownsRow_nil _ _ _ _
  · subst hO
    obtain ⟨cur, hg, hs, hx⟩ := hL
    refine ⟨marks_length x n, Or.inr ⟨G, cap, cur, rfl, hB G rfl, hg, hc, hm, hs, ?_⟩⟩
    rw [take_marks]
    intro j hj
    obtain ⟨r0, r1⟩ := hx (j / 2) x (Nat.zero_le _) (by rw [List.getElem?_replicate, if_pos (by omega)])
    unfold mk1
    by_cases he : j % 2 = 0
    · rw [if_pos he]
      rw [show j / 2 * 2 = j by omega] at r0
      exact r0
    · rw [if_neg he]
      rw [show j / 2 * 2 + 1 = j by omega] at r1
      exact r1

theorem tk_more {w0 w : World} {O : Value} {x : It} {B : Nat} {Ts : List (Value × Nat)} {wr : World} (h : TkM w0 w O x B Ts wr) {n : Nat} (hin : (O, n) ∈ Ts) (m : Nat) (hn : n + m ≤ 1000000) (hB : B ≤ w.heap.size) (hO : ∀ j, O.ownBlock = some j → j < w.heap.size ∧ w0.heap.size ≤ j) :
    ∃ a c w', (Builtin.append_ #[27, 27] 27 #[O, .slice (some ⟨wr.heap.size, 0, none⟩) m m]).run Try.prog (wr.alloc (.cells (marks x m).toArray 31)) = .ok (.slice a (n + m) c) w' ∧ TkM w0 w O x B (Ts ++ [(.slice a (n + m) c, n + m)]) w' := by
  have hb1 : Below wr.heap.size wr (wr.alloc (.cells (marks x m).toArray 31)) := (Below.refl _ _).alloc (Nat.le_refl _) _
  have hws : (wr.alloc (.cells (marks x m).toArray 31)).heap.size = wr.heap.size + 1 := by simp
  have hsz := h.size
  have hs0 := h.below.size
  obtain ⟨v', w', hr, hM, hg, hat, hall⟩ := more x B (wr.alloc (.cells (marks x m).toArray 31)) O n m m ⟨wr.heap.size, 0, none⟩ ((h.marks _ hin).1.below hb1) (fun j u hj => by
    rw [Addr.add_lit, Nat.zero_add, World.cell?_alloc_new wr _ _ j, List.getElem?_toArray]
    exact hj) hn (by omega)
  have hgs := hg.size
  have keepW : ∀ k, k < wr.heap.size → O.ownBlock ≠ some k → w'.heap[k]? = wr.heap[k]? := fun k hk hne => by
    rw [hg.block k (by omega) (fun e => hne e.symm)]
    exact Below.heap_alloc _ _ _ hk
  obtain ⟨a, n', c, hsh⟩ := row_shape hM
  subst hsh
  have hn' : n' = n + m := by
    rcases hM.2 with ⟨hv, h0⟩ | ⟨g, cap, cur, hv, _⟩
    · cases hv
      omega
    · cases hv
      rfl
  subst hn'
  refine ⟨a, c, w', hr, by omega, ?_, fun k hk hne => ?_, (h.below.alloc (by omega) _).grown hg (by omega) (fun k hk => (hO k hk).2), fun t ht => ?_⟩
  · rw [keepW _ hsz (fun e => by have := (hO _ e).1; omega)]
    exact h.box
  · rw [keepW k (by omega) hne]
    exact h.keep k hk hne
  · rcases List.mem_append.1 ht with ht | ht
    · exact ⟨hall _ _ ((h.marks t ht).1.below hb1), (h.marks t ht).2⟩
    · simp only [List.mem_singleton] at ht
      subst ht
      refine ⟨hM, ?_⟩
      rcases hat with e | e
      · exact Or.inl e
      · exact Or.inr ⟨_, e, by omega⟩

/- what is kept of a list -/
structure Kp where
  l : Value
  g1 : Value
  g2 : Value
  g3 : Value
  n : Nat
  x : It
def Kp.cells (k : Kp) : List Value := [k.l, k.g1, k.g2, k.g3, .int .i64 k.n, .int .i64 k.x.1, .string k.x.2]
def Kp.lists (k : Kp) : List (Value × Nat) := [(k.l, k.n), (k.g1, k.n + 1), (k.g2, k.n + 2), (k.g3, k.n + 3)]
def ents : List Kp → List Value
  | [] => []
  | k :: L => k.cells ++ ents L
theorem ents_snoc : ∀ (L : List Kp) (k : Kp), ents (L ++ [k]) = ents L ++ k.cells
  | [], k => by simp [ents]
  | y :: L, k => by simp only [List.cons_append, ents, ents_snoc L k, List.append_assoc]
/- the book -/
structure Bk (w0 : World) (b : Nat) (L : List Kp) (K : Value) (w : World) : Prop where
  cell : w.heap[b]? = some (.cells #[K] 38 (0, 0))
  row : w.ownsRow w0.heap.size 85 7 K L.length (ents L)
  b0 : w0.heap.size ≤ b
  kb : K.ownBlock ≠ some b
  below : Below w0.heap.size w0 w
  good : ∀ k ∈ L, k.n ≤ 100000 ∧ ∀ t ∈ k.lists, (∃ B, Marks B k.x w t.1 t.2) ∧ t.1.ownBlock ≠ some b ∧ ∀ j, t.1.ownBlock = some j → K.ownBlock ≠ some j
theorem Bk.go {w0 : World} {b : Nat} {L : List Kp} {K : Value} {w w' : World} (h : Bk w0 b L K w) (hb : Below w.heap.size w w') : Bk w0 b L K w' :=
  ⟨by rw [hb.block b (lt_of_block h.cell)]; exact h.cell, row_below' h.row hb, h.b0, h.kb, h.below.trans (hb.mono h.below.size), fun k hk => ⟨(h.good k hk).1, fun t ht => by
    obtain ⟨⟨B, hm⟩, r⟩ := (h.good k hk).2 t ht
    exact ⟨⟨B, hm.below hb⟩, r⟩⟩⟩

theorem row_keep {w w' : World} {B n size : Nat} {e : TypeId} {v : Value} {xs : List Value} (h : w.ownsRow B e size v n xs) (hk : ∀ g, v.ownBlock = some g → w'.heap[g]? = w.heap[g]?) : w'.ownsRow B e size v n xs := by
  obtain ⟨hl, h⟩ := h
  refine ⟨hl, ?_⟩
  rcases h with h | ⟨g, cap, cur, rfl, hb, hg, r⟩
  · exact Or.inl h
  · exact Or.inr ⟨g, cap, cur, rfl, hb, by rw [hk g rfl]; exact hg, r⟩

/- the entry is appended, the book holds the new list of entries -/
theorem bk_push {w0 w wr w5 : World} {b B : Nat} {L : List Kp} {K K' O g1 g2 g3 : Value} {n : Nat} {x : It} {o : Obj} (h : Bk w0 b L K w) (hT : TkM w0 w O x B [(O, n), (g1, n + 1), (g2, n + 2), (g3, n + 3)] wr) (hn : n ≤ 100000)
    (hO : ∀ j, O.ownBlock = some j → j < w.heap.size ∧ w0.heap.size ≤ j ∧ j ≠ b ∧ K.ownBlock ≠ some j ∧ ∀ k ∈ L, ∀ t ∈ k.lists, t.1.ownBlock ≠ some j)
    (hown : w5.ownsRow w0.heap.size 85 7 K' (L.length + 1) (ents L ++ (Kp.mk O g1 g2 g3 n x).cells)) (hg : (wr.alloc o).grownBy w5 K.ownBlock) (hat : K'.ownBlock = K.ownBlock ∨ K'.ownBlock = some (wr.heap.size + 1)) :
    w5.heap[b]? = some (.cells #[K] 38 (0, 0)) ∧ Bk w0 b (L ++ [Kp.mk O g1 g2 g3 n x]) K' (w5.setCell ⟨b, 0, none⟩ K') := by
  have hbl := lt_of_block h.cell
  have hs0 := h.below.size
  have hsz := hT.size
  have hgs := hg.size
  have hws : (wr.alloc o).heap.size = wr.heap.size + 1 := by simp
  have keepR : ∀ k, k < wr.heap.size → K.ownBlock ≠ some k → w5.heap[k]? = wr.heap[k]? := fun k hk hne => by
    rw [hg.block k (by omega) (fun e => hne e.symm)]
    exact Below.heap_alloc _ _ _ hk
  have keepW : ∀ k, k < w.heap.size → O.ownBlock ≠ some k → K.ownBlock ≠ some k → w5.heap[k]? = w.heap[k]? := fun k hk h1 h2 => (keepR k (by omega) h2).trans (hT.keep k hk h1)
  have hc5 : w5.heap[b]? = some (.cells #[K] 38 (0, 0)) := by
    rw [keepW b hbl (fun e => (hO b e).2.2.1 rfl) h.kb]
    exact h.cell
  have hset : ∀ k, k ≠ b → (w5.setCell ⟨b, 0, none⟩ K').heap[k]? = w5.heap[k]? := fun k hk => Below.heap_setCell _ _ _ _ (by simpa using hk)
  have hK'b : K'.ownBlock ≠ some b := by
    rcases hat with e | e
    · rw [e]; exact h.kb
    · rw [e]
      intro e2
      injection e2
      omega
  have hKlt : ∀ j, K.ownBlock = some j → w0.heap.size ≤ j ∧ j < w.heap.size := fun j hj => h.row.lt j hj
  refine ⟨hc5, ?_, ?_, h.b0, hK'b, ?_, fun k hk => ?_⟩
  · simp only [World.setCell, Array.getElem?_modify, hc5]
    simp
  · rw [List.length_append, ents_snoc]
    refine row_keep hown fun g hgk => hset g (fun e => hK'b (by rw [← e]; exact hgk))
  · exact ((hT.below.alloc (by omega) o).grown hg (by omega) (fun k hk => (hKlt k hk).1)).setCell (by simpa using h.b0) _
  · rcases List.mem_append.1 hk with hk | hk
    · obtain ⟨hkn, hkt⟩ := h.good k hk
      refine ⟨hkn, fun t ht => ?_⟩
      obtain ⟨⟨Bt, hm⟩, hne, hKj⟩ := hkt t ht
      refine ⟨⟨Bt, row_keep hm fun g hgk => ?_⟩, hne, fun j hj => ?_⟩
      · have hlt := (hm.lt g hgk).2
        rw [hset g (fun e => hne (by rw [← e]; exact hgk))]
        exact keepW g hlt (fun e => (hO g e).2.2.2.2 k hk t ht hgk) (hKj g hgk)
      · have hlt := (hm.lt j hj).2
        rcases hat with e | e
        · rw [e]; exact hKj j hj
        · rw [e]
          intro e2
          injection e2
          omega
    · simp only [List.mem_singleton] at hk
      subst hk
      refine ⟨hn, fun t ht => ?_⟩
      obtain ⟨hm, hblk⟩ := hT.marks t ht
      have hne : t.1.ownBlock ≠ some b ∧ ∀ j, t.1.ownBlock = some j → K.ownBlock ≠ some j := by
        rcases hblk with e | ⟨j, e, hj⟩
        · rw [e]
          exact ⟨fun e2 => (hO b e2).2.2.1 rfl, fun j hj => (hO j hj).2.2.2.1⟩
        · rw [e]
          refine ⟨fun e2 => by injection e2; omega, fun j' hj' e2 => ?_⟩
          injection hj' with hj'
          subst hj'
          have := (hKlt j e2).2
          omega
      refine ⟨⟨B, row_keep hm fun g hgk => ?_⟩, hne.1, fun j hj => ?_⟩
      · have hlt := (hm.lt g hgk).2
        rw [hset g (fun e => hne.1 (by rw [← e]; exact hgk))]
        exact keepR g hlt (hne.2 g hgk)
      · have hlt := (hm.lt j hj).2
        rcases hat with e | e
        · rw [e]; exact hne.2 j hj
        · rw [e]
          intro e2
          injection e2
          omega

end Go.Proofs.Ytblomippkddgiaa.V
