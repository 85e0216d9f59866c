/-
  Joined: Run Keep2.
-/
import Derived.Test.YtblomippkddgiaaGreatDoorJ42
/-
  What the statements' caller keeps of a world, in memory.
-/
namespace Go.Proofs.YtblomippkddgiaaGreatDoor
open Go.RowKit

def ints (l : List Int) : List Value := l.map fun n => Value.int .i64 n
theorem ints_get {l : List Int} {k : Nat} {n : Int} (h : l[k]? = some n) : (ints l)[k]? = some (.int .i64 n) := by simp [ints, h]
theorem ints_set (l : List Int) (k : Nat) (n : Int) : (ints l).set k (.int .i64 n) = ints (l.set k n) := by simp [ints, List.map_set]

/- of a Run: its own blocks -/
structure RP where
  r : Nat
  x : Nat
  lf : Nat
  sq : Nat
  ud : Nat
structure RS where
  life : List Int
  seq : List Int
  uid : List Int
  nu : Int
  M : Value
  D : Value
  K : Value
  nm : Nat
  nd : Nat
  nk : Nat
abbrev rcells (q : RP) (c : R.Cf) (s : RS) : Array Value := #[ptr q.x, .int .i64 c.clients, .int .i64 c.lines, .int .i64 c.retry, .int .i64 c.tries, .int .i64 c.table, .slice (some ⟨q.lf, 0, none⟩) s.life.length s.life.length, .slice (some ⟨q.sq, 0, none⟩) s.seq.length s.seq.length, .slice (some ⟨q.ud, 0, none⟩) s.uid.length s.uid.length, s.M, .int .i64 s.nu, s.D, s.K]
structure RI (q : RP) (c : R.Cf) (s : RS) (E : Foot) (w : World) : Prop where
  cell : w.heap[q.r]? = some (.cells (rcells q c s) 38 (0, 0))
  lf : w.heap[q.lf]? = some (.cells (ints s.life).toArray 3 (0, 0))
  sq : w.heap[q.sq]? = some (.cells (ints s.seq).toArray 3 (0, 0))
  ud : w.heap[q.ud]? = some (.cells (ints s.uid).toArray 3 (0, 0))
  M : ∃ xs, w.ownsRow 0 55 7 s.M s.nm xs
  D : ∃ xs, w.ownsRow 0 3 1 s.D s.nd xs
  K : ∃ xs, w.ownsRow 0 3 1 s.K s.nk xs
  le : s.nm ≤ 10 ∧ s.nd ≤ 10 ∧ s.nk ≤ 10
  foot : E q.r ∧ E q.lf ∧ E q.sq ∧ E q.ud
  rows : ∀ j, (s.M.ownBlock = some j ∨ s.D.ownBlock = some j ∨ s.K.ownBlock = some j) → E j
  ne : q.lf ≠ q.sq ∧ q.lf ≠ q.ud ∧ q.sq ≠ q.ud
  nD : s.D.ownBlock ≠ some q.lf ∧ s.D.ownBlock ≠ some q.sq ∧ s.D.ownBlock ≠ some q.ud
  nK : s.K.ownBlock ≠ some q.lf ∧ s.K.ownBlock ≠ some q.sq ∧ s.K.ownBlock ≠ some q.ud
  nDK : ∀ j, s.D.ownBlock = some j → s.K.ownBlock ≠ some j
  lt : ∀ k, E k → k < w.heap.size

theorem RI.elsewhere {q : RP} {c : R.Cf} {s : RS} {E G : Foot} {w w' : World} (h : RI q c s E w) (hk : Keeps G w w') (ha : ∀ k, E k → ¬ G k) : RI q c s E w' := by
  obtain ⟨f1, f2, f3, f4⟩ := h.foot
  refine ⟨hk.at h.cell (ha _ f1), hk.at h.lf (ha _ f2), hk.at h.sq (ha _ f3), hk.at h.ud (ha _ f4), ?_, ?_, ?_, h.le, h.foot, h.rows, h.ne, h.nD, h.nK, h.nDK, fun k hf => Nat.lt_of_lt_of_le (h.lt k hf) hk.size⟩
  · obtain ⟨xs, hx⟩ := h.M
    exact ⟨xs, hk.row hx (fun j hj => ha j (h.rows j (Or.inl hj)))⟩
  · obtain ⟨xs, hx⟩ := h.D
    exact ⟨xs, hk.row hx (fun j hj => ha j (h.rows j (Or.inr (Or.inl hj))))⟩
  · obtain ⟨xs, hx⟩ := h.K
    exact ⟨xs, hk.row hx (fun j hj => ha j (h.rows j (Or.inr (Or.inr hj))))⟩
theorem RI.below {q : RP} {c : R.Cf} {s : RS} {E : Foot} {w w' : World} (h : RI q c s E w) (hb : Below w.heap.size w w') : RI q c s E w' := h.elsewhere (Keeps.ofBelow hb (fun _ => False)) (fun _ _ h => h)

/- the run and the world beside one another -/
structure Both (w0 : World) (q : RP) (p : Pl) (c : R.Cf) (s : RS) (G : R.Wd) (w : World) : Prop where
  run : ∃ t E F, RI q c s E w ∧ LW { p with t := t } F G w ∧ (∀ k, E k → ¬ F k) ∧ (∀ k, E k ∨ F k → w0.heap.size ≤ k)
  x : q.x = p.x
  t0 : Tab0 w
  below : Below w0.heap.size w0 w
  pos : 0 < w0.heap.size

/- a call on the world -/
theorem Both.world {w0 : World} {q : RP} {p : Pl} {c : R.Cf} {s : RS} {G G' : R.Wd} {w w' : World} {E F F' : Foot} {t : SP} (h : Both w0 q p c s G w) (hr : RI q c s E w) (hd : ∀ k, E k → ¬ F k) (hlo : ∀ k, E k ∨ F k → w0.heap.size ≤ k) (hw' : LW { p with t := t } F' G' w') (hwt : Went F F' w w') : Both w0 q p c s G' w' := by
  have hb := hwt.keeps.below (B := w0.heap.size) h.below.size (fun k hk => hlo k (Or.inr hk))
  refine ⟨⟨t, E, F', hr.elsewhere hwt.keeps hd, hw', fun k he hf => ?_, fun k hk => ?_⟩, h.x, h.t0.keeps hwt.keeps (fun h0 => by have := hlo 0 (Or.inr h0); have := h.pos; omega), h.below.trans hb, h.pos⟩
  · rcases hwt.fresh k hf with f | f
    · exact hd k he f
    · have := hr.lt k he
      omega
  · rcases hk with hk | hk
    · exact hlo k (Or.inl hk)
    · rcases hwt.fresh k hk with f | f
      · exact hlo k (Or.inr f)
      · have := h.below.size
        omega
theorem Both.still {w0 : World} {q : RP} {p : Pl} {c : R.Cf} {s : RS} {G : R.Wd} {w w' : World} (h : Both w0 q p c s G w) (hb : Below w.heap.size w w') : Both w0 q p c s G w' := by
  obtain ⟨tp, E, F, hr, hw, hd, hlo⟩ := h.run
  exact h.world hr hd hlo (hw.below hb) (Went.ofBelow F hb)
/- a turn of the run's own blocks -/
theorem Both.own {w0 : World} {q : RP} {p : Pl} {c : R.Cf} {s s' : RS} {G : R.Wd} {w w' : World} {E E' F : Foot} {t : SP} (h : Both w0 q p c s G w) (hw : LW { p with t := t } F G w) (hd : ∀ k, E k → ¬ F k) (hlo : ∀ k, E k ∨ F k → w0.heap.size ≤ k) (hr' : RI q c s' E' w') (hwt : Went E E' w w') : Both w0 q p c s' G w' := by
  have hb := hwt.keeps.below (B := w0.heap.size) h.below.size (fun k hk => hlo k (Or.inl hk))
  refine ⟨⟨t, E', F, hr', hw.elsewhere hwt.keeps (fun k hf he => hd k he hf), fun k he hf => ?_, fun k hk => ?_⟩, h.x, h.t0.keeps hwt.keeps (fun h0 => by have := hlo 0 (Or.inl h0); have := h.pos; omega), h.below.trans hb, h.pos⟩
  · rcases hwt.fresh k he with f | f
    · exact hd k f hf
    · have := hw.lt k hf
      omega
  · rcases hk with hk | hk
    · rcases hwt.fresh k hk with f | f
      · exact hlo k (Or.inl f)
      · have := h.below.size
        omega
    · exact hlo k (Or.inr hk)

theorem keepsE {E : Foot} {w : World} {b o : Nat} (hb : E b) (v : Value) : Keeps E w (w.setCell ⟨b, o, none⟩ v) := Keeps.setCell (F := E) (Keeps.refl _ w) (p := ⟨b, o, none⟩) (Or.inl hb) v
theorem row_of_store {w : World} {B : Nat} {e : TypeId} {size n : Nat} {v : Value} (h : ∃ xs, w.ownsRow B e size v n xs) {b off : Nat} (hne : v.ownBlock ≠ some b) (u : Value) : ∃ xs, (w.setCell ⟨b, off, none⟩ u).ownsRow B e size v n xs := by
  obtain ⟨xs, hx⟩ := h
  exact ⟨xs, row_store hx hne u⟩
theorem Both.put10 {w0 : World} {q : RP} {p : Pl} {c : R.Cf} {s : RS} {G : R.Wd} {w : World} (h : Both w0 q p c s G w) (v : Int) : Both w0 q p c { s with nu := v } G (w.setCell ⟨q.r, 10, none⟩ (.int .i64 v)) := by
  obtain ⟨tp, E, F, hr, hw, hd, hlo⟩ := h.run
  have sz : (w.setCell ⟨q.r, 10, none⟩ (.int .i64 v)).heap.size = w.heap.size := by simp [World.setCell]
  have ne3 : ∀ {b : Nat} {ys : Array Value} {t : TypeId}, w.heap[b]? = some (.cells ys t (0, 0)) → t ≠ 38 → (w.setCell ⟨q.r, 10, none⟩ (.int .i64 v)).heap[b]? = some (.cells ys t (0, 0)) := fun hb ht => by
    rw [Below.heap_setCell _ _ _ _ (ne_tag hb hr.cell ht)]
    exact hb
  refine h.own (s' := { s with nu := v }) hw hd hlo (E' := E) ⟨?_, ne3 hr.lf (by decide), ne3 hr.sq (by decide), ne3 hr.ud (by decide), ?_, ?_, ?_, hr.le, hr.foot, hr.rows, hr.ne, hr.nD, hr.nK, hr.nDK, fun k hk => by rw [sz]; exact hr.lt k hk⟩ ⟨keepsE hr.foot.1 _, fun _ e => Or.inl e⟩
  · exact heap_store (cs := (rcells q c s).toList) (off := 10) hr.cell _
  · obtain ⟨xs, hx⟩ := hr.M
    exact ⟨xs, row_store hx (row_tag hx hr.cell (by decide)) _⟩
  · obtain ⟨xs, hx⟩ := hr.D
    exact ⟨xs, row_store hx (row_tag hx hr.cell (by decide)) _⟩
  · obtain ⟨xs, hx⟩ := hr.K
    exact ⟨xs, row_store hx (row_tag hx hr.cell (by decide)) _⟩
theorem Both.putU {w0 : World} {q : RP} {p : Pl} {c : R.Cf} {s : RS} {G : R.Wd} {w : World} (h : Both w0 q p c s G w) (k : Nat) (v : Int) : Both w0 q p c { s with uid := s.uid.set k v } G (w.setCell ⟨q.ud, k, none⟩ (.int .i64 v)) := by
  obtain ⟨tp, E, F, hr, hw, hd, hlo⟩ := h.run
  have sz : (w.setCell ⟨q.ud, k, none⟩ (.int .i64 v)).heap.size = w.heap.size := by simp [World.setCell]
  have oth : ∀ {b : Nat} {o : Obj}, w.heap[b]? = some o → b ≠ q.ud → (w.setCell ⟨q.ud, k, none⟩ (.int .i64 v)).heap[b]? = some o := fun hb ht => by
    rw [Below.heap_setCell _ _ _ _ ht]
    exact hb
  refine h.own (s' := { s with uid := s.uid.set k v }) hw hd hlo (E' := E) ⟨?_, oth hr.lf hr.ne.2.1, oth hr.sq hr.ne.2.2, ?_, ?_, ?_, ?_, hr.le, hr.foot, hr.rows, hr.ne, hr.nD, hr.nK, hr.nDK, fun k hk => by rw [sz]; exact hr.lt k hk⟩ ⟨keepsE hr.foot.2.2.2 _, fun _ e => Or.inl e⟩
  · have := oth hr.cell (ne_tag hr.cell hr.ud (by decide))
    simpa [rcells] using this
  · rw [heap_store hr.ud, ints_set]
  · obtain ⟨xs, hx⟩ := hr.M
    exact ⟨xs, row_store hx (row_tag hx hr.ud (by decide)) _⟩
  · exact row_of_store hr.D hr.nD.2.2 _
  · exact row_of_store hr.K hr.nK.2.2 _
theorem Both.putS {w0 : World} {q : RP} {p : Pl} {c : R.Cf} {s : RS} {G : R.Wd} {w : World} (h : Both w0 q p c s G w) (k : Nat) (v : Int) : Both w0 q p c { s with seq := s.seq.set k v } G (w.setCell ⟨q.sq, k, none⟩ (.int .i64 v)) := by
  obtain ⟨tp, E, F, hr, hw, hd, hlo⟩ := h.run
  have sz : (w.setCell ⟨q.sq, k, none⟩ (.int .i64 v)).heap.size = w.heap.size := by simp [World.setCell]
  have oth : ∀ {b : Nat} {o : Obj}, w.heap[b]? = some o → b ≠ q.sq → (w.setCell ⟨q.sq, k, none⟩ (.int .i64 v)).heap[b]? = some o := fun hb ht => by
    rw [Below.heap_setCell _ _ _ _ ht]
    exact hb
  refine h.own (s' := { s with seq := s.seq.set k v }) hw hd hlo (E' := E) ⟨?_, oth hr.lf hr.ne.1, ?_, oth hr.ud hr.ne.2.2.symm, ?_, ?_, ?_, hr.le, hr.foot, hr.rows, hr.ne, hr.nD, hr.nK, hr.nDK, fun k hk => by rw [sz]; exact hr.lt k hk⟩ ⟨keepsE hr.foot.2.2.1 _, fun _ e => Or.inl e⟩
  · have := oth hr.cell (ne_tag hr.cell hr.sq (by decide))
    simpa [rcells] using this
  · rw [heap_store hr.sq, ints_set]
  · obtain ⟨xs, hx⟩ := hr.M
    exact ⟨xs, row_store hx (row_tag hx hr.sq (by decide)) _⟩
  · exact row_of_store hr.D hr.nD.2.1 _
  · exact row_of_store hr.K hr.nK.2.1 _
theorem Both.putL {w0 : World} {q : RP} {p : Pl} {c : R.Cf} {s : RS} {G : R.Wd} {w : World} (h : Both w0 q p c s G w) (k : Nat) (v : Int) : Both w0 q p c { s with life := s.life.set k v } G (w.setCell ⟨q.lf, k, none⟩ (.int .i64 v)) := by
  obtain ⟨tp, E, F, hr, hw, hd, hlo⟩ := h.run
  have sz : (w.setCell ⟨q.lf, k, none⟩ (.int .i64 v)).heap.size = w.heap.size := by simp [World.setCell]
  have oth : ∀ {b : Nat} {o : Obj}, w.heap[b]? = some o → b ≠ q.lf → (w.setCell ⟨q.lf, k, none⟩ (.int .i64 v)).heap[b]? = some o := fun hb ht => by
    rw [Below.heap_setCell _ _ _ _ ht]
    exact hb
  refine h.own (s' := { s with life := s.life.set k v }) hw hd hlo (E' := E) ⟨?_, ?_, oth hr.sq hr.ne.1.symm, oth hr.ud hr.ne.2.1.symm, ?_, ?_, ?_, hr.le, hr.foot, hr.rows, hr.ne, hr.nD, hr.nK, hr.nDK, fun k hk => by rw [sz]; exact hr.lt k hk⟩ ⟨keepsE hr.foot.2.1 _, fun _ e => Or.inl e⟩
  · have := oth hr.cell (ne_tag hr.cell hr.lf (by decide))
    simpa [rcells] using this
  · rw [heap_store hr.lf, ints_set]
  · obtain ⟨xs, hx⟩ := hr.M
    exact ⟨xs, row_store hx (row_tag hx hr.lf (by decide)) _⟩
  · exact row_of_store hr.D hr.nD.1 _
  · exact row_of_store hr.K hr.nK.1 _

/- a row grows -/
theorem grow_at {w wz : World} {o : Obj} {V : Value} (hg : (w.alloc o).grownBy wz V.ownBlock) {b : Nat} {x : Obj} (hb : w.heap[b]? = some x) (hne : V.ownBlock ≠ some b) : wz.heap[b]? = some x := by
  have hl := (Array.getElem?_eq_some_iff.1 hb).1
  exact (hg.block b (by simp; omega) (fun e => hne e.symm)).trans ((Below.heap_alloc _ _ _ hl).trans hb)
theorem grow_row {w wz : World} {o : Obj} {V : Value} (hg : (w.alloc o).grownBy wz V.ownBlock) {B : Nat} {e : TypeId} {size n : Nat} {v : Value} (h : ∃ xs, w.ownsRow B e size v n xs) (hne : ∀ j, v.ownBlock = some j → V.ownBlock ≠ some j) : ∃ xs, wz.ownsRow B e size v n xs := by
  obtain ⟨xs, hl, hx⟩ := h
  refine ⟨xs, hl, ?_⟩
  rcases hx with hx | ⟨g, cap, cur, rfl, hb, hgb, r⟩
  · exact Or.inl hx
  · exact Or.inr ⟨g, cap, cur, rfl, hb, grow_at hg hgb (hne g rfl), r⟩
theorem Both.pushD {w0 : World} {q : RP} {p : Pl} {c : R.Cf} {s : RS} {G : R.Wd} {w wz : World} {o : Obj} (h : Both w0 q p c s G w) {D' : Value} (hown : ∃ xs, wz.ownsRow 0 3 1 D' (s.nd + 1) xs) (hg : (w.alloc o).grownBy wz s.D.ownBlock) (hat : D'.ownBlock = s.D.ownBlock ∨ D'.ownBlock = some (w.heap.size + 1)) (hle : s.nd + 1 ≤ 10) : Both w0 q p c { s with D := D', nd := s.nd + 1 } G (wz.setCell ⟨q.r, 11, none⟩ D') := by
  obtain ⟨tp, E, F, hr, hw, hd, hlo⟩ := h.run
  have hDr : ∀ j, s.D.ownBlock = some j → j ≠ q.r := fun j hj e => by
    obtain ⟨xs, hx⟩ := hr.D
    exact row_tag hx hr.cell (by decide) (e ▸ hj)
  have hD'r : D'.ownBlock ≠ some q.r := by
    rcases hat with e | e
    · rw [e]; exact fun q => hDr _ q rfl
    · rw [e]
      intro e2
      have := hr.lt _ hr.foot.1
      simp at e2
      omega
  have hK : Keeps E w (wz.setCell ⟨q.r, 11, none⟩ D') := Keeps.setCell (F := E) (((Keeps.refl _ w).alloc o).grown hg (fun k hk => Or.inl (hr.rows k (Or.inr (Or.inl hk))))) (p := ⟨q.r, 11, none⟩) (Or.inl hr.foot.1) _
  have sz := hK.size
  have nb : ∀ {b : Nat} {x : Obj}, w.heap[b]? = some x → s.D.ownBlock ≠ some b → b ≠ q.r → (wz.setCell ⟨q.r, 11, none⟩ D').heap[b]? = some x := fun hb h1 h2 => by
    rw [Below.heap_setCell _ _ _ _ h2]
    exact grow_at hg hb h1
  have fresh : ∀ j, D'.ownBlock = some j → s.D.ownBlock = some j ∨ w.heap.size < j := fun j hj => by
    rcases hat with e | e
    · exact Or.inl (e ▸ hj)
    · rw [e] at hj
      cases hj
      exact Or.inr (by omega)
  refine h.own (s' := { s with D := D', nd := s.nd + 1 }) hw hd hlo (E' := fun k => E k ∨ D'.ownBlock = some k) ⟨?_, nb hr.lf hr.nD.1 (ne_tag hr.lf hr.cell (by decide)), nb hr.sq hr.nD.2.1 (ne_tag hr.sq hr.cell (by decide)), nb hr.ud hr.nD.2.2 (ne_tag hr.ud hr.cell (by decide)), ?_, row_of_store hown hD'r _, ?_, ⟨hr.le.1, hle, hr.le.2.2⟩, ⟨Or.inl hr.foot.1, Or.inl hr.foot.2.1, Or.inl hr.foot.2.2.1, Or.inl hr.foot.2.2.2⟩, ?_, hr.ne, ?_, hr.nK, ?_, ?_⟩ ⟨hK, ?_⟩
  · exact heap_store (cs := (rcells q c s).toList) (off := 11) (grow_at hg hr.cell (fun e => hDr _ e rfl)) _
  · obtain ⟨xs, hx⟩ := hr.M
    refine row_of_store (grow_row hg ⟨xs, hx⟩ (fun j hj e => ?_)) (row_tag hx hr.cell (by decide)) _
    obtain ⟨ys, hy⟩ := hr.D
    rcases hy.2 with ⟨hv, _⟩ | ⟨g, cap, cur, hv, _, hgb, _⟩
    · rw [hv] at e; cases e
    · rw [hv] at e
      cases e
      exact row_tag hx hgb (by decide) hj
  · obtain ⟨xs, hx⟩ := hr.K
    exact row_of_store (grow_row hg ⟨xs, hx⟩ (fun j hj e => hr.nDK j e hj)) (row_tag hx hr.cell (by decide)) _
  · rintro j (e | e | e)
    · exact Or.inl (hr.rows j (Or.inl e))
    · exact Or.inr e
    · exact Or.inl (hr.rows j (Or.inr (Or.inr e)))
  · refine ⟨fun e => ?_, fun e => ?_, fun e => ?_⟩
    · rcases fresh _ e with f | f
      · exact hr.nD.1 f
      · have := hr.lt _ hr.foot.2.1; omega
    · rcases fresh _ e with f | f
      · exact hr.nD.2.1 f
      · have := hr.lt _ hr.foot.2.2.1; omega
    · rcases fresh _ e with f | f
      · exact hr.nD.2.2 f
      · have := hr.lt _ hr.foot.2.2.2; omega
  · intro j hj e
    rcases fresh _ hj with f | f
    · exact hr.nDK j f e
    · have := hr.lt _ (hr.rows j (Or.inr (Or.inr e))); omega
  · rintro k (e | e)
    · exact Nat.lt_of_lt_of_le (hr.lt k e) sz
    · obtain ⟨xs, hx⟩ := row_of_store hown hD'r D' (off := 11)
      exact (World.ownsRow.lt hx k e).2
  · rintro k (e | e)
    · exact Or.inl e
    · rcases fresh _ e with f | f
      · exact Or.inl (hr.rows k (Or.inr (Or.inl f)))
      · exact Or.inr (by omega)
theorem Both.pushK {w0 : World} {q : RP} {p : Pl} {c : R.Cf} {s : RS} {G : R.Wd} {w wz : World} {o : Obj} (h : Both w0 q p c s G w) {K' : Value} (hown : ∃ xs, wz.ownsRow 0 3 1 K' (s.nk + 1) xs) (hg : (w.alloc o).grownBy wz s.K.ownBlock) (hat : K'.ownBlock = s.K.ownBlock ∨ K'.ownBlock = some (w.heap.size + 1)) (hle : s.nk + 1 ≤ 10) : Both w0 q p c { s with K := K', nk := s.nk + 1 } G (wz.setCell ⟨q.r, 12, none⟩ K') := by
  obtain ⟨tp, E, F, hr, hw, hd, hlo⟩ := h.run
  have hKr : ∀ j, s.K.ownBlock = some j → j ≠ q.r := fun j hj e => by
    obtain ⟨xs, hx⟩ := hr.K
    exact row_tag hx hr.cell (by decide) (e ▸ hj)
  have hKKr : K'.ownBlock ≠ some q.r := by
    rcases hat with e | e
    · rw [e]; exact fun q => hKr _ q rfl
    · rw [e]
      intro e2
      have := hr.lt _ hr.foot.1
      simp at e2
      omega
  have hK : Keeps E w (wz.setCell ⟨q.r, 12, none⟩ K') := Keeps.setCell (F := E) (((Keeps.refl _ w).alloc o).grown hg (fun k hk => Or.inl (hr.rows k (Or.inr (Or.inr hk))))) (p := ⟨q.r, 12, none⟩) (Or.inl hr.foot.1) _
  have sz := hK.size
  have nb : ∀ {b : Nat} {x : Obj}, w.heap[b]? = some x → s.K.ownBlock ≠ some b → b ≠ q.r → (wz.setCell ⟨q.r, 12, none⟩ K').heap[b]? = some x := fun hb h1 h2 => by
    rw [Below.heap_setCell _ _ _ _ h2]
    exact grow_at hg hb h1
  have fresh : ∀ j, K'.ownBlock = some j → s.K.ownBlock = some j ∨ w.heap.size < j := fun j hj => by
    rcases hat with e | e
    · exact Or.inl (e ▸ hj)
    · rw [e] at hj
      cases hj
      exact Or.inr (by omega)
  refine h.own (s' := { s with K := K', nk := s.nk + 1 }) hw hd hlo (E' := fun k => E k ∨ K'.ownBlock = some k) ⟨?_, nb hr.lf hr.nK.1 (ne_tag hr.lf hr.cell (by decide)), nb hr.sq hr.nK.2.1 (ne_tag hr.sq hr.cell (by decide)), nb hr.ud hr.nK.2.2 (ne_tag hr.ud hr.cell (by decide)), ?_, ?_, row_of_store hown hKKr _, ⟨hr.le.1, hr.le.2.1, hle⟩, ⟨Or.inl hr.foot.1, Or.inl hr.foot.2.1, Or.inl hr.foot.2.2.1, Or.inl hr.foot.2.2.2⟩, ?_, hr.ne, hr.nD, ?_, ?_, ?_⟩ ⟨hK, ?_⟩
  · exact heap_store (cs := (rcells q c s).toList) (off := 12) (grow_at hg hr.cell (fun e => hKr _ e rfl)) _
  · obtain ⟨xs, hx⟩ := hr.M
    refine row_of_store (grow_row hg ⟨xs, hx⟩ (fun j hj e => ?_)) (row_tag hx hr.cell (by decide)) _
    obtain ⟨ys, hy⟩ := hr.K
    rcases hy.2 with ⟨hv, _⟩ | ⟨g, cap, cur, hv, _, hgb, _⟩
    · rw [hv] at e; cases e
    · rw [hv] at e
      cases e
      exact row_tag hx hgb (by decide) hj
  · obtain ⟨xs, hx⟩ := hr.D
    exact row_of_store (grow_row hg ⟨xs, hx⟩ (fun j hj e => hr.nDK j hj e)) (row_tag hx hr.cell (by decide)) _
  · rintro j (e | e | e)
    · exact Or.inl (hr.rows j (Or.inl e))
    · exact Or.inl (hr.rows j (Or.inr (Or.inl e)))
    · exact Or.inr e
  · refine ⟨fun e => ?_, fun e => ?_, fun e => ?_⟩
    · rcases fresh _ e with f | f
      · exact hr.nK.1 f
      · have := hr.lt _ hr.foot.2.1; omega
    · rcases fresh _ e with f | f
      · exact hr.nK.2.1 f
      · have := hr.lt _ hr.foot.2.2.1; omega
    · rcases fresh _ e with f | f
      · exact hr.nK.2.2 f
      · have := hr.lt _ hr.foot.2.2.2; omega
  · intro j hj e
    rcases fresh _ e with f | f
    · exact hr.nDK j hj f
    · have := hr.lt _ (hr.rows j (Or.inr (Or.inl hj))); omega
  · rintro k (e | e)
    · exact Nat.lt_of_lt_of_le (hr.lt k e) sz
    · obtain ⟨xs, hx⟩ := row_of_store hown hKKr K' (off := 12)
      exact (World.ownsRow.lt hx k e).2
  · rintro k (e | e)
    · exact Or.inl e
    · rcases fresh _ e with f | f
      · exact Or.inl (hr.rows k (Or.inr (Or.inr f)))
      · exact Or.inr (by omega)
theorem Both.pushM {w0 : World} {q : RP} {p : Pl} {c : R.Cf} {s : RS} {G : R.Wd} {w wz : World} {o : Obj} (h : Both w0 q p c s G w) {M' : Value} (hown : ∃ xs, wz.ownsRow 0 55 7 M' (s.nm + 1) xs) (hg : (w.alloc o).grownBy wz s.M.ownBlock) (hat : M'.ownBlock = s.M.ownBlock ∨ M'.ownBlock = some (w.heap.size + 1)) (hle : s.nm + 1 ≤ 10) : Both w0 q p c { s with M := M', nm := s.nm + 1 } G (wz.setCell ⟨q.r, 9, none⟩ M') := by
  obtain ⟨tp, E, F, hr, hw, hd, hlo⟩ := h.run
  have hMb : ∀ {b : Nat} {ys : Array Value} {t : TypeId} {f : Nat × Nat}, w.heap[b]? = some (.cells ys t f) → t ≠ 55 → s.M.ownBlock ≠ some b := fun hb ht => by
    obtain ⟨xs, hx⟩ := hr.M
    exact row_tag hx hb (fun e => ht e.symm)
  have hM'r : M'.ownBlock ≠ some q.r := by
    rcases hat with e | e
    · rw [e]; exact hMb hr.cell (by decide)
    · rw [e]
      intro e2
      have := hr.lt _ hr.foot.1
      simp at e2
      omega
  have hK : Keeps E w (wz.setCell ⟨q.r, 9, none⟩ M') := Keeps.setCell (F := E) (((Keeps.refl _ w).alloc o).grown hg (fun k hk => Or.inl (hr.rows k (Or.inl hk)))) (p := ⟨q.r, 9, none⟩) (Or.inl hr.foot.1) _
  have sz := hK.size
  have nb : ∀ {b : Nat} {ys : Array Value} {t : TypeId} {f : Nat × Nat}, w.heap[b]? = some (.cells ys t f) → t ≠ 55 → t ≠ 38 → (wz.setCell ⟨q.r, 9, none⟩ M').heap[b]? = some (.cells ys t f) := fun hb h1 h2 => by
    rw [Below.heap_setCell _ _ _ _ (ne_tag hb hr.cell h2)]
    exact grow_at hg hb (hMb hb h1)
  have fresh : ∀ j, M'.ownBlock = some j → s.M.ownBlock = some j ∨ w.heap.size < j := fun j hj => by
    rcases hat with e | e
    · exact Or.inl (e ▸ hj)
    · rw [e] at hj
      cases hj
      exact Or.inr (by omega)
  have rows' : ∀ {v : Value} {n : Nat}, (∃ xs, w.ownsRow 0 3 1 v n xs) → ∃ xs, (wz.setCell ⟨q.r, 9, none⟩ M').ownsRow 0 3 1 v n xs := fun hv => by
    obtain ⟨xs, hx⟩ := hv
    refine row_of_store (grow_row hg ⟨xs, hx⟩ (fun j hj e => ?_)) (row_tag hx hr.cell (by decide)) _
    rcases hx.2 with ⟨hv, _⟩ | ⟨g, cap, cur, hv, _, hgb, _⟩
    · rw [hv] at hj; cases hj
    · rw [hv] at hj
      cases hj
      exact hMb hgb (by decide) e
  refine h.own (s' := { s with M := M', nm := s.nm + 1 }) hw hd hlo (E' := fun k => E k ∨ M'.ownBlock = some k) ⟨?_, nb hr.lf (by decide) (by decide), nb hr.sq (by decide) (by decide), nb hr.ud (by decide) (by decide), row_of_store hown hM'r _, rows' hr.D, rows' hr.K, ⟨hle, hr.le.2.1, hr.le.2.2⟩, ⟨Or.inl hr.foot.1, Or.inl hr.foot.2.1, Or.inl hr.foot.2.2.1, Or.inl hr.foot.2.2.2⟩, ?_, hr.ne, hr.nD, hr.nK, hr.nDK, ?_⟩ ⟨hK, ?_⟩
  · exact heap_store (cs := (rcells q c s).toList) (off := 9) (grow_at hg hr.cell (hMb hr.cell (by decide))) _
  · rintro j (e | e | e)
    · exact Or.inr e
    · exact Or.inl (hr.rows j (Or.inr (Or.inl e)))
    · exact Or.inl (hr.rows j (Or.inr (Or.inr e)))
  · rintro k (e | e)
    · exact Nat.lt_of_lt_of_le (hr.lt k e) sz
    · obtain ⟨xs, hx⟩ := row_of_store hown hM'r M' (off := 9)
      exact (World.ownsRow.lt hx k e).2
  · rintro k (e | e)
    · exact Or.inl e
    · rcases fresh _ e with f | f
      · exact Or.inl (hr.rows k (Or.inl f))
      · exact Or.inr (by omega)
end Go.Proofs.YtblomippkddgiaaGreatDoor
/-
  The statements' export and bind.
-/
namespace Go.Proofs.YtblomippkddgiaaGreatDoor
open Go.RowKit

theorem info3 : (Tryz.prog.info? 3).map (fun i => (i.zero, i.size, i.bytes)) = some (some (.int .i64 0), 1, 8) := by kernel_rfl
theorem one_num (w : World) (n : Int) (j : Nat) (u : Value) (h : ([.int .i64 n] : List Value)[j]? = some u) : (w.alloc (.cells #[.int .i64 n] 3)).cell? ((⟨w.heap.size, 0, none⟩ : Addr).add j) = some u := by
  rw [Addr.add_lit, Nat.zero_add, World.cell?_alloc_new w _ _ j, ← List.getElem?_toArray] at *
  exact h

theorem one_num_at (w : World) (n : Int) {m : Nat} (hm : w.heap.size = m) (j : Nat) (u : Value) (h : ([.int .i64 n] : List Value)[j]? = some u) : (w.alloc (.cells #[.int .i64 n] 3)).cell? ((⟨m, 0, none⟩ : Addr).add j) = some u := by
  subst hm
  exact one_num w n j u h

structure RCell (q : RP) (s : RS) (w : World) : Prop where
  a0 : w.cell? ⟨q.r, 0, none⟩ = some (ptr q.x)
  a6 : w.cell? ⟨q.r, 6, none⟩ = some (.slice (some ⟨q.lf, 0, none⟩) s.life.length s.life.length)
  a7 : w.cell? ⟨q.r, 7, none⟩ = some (.slice (some ⟨q.sq, 0, none⟩) s.seq.length s.seq.length)
  a8 : w.cell? ⟨q.r, 8, none⟩ = some (.slice (some ⟨q.ud, 0, none⟩) s.uid.length s.uid.length)
  a9 : w.cell? ⟨q.r, 9, none⟩ = some s.M
  a10 : w.cell? ⟨q.r, 10, none⟩ = some (.int .i64 s.nu)
  a11 : w.cell? ⟨q.r, 11, none⟩ = some s.D
  a12 : w.cell? ⟨q.r, 12, none⟩ = some s.K
  z : ∀ o, w.frozen? ⟨q.r, o, none⟩ = false
  zu : ∀ o, w.frozen? ⟨q.ud, o, none⟩ = false
  zs : ∀ o, w.frozen? ⟨q.sq, o, none⟩ = false
  zl : ∀ o, w.frozen? ⟨q.lf, o, none⟩ = false
  u : ∀ k v, s.uid[k]? = some v → w.cell? ⟨q.ud, k, none⟩ = some (.int .i64 v)
  sq : ∀ k v, s.seq[k]? = some v → w.cell? ⟨q.sq, k, none⟩ = some (.int .i64 v)
  lf : ∀ k v, s.life[k]? = some v → w.cell? ⟨q.lf, k, none⟩ = some (.int .i64 v)
  nur : ¬ q.ud = q.r
  nsr : ¬ q.sq = q.r
  ltr : q.r < w.heap.size
  ltu : q.ud < w.heap.size
theorem Both.cells {w0 : World} {q : RP} {p : Pl} {c : R.Cf} {s : RS} {G : R.Wd} {w : World} (h : Both w0 q p c s G w) : RCell q s w := by
  obtain ⟨tp, E, F, hr, _⟩ := h.run
  have hx := hr.cell
  exact ⟨cell_of hx 0 _ rfl, cell_of hx 6 _ rfl, cell_of hx 7 _ rfl, cell_of hx 8 _ rfl, cell_of hx 9 _ rfl, cell_of hx 10 _ rfl, cell_of hx 11 _ rfl, cell_of hx 12 _ rfl, fun o => open_list hx, fun o => open_list hr.ud, fun o => open_list hr.sq, fun o => open_list hr.lf, fun k v hv => cell_list hr.ud (ints_get hv), fun k v hv => cell_list hr.sq (ints_get hv), fun k v hv => cell_list hr.lf (ints_get hv), ne_tag hr.ud hx (by decide), ne_tag hr.sq hx (by decide), lt_of_block hx, lt_of_block hr.ud⟩

set_option maxRecDepth 100000 in
theorem cf37 : ∀ args w, (callFunc 61 args).run Tryz.prog w = .ok (.enter 61 args) w := fun _ _ => rfl
set_option maxRecDepth 100000 in
theorem cf36 : ∀ args w, (callFunc 60 args).run Tryz.prog w = .ok (.enter 60 args) w := fun _ _ => rfl

/- the rest of export, behind the world's call -/
set_option maxRecDepth 100000 in
set_option maxHeartbeats 1000000 in
theorem exports_any (w0 : World) (q : RP) (p : Pl) (c : R.Cf) (s : RS) (G : R.Wd) (w : World) (k : Nat) (hk : k < 3) (h : Both w0 q p c s G w) (hul : s.uid.length = 3) (hu : s.uid[k]? = some 0) (hnu : s.nu = (G.services.length : Int)) (hn : ¬ nameL k ∈ G.names) (h6 : G.names.length < 6) (h255 : G.services.length < 200) (hnd : s.nd + 1 ≤ 10) (hnk : s.nk + 1 ≤ 10) :
    Calls Tryz.prog 28 #[ptr q.r, .int .i64 (k : Int)] w fun e w' => e = .returned (.bool true) ∧ ∃ D K, Both w0 q p c ⟨s.life, s.seq, s.uid.set k (s.nu + 1), s.nu + 1, s.M, D, K, s.nm, s.nd + 1, s.nk + 1⟩ (exportedG G (nameL k) k) w' := by
  obtain ⟨a0, a6, a7, a8, a9, a10, a11, a12, z, zu, zs, zl, fu, fs, fl, nur, nsr, ltr, ltu⟩ := h.cells
  have b1 := fu k 0 hu
  have hkn : (k : Int) < (s.uid.length : Int) := by omega
  have e255 : (s.nu == 255) = false := by simp; omega
  have HNA := hide (name_any k hk)
  have hwr : IntKind.i64.wrap (s.nu + 1) = s.nu + 1 := by rw [IntKind.wrap_i64]; omega
  have H36 : Hid (Calls Tryz.prog 60 #[ptr q.x, .string (str (nameL k)), .int .i64 (k : Int)] w.drew fun e w' => e = .returned (.tuple #[.int .i64 (s.nu + 1), .int .i64 0]) ∧ Both w0 q p c s (exportedG G (nameL k) k) w') := by
    have hd := h.still (Below.refl w.heap.size w).drew
    obtain ⟨tp, E, F, hr, hw, hdj, hlo⟩ := hd.run
    rw [h.x, hnu]
    refine (export_face w.drew p.x p.n p.s p.cs G.clients.length p.cap (str (nameL k)) k ((G.services.length : Int) + 1) 0 _ hw.bx (hw.exported (name_named k) (by omega) hn h6 (by omega))).mono ?_
    rintro e w' ⟨rfl, t', F', q1, q2⟩
    exact ⟨rfl, hd.world (t := t') hr hdj hlo q1 q2⟩
  generalize str (nameL k) = SN at *
  obtain ⟨i0, hi, hz0, hz1, hz2⟩ := info_parts info3
  clear hn h6 h255 h a6 a7 a9 a11 a12 z zu zs zl fu fs fl hnu
  go_enter Tryz.func28, Tryz.ntmps28
  go_wp2
  go_region_law (first
    | (refine step_call rfl 61 #[.tmp 78] #[3] rfl cf37 #[.int .i64 (k : Int)] rfl _ ((unhide HNA) _) ?_; rintro e w1 ⟨rfl, hw1⟩; rw [hw1]; clear hw1; refine ⟨_, rfl, ?_⟩)
    | (refine step_call rfl 60 #[.tmp 77, .tmp 79, .tmp 80] #[34, 9, 3] rfl cf36 #[ptr q.x, .string SN, .int .i64 (k : Int)] rfl _ (unhide H36) ?_; rintro e w2 ⟨rfl, hB⟩; have HBT := hide hB; clear hB; refine ⟨_, rfl, ?_⟩))
  all_goals
    clear a0 a8 a10 b1 ltr ltu H36 HNA
    have hc2 := (unhide HBT).cells
    have y10 := hc2.a10
    have y10z := hc2.z 10
    have y0 := hc2.ltr
    have HB2 := hide ((unhide HBT).put10 (s.nu + 1))
    clear hc2 HBT
    go_wp2
    generalize w2.setCell ⟨q.r, 10, none⟩ (.int .i64 (s.nu + 1)) = W2 at *
    have hc3 := (unhide HB2).cells
    have x8 := hc3.a8
    have x10 := hc3.a10
    have xk := hc3.zu k
    have xu := hc3.u k 0 (by assumption)
    simp only at x8 x10
    have xl := hc3.ltu
    have HB3 := hide (((unhide HB2).putU k (s.nu + 1)).still (Below.refl _ _).drew)
    clear hc3 HB2 y10 y10z y0
    go_region
    all_goals
      generalize (W2.setCell ⟨q.ud, k, none⟩ (.int .i64 (s.nu + 1))).drew = W3 at *
      clear x8 x10 xk xu xl
      have hc4 := (unhide HB3).cells
      have hrun := (unhide HB3).run
      obtain ⟨tp, E, F, hr, hEF⟩ := hrun
      have hrD := hr.D
      obtain ⟨xs, hxs⟩ := hrD
      have hsl := slice_of hxs
      obtain ⟨da, dc, hD⟩ := hsl
      have x11 := hc4.a11
      have x11z := hc4.z 11
      have xr := hc4.ltr
      simp only at hD hxs x11
      rw [hD] at x11 hxs
      have HXS := hide hxs
      have HD := hide hD
      clear hc4 hr hEF hxs hD
      go_wp2_with (at_builtin; go_must (refine wpList_append_own_at _ rfl (.tmp 105) (.tmp 106) 35 rfl 0 3 i0 (.int .i64 0) 1 8 Tryz.underlying35 hi hz0 hz1 hz2 rfl (by decide) (.slice da s.nd dc) s.nd xs rfl (by exact (unhide HXS).alloc _) ⟨W3.heap.size, 0, none⟩ 1 1 [.int .i64 (-1)] rfl rfl (by exact one_num W3 (-1)) (by simp [Value.oneCell']) (by unfold maxLen; omega) (by omega) (by omega) ?_))
      intro v' wz hown hgrow _ hat
      obtain ⟨va, vn, vc, hvs⟩ := row_shape hown
      subst hvs
      have HB4 := hide ((unhide HB3).pushD (o := .cells #[.int .i64 (-1)] 3) (D' := .slice va vn vc) ⟨_, hown⟩ (by rw [unhide HD]; exact hgrow) (by rw [unhide HD]; simpa using hat) hnd)
      have hgr : wz.heap[q.r]? = W3.heap[q.r]? := by
        refine (hgrow.block q.r (by simp; omega) (fun e => ?_)).trans (Below.heap_alloc _ _ _ xr)
        have hrun := (unhide HB3).run
        obtain ⟨tp, E, F, hr, hEF⟩ := hrun
        have hcell := hr.cell
        exact row_tag (unhide HXS) hcell (by decide) e.symm
      have g11 : wz.cell? ⟨q.r, 11, none⟩ = some (.slice da s.nd dc) := (World.cell?_of_block hgr).trans x11
      have g11z : wz.frozen? ⟨q.r, 11, none⟩ = false := (World.frozen?_of_block hgr).trans x11z
      have glt : q.r < wz.heap.size := lt_of_cell g11
      clear hown hgrow hat hgr x11 x11z HXS HD HB3
      have hc5 := (unhide HB4).cells
      have hrun := (unhide HB4).run
      obtain ⟨tp, E, F, hr, hEF⟩ := hrun
      have hrK := hr.K
      obtain ⟨ys, hys⟩ := hrK
      have hsl := slice_of hys
      obtain ⟨ka, kc, hKs⟩ := hsl
      have x12 := hc5.a12
      have x12z := hc5.z 12
      have x10 := hc5.a10
      have xr5 := hc5.ltr
      simp only at hKs hys x12 x10
      rw [hKs] at x12 hys
      have HYS := hide hys
      have HKS := hide hKs
      clear hc5 hr hEF hys hKs
      go_wp2_with (at_builtin; go_must (refine wpList_append_own_at _ rfl (.tmp 114) (.tmp 116) 35 rfl 0 3 i0 (.int .i64 0) 1 8 Tryz.underlying35 hi hz0 hz1 hz2 rfl (by decide) (.slice ka s.nk kc) s.nk ys rfl (by exact (unhide HYS).alloc _) ⟨wz.heap.size, 0, none⟩ 1 1 [.int .i64 (k : Int)] rfl rfl (by exact one_num_at _ (k : Int) (by simp)) (by simp [Value.oneCell']) (by unfold maxLen; omega) (by omega) (by omega) ?_))
      intro v2 wy hown hgrow _ hat
      obtain ⟨ua, un, uc, hvs⟩ := row_shape hown
      subst hvs
      have HB5 := hide ((unhide HB4).pushK (o := .cells #[.int .i64 (k : Int)] 3) (K' := .slice ua un uc) ⟨_, hown⟩ (by rw [unhide HKS]; exact hgrow) (by rw [unhide HKS]; simpa using hat) hnk)
      generalize wz.setCell ⟨q.r, 11, none⟩ (.slice va vn vc) = W4 at *
      have hgr : wy.heap[q.r]? = W4.heap[q.r]? := by
        refine (hgrow.block q.r (by simp; omega) (fun e => ?_)).trans (Below.heap_alloc _ _ _ xr5)
        have hrun := (unhide HB4).run
        obtain ⟨tp, E, F, hr, hEF⟩ := hrun
        have hcell := hr.cell
        exact row_tag (unhide HYS) hcell (by decide) e.symm
      have f12 : wy.cell? ⟨q.r, 12, none⟩ = some (.slice ka s.nk kc) := (World.cell?_of_block hgr).trans x12
      have f12z : wy.frozen? ⟨q.r, 12, none⟩ = false := (World.frozen?_of_block hgr).trans x12z
      have flt : q.r < wy.heap.size := lt_of_cell f12
      have hc6 := (unhide HB5).cells
      have v10 := hc6.a10
      simp only at v10
      clear hown hgrow hat hgr x12 x12z x10 HYS HKS HB4 g11 g11z glt hc6
      go_wp2
      go_returns
      exact ⟨rfl, _, _, unhide HB5⟩
end Go.Proofs.YtblomippkddgiaaGreatDoor
