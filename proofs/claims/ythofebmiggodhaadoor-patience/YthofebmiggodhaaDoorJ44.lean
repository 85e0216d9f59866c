/-
  Joined: BK Pat1.
-/
import Derived.Test.YthofebmiggodhaaDoorJ43
/-
  The run, the world, and one block more that neither of them has.
-/
namespace Go.Proofs.YthofebmiggodhaaDoor
open Go.RowKit

structure BK (w0 : World) (q : RP) (p : Pl) (c : R.Cf) (s : RS) (G : R.Wd) (b : Nat) (o : Obj) (w : World) : Prop where
  run : ∃ E F, RI q c s E w ∧ LW p F G w ∧ (∀ k, E k → ¬ F k) ∧ (∀ k, E k ∨ F k → w0.heap.size ≤ k) ∧ ¬ E b ∧ ¬ F b
  obj : w.heap[b]? = some o
  lo : w0.heap.size ≤ b
  x : q.x = p.x
  t0 : Tab0 w
  below : Below w0.heap.size w0 w
  pos : 0 < w0.heap.size
theorem BK.both {w0 : World} {q : RP} {p : Pl} {c : R.Cf} {s : RS} {G : R.Wd} {b : Nat} {o : Obj} {w : World} (h : BK w0 q p c s G b o w) : Both w0 q p c s G w := by
  obtain ⟨E, F, a1, a2, a3, a4, _⟩ := h.run
  exact ⟨⟨E, F, a1, a2, a3, a4⟩, h.x, h.t0, h.below, h.pos⟩
theorem BK.start {w0 : World} {q : RP} {p : Pl} {c : R.Cf} {s : RS} {G : R.Wd} {b : Nat} {o : Obj} {w W : World} (h : Both w0 q p c s G w) (hb : Below w.heap.size w W) (hl : w.heap.size ≤ b) (ho : W.heap[b]? = some o) : BK w0 q p c s G b o W := by
  have h' := h.still hb
  obtain ⟨E, F, a1, a2, a3, a4⟩ := h.run
  refine ⟨⟨E, F, a1.below hb, a2.below hb, a3, a4, fun he => ?_, fun hf => ?_⟩, ho, by have := h.below.size; omega, h.x, h'.t0, h'.below, h.pos⟩
  · have := a1.lt b he
    omega
  · have := a2.lt b hf
    omega
theorem BK.world {w0 : World} {q : RP} {p : Pl} {c : R.Cf} {s : RS} {G G' : R.Wd} {b : Nat} {o : Obj} {w w' : World} {E F F' : Foot} (h : BK w0 q p c s G b o w) (hr : RI q c s E w) (hd : ∀ k, E k → ¬ F k) (hlo : ∀ k, E k ∨ F k → w0.heap.size ≤ k) (h1 : ¬ E b) (h2 : ¬ F b) (hw' : LW p F' G' w') (hwt : Went F F' w w') : BK w0 q p c s G' b o w' := by
  have hbb := hwt.keeps.below (B := w0.heap.size) h.below.size (fun k hk => hlo k (Or.inr hk))
  refine ⟨⟨E, F', hr.elsewhere hwt.keeps hd, hw', fun k he hf => ?_, fun k hk => ?_, h1, fun hf => ?_⟩, hwt.keeps.at h.obj h2, h.lo, h.x, h.t0.keeps hwt.keeps (fun h0 => by have := hlo 0 (Or.inr h0); have := h.pos; omega), h.below.trans hbb, h.pos⟩
  · rcases hwt.fresh k hf with f | f
    · exact hd k he f
    · have := hr.lt k he
      omega
  · rcases hk with hk | hk
    · exact hlo k (Or.inl hk)
    · rcases hwt.fresh k hk with f | f
      · exact hlo k (Or.inr f)
      · have := h.below.size
        omega
  · rcases hwt.fresh b hf with f | f
    · exact h2 f
    · have := (Array.getElem?_eq_some_iff.1 h.obj).1
      omega
theorem BK.still {w0 : World} {q : RP} {p : Pl} {c : R.Cf} {s : RS} {G : R.Wd} {b : Nat} {o : Obj} {w w' : World} (h : BK w0 q p c s G b o w) (hb : Below w.heap.size w w') : BK w0 q p c s G b o w' := by
  obtain ⟨E, F, a1, a2, a3, a4, a5, a6⟩ := h.run
  exact h.world a1 a3 a4 a5 a6 (a2.below hb) (Went.ofBelow F hb)
theorem BK.tick {w0 : World} {q : RP} {p : Pl} {c : R.Cf} {s : RS} {G : R.Wd} {b : Nat} {o : Obj} {w : World} (h : BK w0 q p c s G b o w) : Calls Tryd.prog 14 #[ptr q.x] w fun e w' => e = .returned (.tuple #[]) ∧ BK w0 q p c s (R.tickLines G) b o w' := by
  obtain ⟨E, F, a1, a2, a3, a4, a5, a6⟩ := h.run
  rw [h.x]
  refine a2.tick.mono ?_
  rintro e w' ⟨rfl, F', q1, q2⟩
  exact ⟨rfl, h.world a1 a3 a4 a5 a6 q1 q2⟩
theorem BK.put {w0 : World} {q : RP} {p : Pl} {c : R.Cf} {s : RS} {G : R.Wd} {b : Nat} {cs : List Value} {t : TypeId} {fz : Nat × Nat} {w : World} (h : BK w0 q p c s G b (.cells cs.toArray t fz) w) (off : Nat) (v : Value) : BK w0 q p c s G b (.cells (cs.set off v).toArray t fz) (w.setCell ⟨b, off, none⟩ v) := by
  obtain ⟨E, F, a1, a2, a3, a4, a5, a6⟩ := h.run
  have hk : Keeps (fun k => k = b) w (w.setCell ⟨b, off, none⟩ v) := keeps_one v
  refine ⟨⟨E, F, a1.elsewhere hk (fun k he e => a5 (e ▸ he)), a2.elsewhere hk (fun k hf e => a6 (e ▸ hf)), a3, a4, a5, a6⟩, heap_store h.obj v, h.lo, h.x, h.t0.keeps hk (fun e => by have := h.lo; have := h.pos; omega), h.below.trans (hk.below h.below.size (fun k e => by rw [e]; exact h.lo)), h.pos⟩
theorem Both.showW {w0 : World} {q : RP} {p : Pl} {c : R.Cf} {s : RS} {G : R.Wd} {w : World} (h : Both w0 q p c s G w) {i : Nat} {f : R.Fl} (hf : G.flying[i]? = some f) : Calls Tryd.prog 12 #[ptr q.x, .int .i64 (i : Int)] w fun e w' => e = .returned (.tuple #[.int .i64 f.to, .string (str f.s), .int .i64 0]) ∧ Below w.heap.size w w' := by
  obtain ⟨E, F, a1, a2, a3, a4⟩ := h.run
  rw [h.x]
  exact a2.showAt hf
theorem Both.flyW {w0 : World} {q : RP} {p : Pl} {c : R.Cf} {s : RS} {G : R.Wd} {w : World} (h : Both w0 q p c s G w) : Calls Tryd.prog 16 #[ptr q.x] w fun e w' => e = .returned (.int .i64 (G.flying.length : Int)) ∧ w' = w := by
  obtain ⟨E, F, a1, a2, a3, a4⟩ := h.run
  rw [h.x]
  exact a2.flying
theorem open_right {pk : Pk} (hr : RightP pk) (w : World) : Calls Tryd.prog 13 #[.string (str (sealB pk))] w fun e w' => e = .returned (.tuple #[pv pk, .int .i64 0]) ∧ Below w.heap.size w w' := by
  refine (open_any (sealB pk) w (by have := R.seal_le hr; omega)).mono ?_
  have hrd : readP (sealB pk) = some pk := (readP_iff _ _).2 ⟨hr, rfl⟩
  rintro e w' ⟨hb, ⟨h0, _⟩ | ⟨p', h1, rfl⟩⟩
  · rw [hrd] at h0
    cases h0
  · rw [hrd] at h1
    cases h1
    exact ⟨rfl, hb⟩
end Go.Proofs.YthofebmiggodhaaDoor
/-
  Patience, pure: what the ticks leave as it is, and the packets that are shown.
-/
namespace Go.Proofs.YthofebmiggodhaaDoor

/- what a second call asks for -/
structure Kp (S : List R.Sv) (B : List Int) (G : R.Wd) : Prop where
  sv : G.services = S
  bd : ∃ cl, G.clients[0]? = some cl ∧ cl.bound = B
theorem Kp.set {S : List R.Sv} {B : List Int} {G : R.Wd} (h : Kp S B G) (i k : Nat) (l : R.Ln) : Kp S B (R.setLine G i k l) := by
  obtain ⟨cl, h1, h2⟩ := h.bd
  refine ⟨h.sv, ?_⟩
  rw [R.setLine_client, h1]
  simp only [Option.map_some]
  refine ⟨_, rfl, ?_⟩
  split <;> exact h2
theorem Kp.send {S : List R.Sv} {B : List Int} {G : R.Wd} (h : Kp S B G) (to : Int) (p : Pk) : Kp S B (R.sendP G to p) := by
  unfold R.sendP
  split
  · exact ⟨h.sv, h.bd⟩
  · exact h
theorem Kp.line {S : List R.Sv} {B : List Int} {G : R.Wd} (h : Kp S B G) (i k : Nat) : Kp S B (R.tickLine G i k) := by
  unfold R.tickLine
  simp only
  split
  · exact h
  · split
    · exact h.set i k _
    · split
      · exact h.set i k _
      · split
        · exact (h.set i k _).send _ _
        · exact (h.set i k _).send _ _
theorem Kp.tickC {S : List R.Sv} {B : List Int} {G : R.Wd} (h : Kp S B G) (i : Nat) : ∀ n, Kp S B (YthofebmiggodhaaDoor.tickC G i n)
  | 0 => h
  | n + 1 => by
    rw [tickC_succ]
    exact (h.tickC i n).line i n
theorem Kp.tickW {S : List R.Sv} {B : List Int} {G : R.Wd} (h : Kp S B G) : ∀ n, Kp S B (YthofebmiggodhaaDoor.tickW G n)
  | 0 => h
  | n + 1 => by
    rw [tickW_succ]
    exact (h.tickW n).tickC n _
theorem Kp.tick {S : List R.Sv} {B : List Int} {G : R.Wd} (h : Kp S B G) : Kp S B (R.tickLines G) := by
  rw [tickLines_eq]
  exact h.tickW _
theorem Kp.called {S : List R.Sv} {B : List Int} {G : R.Wd} (h : Kp S B G) (l : R.Ln) (k : Nat) (m : List UInt8) : Kp S B (calledG G l k m) := (h.set 0 0 _).send _ _

/- the packets that are shown are right -/
theorem shown_right {m : List UInt8} (h2 : 2 ≤ m.length) (h72 : m.length ≤ 72) {k : Nat} (hk : k < 3) {sq : Int} (hs : 1 ≤ sq ∧ sq ≤ 999) (pl : Bool) : RightP ⟨1, 0, 1, 0, sq, (k : Int) + 1, 0, R.piecesP m, pl, R.pieceP m 0⟩ := by
  have hp := R.pieces_le h72
  have hp1 := R.pieces_pos (s := m) (by omega)
  have hb := R.piece_body (s := m) (k := 0) (by omega)
  refine ⟨by simp, by simp, by simp, by simp, by simp only; omega, by simp only; omega, by simp only; omega, by simp only; omega, ?_⟩
  unfold bodyOk
  rw [if_pos (Or.inl rfl)]
  exact hb
def firstF (sq : Int) (k : Nat) (m : List UInt8) : R.Fl := ⟨-1, sealB ⟨1, 0, 1, 0, sq, (k : Int) + 1, 0, R.piecesP m, decide (0 < R.piecesP m - 1), R.pieceP m 0⟩, false⟩
def nextPk (sq : Int) (k : Nat) (m : List UInt8) : Pk := ⟨1, 0, 1, 0, sq, (k : Int) + 1, 0, R.piecesP m, true, R.pieceP m 0⟩
end Go.Proofs.YthofebmiggodhaaDoor
