/-
  Joined: BK Pat1 Regk.
-/
import Derived.Test.YtblomippkddgiaaGreatDoorJ45
import Derived.Deep.RegionHeld3
/-
  The run, the world, and one block more that neither of them has.
-/
namespace Go.Proofs.YtblomippkddgiaaGreatDoor
open Go.RowKit

structure BK (w0 : World) (q : RP) (p : Pl) (c : R.Cf) (s : RS) (G : R.Wd) (b : Nat) (o : Obj) (w : World) : Prop where
  run : ∃ t E F, RI q c s E w ∧ LW { p with t := t } F G w ∧ (∀ k, E k → ¬ F k) ∧ (∀ k, E k ∨ F k → w0.heap.size ≤ k) ∧ ¬ E b ∧ ¬ F b
  obj : w.heap[b]? = some o
  lo : w0.heap.size ≤ b
  x : q.x = p.x
  t0 : Tab0 w
  below : Below w0.heap.size w0 w
  pos : 0 < w0.heap.size
theorem BK.both {w0 : World} {q : RP} {p : Pl} {c : R.Cf} {s : RS} {G : R.Wd} {b : Nat} {o : Obj} {w : World} (h : BK w0 q p c s G b o w) : Both w0 q p c s G w := by
  obtain ⟨tp, E, F, a1, a2, a3, a4, _⟩ := h.run
  exact ⟨⟨tp, E, F, a1, a2, a3, a4⟩, h.x, h.t0, h.below, h.pos⟩
theorem BK.start {w0 : World} {q : RP} {p : Pl} {c : R.Cf} {s : RS} {G : R.Wd} {b : Nat} {o : Obj} {w W : World} (h : Both w0 q p c s G w) (hb : Below w.heap.size w W) (hl : w.heap.size ≤ b) (ho : W.heap[b]? = some o) : BK w0 q p c s G b o W := by
  have h' := h.still hb
  obtain ⟨tp, E, F, a1, a2, a3, a4⟩ := h.run
  refine ⟨⟨tp, E, F, a1.below hb, a2.below hb, a3, a4, fun he => ?_, fun hf => ?_⟩, ho, by have := h.below.size; omega, h.x, h'.t0, h'.below, h.pos⟩
  · have := a1.lt b he
    omega
  · have := a2.lt b hf
    omega
theorem BK.world {w0 : World} {q : RP} {p : Pl} {c : R.Cf} {s : RS} {G G' : R.Wd} {b : Nat} {o : Obj} {w w' : World} {E F F' : Foot} {t : SP} (h : BK w0 q p c s G b o w) (hr : RI q c s E w) (hd : ∀ k, E k → ¬ F k) (hlo : ∀ k, E k ∨ F k → w0.heap.size ≤ k) (h1 : ¬ E b) (h2 : ¬ F b) (hw' : LW { p with t := t } F' G' w') (hwt : Went F F' w w') : BK w0 q p c s G' b o w' := by
  have hbb := hwt.keeps.below (B := w0.heap.size) h.below.size (fun k hk => hlo k (Or.inr hk))
  refine ⟨⟨t, E, F', hr.elsewhere hwt.keeps hd, hw', fun k he hf => ?_, fun k hk => ?_, h1, fun hf => ?_⟩, hwt.keeps.at h.obj h2, h.lo, h.x, h.t0.keeps hwt.keeps (fun h0 => by have := hlo 0 (Or.inr h0); have := h.pos; omega), h.below.trans hbb, h.pos⟩
  · rcases hwt.fresh k hf with f | f
    · exact hd k he f
    · have := hr.lt k he
      omega
  · rcases hk with hk | hk
    · exact hlo k (Or.inl hk)
    · rcases hwt.fresh k hk with f | f
      · exact hlo k (Or.inr f)
      · have := h.below.size
        omega
  · rcases hwt.fresh b hf with f | f
    · exact h2 f
    · have := (Array.getElem?_eq_some_iff.1 h.obj).1
      omega
theorem BK.still {w0 : World} {q : RP} {p : Pl} {c : R.Cf} {s : RS} {G : R.Wd} {b : Nat} {o : Obj} {w w' : World} (h : BK w0 q p c s G b o w) (hb : Below w.heap.size w w') : BK w0 q p c s G b o w' := by
  obtain ⟨tp, E, F, a1, a2, a3, a4, a5, a6⟩ := h.run
  exact h.world a1 a3 a4 a5 a6 (a2.below hb) (Went.ofBelow F hb)
theorem fold_seen : ∀ (n : Nat) {G : R.Wd}, G.seen = List.replicate 9 R.sn0 → (List.range n).foldl R.tickSeen G = G
  | 0, _, _ => rfl
  | n + 1, G, h => by
    rw [List.range_succ, List.foldl_append, fold_seen n h]
    simp only [List.foldl_cons, List.foldl_nil]
    have hs : R.seenP G n = R.sn0 := by
      unfold R.seenP
      rw [h, List.getElem?_replicate]
      split <;> rfl
    unfold R.tickSeen
    simp only
    rw [hs]
    rfl
theorem tick_cold {G : R.Wd} (h : (R.tickLines G).seen = List.replicate 9 R.sn0) : R.tickP G = R.tickLines G := fold_seen 9 h
theorem BK.tick {w0 : World} {q : RP} {p : Pl} {c : R.Cf} {s : RS} {G : R.Wd} {b : Nat} {o : Obj} {w : World} (h : BK w0 q p c s G b o w) (hsn : (R.tickLines G).seen = List.replicate 9 R.sn0) : Calls Tryz.prog 15 #[ptr q.x] w fun e w' => e = .returned (.tuple #[]) ∧ BK w0 q p c s (R.tickLines G) b o w' := by
  obtain ⟨tp, E, F, a1, a2, a3, a4, a5, a6⟩ := h.run
  rw [h.x]
  have ht := a2.tick
  rw [tick_cold hsn] at ht
  refine ht.mono ?_
  rintro e w' ⟨rfl, F', q1, q2⟩
  exact ⟨rfl, h.world a1 a3 a4 a5 a6 q1 q2⟩
theorem BK.put {w0 : World} {q : RP} {p : Pl} {c : R.Cf} {s : RS} {G : R.Wd} {b : Nat} {cs : List Value} {t : TypeId} {fz : Nat × Nat} {w : World} (h : BK w0 q p c s G b (.cells cs.toArray t fz) w) (off : Nat) (v : Value) : BK w0 q p c s G b (.cells (cs.set off v).toArray t fz) (w.setCell ⟨b, off, none⟩ v) := by
  obtain ⟨tp, E, F, a1, a2, a3, a4, a5, a6⟩ := h.run
  have hk : Keeps (fun k => k = b) w (w.setCell ⟨b, off, none⟩ v) := keeps_one v
  refine ⟨⟨tp, E, F, a1.elsewhere hk (fun k he e => a5 (e ▸ he)), a2.elsewhere hk (fun k hf e => a6 (e ▸ hf)), a3, a4, a5, a6⟩, heap_store h.obj v, h.lo, h.x, h.t0.keeps hk (fun e => by have := h.lo; have := h.pos; omega), h.below.trans (hk.below h.below.size (fun k e => by rw [e]; exact h.lo)), h.pos⟩
theorem Both.showW {w0 : World} {q : RP} {p : Pl} {c : R.Cf} {s : RS} {G : R.Wd} {w : World} (h : Both w0 q p c s G w) {i : Nat} {f : R.Fl} (hf : G.flying[i]? = some f) : Calls Tryz.prog 13 #[ptr q.x, .int .i64 (i : Int)] w fun e w' => e = .returned (.tuple #[.int .i64 f.to, .string (str f.s), .int .i64 0]) ∧ Below w.heap.size w w' := by
  obtain ⟨tp, E, F, a1, a2, a3, a4⟩ := h.run
  rw [h.x]
  exact a2.showAt hf
theorem Both.flyW {w0 : World} {q : RP} {p : Pl} {c : R.Cf} {s : RS} {G : R.Wd} {w : World} (h : Both w0 q p c s G w) : Calls Tryz.prog 17 #[ptr q.x] w fun e w' => e = .returned (.int .i64 (G.flying.length : Int)) ∧ w' = w := by
  obtain ⟨tp, E, F, a1, a2, a3, a4⟩ := h.run
  rw [h.x]
  exact a2.flying
end Go.Proofs.YtblomippkddgiaaGreatDoor
/-
  Patience, pure: what the ticks leave as it is, and the packets that are shown.
-/
namespace Go.Proofs.YtblomippkddgiaaGreatDoor

/- what a second call asks for -/
structure Kp (S : List R.Sv) (B : List Int) (G : R.Wd) : Prop where
  sv : G.services = S
  bd : ∃ cl, G.clients[0]? = some cl ∧ cl.bound = B
  sn : G.seen = List.replicate 9 R.sn0
theorem Kp.set {S : List R.Sv} {B : List Int} {G : R.Wd} (h : Kp S B G) (i k : Nat) (l : R.Ln) : Kp S B (R.setLine G i k l) := by
  obtain ⟨cl, h1, h2⟩ := h.bd
  refine ⟨h.sv, ?_, h.sn⟩
  rw [R.setLine_client, h1]
  simp only [Option.map_some]
  refine ⟨_, rfl, ?_⟩
  split <;> exact h2
theorem Kp.send {S : List R.Sv} {B : List Int} {G : R.Wd} (h : Kp S B G) (to : Int) (p : Pk) : Kp S B (R.sendP G to p) := by
  unfold R.sendP
  split
  · exact ⟨h.sv, h.bd, h.sn⟩
  · exact h
theorem Kp.line {S : List R.Sv} {B : List Int} {G : R.Wd} (h : Kp S B G) (i k : Nat) : Kp S B (R.tickLine G i k) := by
  unfold R.tickLine
  simp only
  split
  · exact h
  · split
    · exact h.set i k _
    · split
      · exact h.set i k _
      · split
        · exact (h.set i k _).send _ _
        · exact (h.set i k _).send _ _
theorem Kp.tickC {S : List R.Sv} {B : List Int} {G : R.Wd} (h : Kp S B G) (i : Nat) : ∀ n, Kp S B (YtblomippkddgiaaGreatDoor.tickC G i n)
  | 0 => h
  | n + 1 => by
    rw [tickC_succ]
    exact (h.tickC i n).line i n
theorem Kp.tickW {S : List R.Sv} {B : List Int} {G : R.Wd} (h : Kp S B G) : ∀ n, Kp S B (YtblomippkddgiaaGreatDoor.tickW G n)
  | 0 => h
  | n + 1 => by
    rw [tickW_succ]
    exact (h.tickW n).tickC n _
theorem Kp.tick {S : List R.Sv} {B : List Int} {G : R.Wd} (h : Kp S B G) : Kp S B (R.tickLines G) := by
  rw [tickLines_eq]
  exact h.tickW _
theorem Kp.called {S : List R.Sv} {B : List Int} {G : R.Wd} (h : Kp S B G) (l : R.Ln) (k : Nat) (m : List UInt8) : Kp S B (calledG G l k m) := (h.set 0 0 _).send _ _

/- the packets that are shown are right -/
theorem shown_right {m : List UInt8} (h2 : 2 ≤ m.length) (h72 : m.length ≤ 72) {k : Nat} (hk : k < 3) {sq : Int} (hs : 1 ≤ sq ∧ sq ≤ 999) (pl : Bool) : RightP ⟨1, 0, 1, 0, sq, (k : Int) + 1, 0, R.piecesP m, pl, R.pieceP m 0⟩ := by
  have hp := R.pieces_le h72
  have hp1 := R.pieces_pos (s := m) (by omega)
  have hb := R.piece_body (s := m) (k := 0) (by omega)
  refine ⟨by simp, by simp, by simp, by simp, by simp only; omega, by simp only; omega, by simp only; omega, by simp only; omega, ?_⟩
  unfold bodyOk
  rw [if_pos (Or.inl rfl)]
  exact hb
def firstF (sq : Int) (k : Nat) (m : List UInt8) : R.Fl := ⟨-1, sealB ⟨1, 0, 1, 0, sq, (k : Int) + 1, 0, R.piecesP m, decide (0 < R.piecesP m - 1), R.pieceP m 0⟩, false⟩
def nextPk (sq : Int) (k : Nat) (m : List UInt8) : Pk := ⟨1, 0, 1, 0, sq, (k : Int) + 1, 0, R.piecesP m, true, R.pieceP m 0⟩
end Go.Proofs.YtblomippkddgiaaGreatDoor
/-
  A region whose last store writes a cell that one of its loads reads: the condition on the world is S behind every operation, and T besides as long as operation number k (that store) has not come up. The load waits for nobody but the store waits for it, so it may be taken first.
-/
namespace Go.Proofs.YtblomippkddgiaaGreatDoor
open Go

section
variable {P : Program} {ops : Array Oper} {Q : Exit → Act → World → Prop} {md : Region.Mode} {S T U : World → Prop} {k : Nat}

/-- Whatever order is picked from here on; behind every operation S holds, and T while number k has not come up. -/
def wpAnyK (P : Program) (md : Region.Mode) (ops : Array Oper) (Q : Exit → Act → World → Prop) (S T : World → Prop) (k : Nat) : Nat → Array Bool → Act → World → Prop
  | 0, listed, a, w => Region.ready md ops listed = [] ∧ Q .normal a w
  | fuel + 1, listed, a, w =>
    (Region.ready md ops listed = [] → Q .normal a w) ∧
    ∀ i ∈ Region.ready md ops listed, wpOp P ops Q i (fun a' w' => (S w' ∧ ((listed.setIfInBounds i true).getD k true = false → T w')) ∧ wpAnyK P md ops Q S T k fuel (listed.setIfInBounds i true) a' w') a w

theorem wpAny_of_K : ∀ (fuel : Nat) (listed : Array Bool) (a : Act) (w : World), wpAnyK P md ops Q S T k fuel listed a w → wpAny P md ops Q fuel listed a w
  | 0, _, _, _, h => h
  | fuel + 1, _, _, _, h => ⟨h.1, fun i hi => wpOp_mono (fun a' w' h' => wpAny_of_K fuel _ a' w' h'.2) (h.2 i hi)⟩

/-- What has come up has all that it waits for behind it. -/
def Down (md : Region.Mode) (ops : Array Oper) (listed : Array Bool) : Prop :=
  ∀ j oj, ops[j]? = some oj → listed.getD j true = true → ∀ e ∈ oj.after, Region.binds md e = true → listed.getD e.on false = true

theorem Down.set {listed : Array Bool} {j : Nat} (h : Down md ops listed) (hj : j ∈ Region.ready md ops listed) : Down md ops (listed.setIfInBounds j true) := by
  intro i oi hoi hl e he hb
  by_cases hij : j = i
  · subst hij
    obtain ⟨_, oj, hoj, hall⟩ := mem_ready.1 hj
    rw [hoi] at hoj
    cases hoj
    exact getD_set_true (hall e he hb)
  · rw [getD_set_ne true hij] at hl
    exact getD_set_true (h i oi hoi hl e he hb)

/-- Number k waits for number i, straight or by way of others. -/
inductive Waits (md : Region.Mode) (ops : Array Oper) : Nat → Nat → Prop
  | one {k i : Nat} {ok : Oper} {e : Edge} (hk : ops[k]? = some ok) (he : e ∈ ok.after) (hb : Region.binds md e = true) (hi : e.on = i) : Waits md ops k i
  | more {k j i : Nat} (h : Waits md ops k j) (h' : Waits md ops j i) : Waits md ops k i

/-- Number k waits for number i straight, as the kernel reckons it. -/
def straight (md : Region.Mode) (ops : Array Oper) (k i : Nat) : Bool :=
  match ops[k]? with
  | some ok => ok.after.any fun e => Region.binds md e && e.on == i
  | none => false

theorem Waits.of {i : Nat} (h : straight md ops k i = true) : Waits md ops k i := by
  unfold straight at h
  split at h
  · rename_i ok hok
    simp only [Array.any_eq_true', Bool.and_eq_true, beq_iff_eq] at h
    obtain ⟨e, he, hb, hi⟩ := h
    exact .one hok he hb hi
  · cases h

theorem getD_ft {listed : Array Bool} {i : Nat} (h : listed.getD i false = true) : listed.getD i true = true := by
  rcases Nat.lt_or_ge i listed.size with h' | h'
  · simp [h'] at h ⊢; exact h
  · simp [Array.getElem?_eq_none h'] at h

theorem Waits.unlisted {i : Nat} {listed : Array Bool} (h : Waits md ops k i) (hd : Down md ops listed) (hi : listed.getD i true = false) : listed.getD k true = false := by
  induction h with
  | one hk he hb hi' =>
    rename_i kk ii ok e
    cases hc : listed.getD kk true with
    | false => rfl
    | true =>
      have := getD_ft (hd _ _ hk hc _ he hb)
      rw [hi', hi] at this
      cases this
  | more _ _ ih1 ih2 => exact ih1 (ih2 hi)

/-- An operation that may come up now may be taken first. -/
theorem wpAnyK_first {i : Nat} {oi : Oper} {v : Value} (hi : ops[i]? = some oi) (hsel : ∀ (j : Nat) (o : Oper) cs b, ops[j]? = some o → o.op ≠ .select cs b)
    (hQ : ∀ c a w, Q (.panic c) (a.put oi.dst v) w → Q (.panic c) a w) (hik : i ≠ k)
    (hU : ∀ (listed : Array Bool) w, Down md ops listed → listed.getD i true = false → S w → (listed.getD k true = false → T w) → U w) :
    ∀ (fuel : Nat) (listed : Array Bool) (a : Act) (w : World), Down md ops listed →
      (∀ j oj, ops[j]? = some oj → j ≠ i → listed.getD j true = false → (∀ e ∈ oj.after, Region.binds md e = true → e.on ≠ i) → oi.apart ops oj = true) →
      i ∈ Region.ready md ops listed → YieldsIf P ops U oi v a → S w → (listed.getD k true = false → T w) →
      wpAnyK P md ops Q S T k fuel (listed.setIfInBounds i true) (a.put oi.dst v) w → wpAnyK P md ops Q S T k (fuel + 1) listed a w := by
  intro fuel
  induction fuel with
  | zero =>
    intro listed a w hd _ hr hy hS hT H
    refine ⟨fun h => (by rw [h] at hr; cases hr), fun j hj => ?_⟩
    by_cases hji : j = i
    · subst hji
      exact hy.wpOp hi (hU _ _ hd (mem_ready.1 hr).1 hS hT) ⟨⟨hS, by rw [getD_set_ne true hik]; exact hT⟩, H⟩
    · have := ready_mono hj hji
      rw [H.1] at this
      cases this
  | succ fuel ih =>
    intro listed a w hd hfree hr hy hS hT H
    refine ⟨fun h => (by rw [h] at hr; cases hr), fun j hj => ?_⟩
    by_cases hji : j = i
    · subst hji
      exact hy.wpOp hi (hU _ _ hd (mem_ready.1 hr).1 hS hT) ⟨⟨hS, by rw [getD_set_ne true hik]; exact hT⟩, H⟩
    · have h1 := H.2 j (ready_mono hj hji)
      obtain ⟨hjun, oj, hoj, hall⟩ := mem_ready.1 hj
      have hnot : ∀ e ∈ oj.after, Region.binds md e = true → e.on ≠ i := fun e he hb heq => by
        have h1 := hall e he hb
        have h0 := (mem_ready.1 hr).1
        rw [heq] at h1
        rcases Nat.lt_or_ge i listed.size with h' | h'
        · simp [h'] at h0 h1; rw [h0] at h1; cases h1
        · simp [Array.getElem?_eq_none h'] at h1
      have h2 := wpOp_putIf hoj (hfree j oj hoj hji hjun hnot) (fun cs b => hsel i oi cs b hi) (fun cs b => hsel j oj cs b hoj) hQ hy h1
      have hfree' : ∀ k ok, ops[k]? = some ok → k ≠ i → (listed.setIfInBounds j true).getD k true = false →
          (∀ e ∈ ok.after, Region.binds md e = true → e.on ≠ i) → oi.apart ops ok = true := fun k ok hk hki hun hno => by
        refine hfree k ok hk hki ?_ hno
        by_cases hjk : j = k
        · subst hjk; exact hjun
        · rw [getD_set_ne true hjk] at hun; exact hun
      refine wpOp_mono (fun a' w' h3 => ?_) h2
      have hT' : (listed.setIfInBounds j true).getD k true = false → T w' := fun h => h3.2.1.2 (by
        rw [Array.setIfInBounds_comm _ _ (Ne.symm hji), getD_set_ne true hik]; exact h)
      refine ⟨⟨h3.2.1.1, hT'⟩, ih (listed.setIfInBounds j true) a' w' (hd.set hj) hfree' (ready_mono hr (Ne.symm hji)) h3.1 h3.2.1.1 hT' ?_⟩
      rw [Array.setIfInBounds_comm _ _ hji]
      exact h3.2.2

/-- What a walk carries along: the region's order so far, and the two conditions. -/
structure HeldK (md : Region.Mode) (ops : Array Oper) (S T : World → Prop) (k : Nat) (listed : Array Bool) (w : World) : Prop where
  down : Down md ops listed
  s : S w
  t : listed.getD k true = false → T w

theorem HeldK.set {listed : Array Bool} {w : World} {i : Nat} (h : HeldK md ops S T k listed w) (hr : (Region.ready md ops listed).contains i = true) (hik : (i == k) = false) : HeldK md ops S T k (listed.setIfInBounds i true) w :=
  ⟨h.down.set (by simpa using hr), h.s, by rw [getD_set_ne true (by simpa using hik)]; exact h.t⟩

/-- Take number i first, that yields in every world that meets S. -/
theorem wpAnyK_take {i : Nat} {oi : Oper} {v : Value} {fuel : Nat} {listed : Array Bool} {a : Act} {w : World} (hi : ops[i]? = some oi)
    (hs : Region.noSelect ops = true) (hf : Region.free md ops listed i = true) (hr : (Region.ready md ops listed).contains i = true) (hik : (i == k) = false)
    (hQ : ∀ c a w, Q (.panic c) (a.put oi.dst v) w → Q (.panic c) a w) (hy : YieldsIf P ops S oi v a) (hH : HeldK md ops S T k listed w)
    (h : HeldK md ops S T k (listed.setIfInBounds i true) w → wpAnyK P md ops Q S T k fuel (listed.setIfInBounds i true) (a.put oi.dst v) w) : wpAnyK P md ops Q S T k (fuel + 1) listed a w :=
  wpAnyK_first (U := S) hi (Region.noSelect_spec hs) hQ (by simpa using hik) (fun _ _ _ _ h _ => h) fuel listed a w hH.down (Region.free_spec hi hf) (by simpa using hr) hy hH.s hH.t (h (hH.set hr hik))

/-- Take number i first, for which number k waits: it yields in every world that meets S and T. -/
theorem wpAnyK_take2 {i : Nat} {oi : Oper} {v : Value} {fuel : Nat} {listed : Array Bool} {a : Act} {w : World} (hi : ops[i]? = some oi)
    (hs : Region.noSelect ops = true) (hf : Region.free md ops listed i = true) (hr : (Region.ready md ops listed).contains i = true) (hik : (i == k) = false) (hw : Waits md ops k i)
    (hQ : ∀ c a w, Q (.panic c) (a.put oi.dst v) w → Q (.panic c) a w) (hy : YieldsIf P ops (fun w => S w ∧ T w) oi v a) (hH : HeldK md ops S T k listed w)
    (h : HeldK md ops S T k (listed.setIfInBounds i true) w → wpAnyK P md ops Q S T k fuel (listed.setIfInBounds i true) (a.put oi.dst v) w) : wpAnyK P md ops Q S T k (fuel + 1) listed a w :=
  wpAnyK_first (U := fun w => S w ∧ T w) hi (Region.noSelect_spec hs) hQ (by simpa using hik) (fun _ _ hd hun h ht => ⟨h, ht (hw.unlisted hd hun)⟩) fuel listed a w hH.down (Region.free_spec hi hf) (by simpa using hr) hy hH.s hH.t (h (hH.set hr hik))

def AllReadyK (P : Program) (md : Region.Mode) (ops : Array Oper) (Q : Exit → Act → World → Prop) (S T : World → Prop) (k : Nat) (fuel : Nat) (listed : Array Bool) (a : Act) (w : World) (rs : List Nat) : Prop :=
  ∀ i ∈ rs, wpOp P ops Q i (fun a' w' => (S w' ∧ ((listed.setIfInBounds i true).getD k true = false → T w')) ∧ wpAnyK P md ops Q S T k fuel (listed.setIfInBounds i true) a' w') a w

theorem AllReadyK.nil {fuel : Nat} {listed : Array Bool} {a : Act} {w : World} : AllReadyK P md ops Q S T k fuel listed a w [] := fun _ h => by cases h

theorem AllReadyK.cons {fuel : Nat} {listed : Array Bool} {a : Act} {w : World} {i : Nat} {o : Oper} {rs : List Nat} (ho : ops[i]? = some o)
    (hd : Down md ops listed) (hr : (Region.ready md ops listed).contains i = true)
    (h : ∀ K' : Act → World → Prop, Shut (∀ a w, S w → ((listed.setIfInBounds i true).getD k true = false → T w) → (HeldK md ops S T k (listed.setIfInBounds i true) w → wpAnyK P md ops Q S T k fuel (listed.setIfInBounds i true) a w) → K' a w) → if Region.wanted o (yielded ops a.tmps) = true then Oper.wp P o a w K' Q else K' (a.put o.dst undef) w)
    (hs : AllReadyK P md ops Q S T k fuel listed a w rs) : AllReadyK P md ops Q S T k fuel listed a w (i :: rs) := fun j hj => by
  rcases List.mem_cons.1 hj with rfl | hj
  · exact wpOp_step ho (fun K' hK => h K' (fun a w hS hT hW => hK a w ⟨⟨hS, hT⟩, hW ⟨hd.set (by simpa using hr), hS, hT⟩⟩))
  · exact hs j hj

theorem wpAnyK_ready {rs : List Nat} {fuel : Nat} {listed : Array Bool} {a : Act} {w : World} (hr : Region.ready md ops listed = rs) (hne : rs ≠ [])
    (h : AllReadyK P md ops Q S T k fuel listed a w rs) : wpAnyK P md ops Q S T k (fuel + 1) listed a w :=
  ⟨fun h0 => absurd (hr ▸ h0) hne, hr ▸ h⟩

theorem wpAnyK_done {listed : Array Bool} {a : Act} {w : World} (hr : Region.ready md ops listed = []) (h : Q .normal a w) :
    ∀ fuel, wpAnyK P md ops Q S T k fuel listed a w
  | 0 => ⟨hr, h⟩
  | _ + 1 => ⟨fun _ => h, by rw [hr]; simp⟩

theorem wp_region_K {id : Nat} {a : Act} {w : World} (hm : P.follows .mixedOrders = true) (hS : S w.drew) (hT : T w.drew)
    (h : HeldK .any ops S T k (Array.replicate ops.size false) w.drew → wpAnyK P .any ops Q S T k ops.size (Array.replicate ops.size false) a w.drew) : (Code.region id ops true).wp P Q a w :=
  wp_region_any hm (wpAny_of_K _ _ _ _ (h ⟨fun j oj hoj hl => by
    have hlt := (Array.getElem?_eq_some_iff.1 hoj).1
    simp [hlt] at hl, hS, fun _ => hT⟩))

/-- The walk's goal: what is carried along is asked for here, not kept among the hypotheses. -/
def WK (P : Program) (md : Region.Mode) (ops : Array Oper) (Q : Exit → Act → World → Prop) (S T : World → Prop) (k : Nat) (fuel : Nat) (listed : Array Bool) (a : Act) (w : World) : Prop :=
  HeldK md ops S T k listed w → wpAnyK P md ops Q S T k fuel listed a w

theorem WK.take {i : Nat} {oi : Oper} {v : Value} {fuel : Nat} {listed : Array Bool} {a : Act} {w : World} (hi : ops[i]? = some oi)
    (hs : Region.noSelect ops = true) (hf : Region.free md ops listed i = true) (hr : (Region.ready md ops listed).contains i = true) (hik : (i == k) = false)
    (hQ : ∀ c a w, Q (.panic c) (a.put oi.dst v) w → Q (.panic c) a w) (hy : YieldsIf P ops S oi v a)
    (h : WK P md ops Q S T k fuel (listed.setIfInBounds i true) (a.put oi.dst v) w) : WK P md ops Q S T k (fuel + 1) listed a w :=
  fun hH => wpAnyK_take hi hs hf hr hik hQ hy hH h

theorem WK.take2 {i : Nat} {oi : Oper} {v : Value} {fuel : Nat} {listed : Array Bool} {a : Act} {w : World} (hi : ops[i]? = some oi)
    (hs : Region.noSelect ops = true) (hf : Region.free md ops listed i = true) (hr : (Region.ready md ops listed).contains i = true) (hik : (i == k) = false) (hw : Waits md ops k i)
    (hQ : ∀ c a w, Q (.panic c) (a.put oi.dst v) w → Q (.panic c) a w) (hy : YieldsIf P ops (fun w => S w ∧ T w) oi v a)
    (h : WK P md ops Q S T k fuel (listed.setIfInBounds i true) (a.put oi.dst v) w) : WK P md ops Q S T k (fuel + 1) listed a w :=
  fun hH => wpAnyK_take2 hi hs hf hr hik hw hQ hy hH h

/-- The one that comes up: number i, not k. -/
theorem WK.one {i : Nat} {o : Oper} {fuel : Nat} {listed : Array Bool} {a : Act} {w : World} (hr : Region.ready md ops listed = [i]) (ho : ops[i]? = some o)
    (h : ∀ K' : Act → World → Prop, Shut (∀ a w, S w → T w → WK P md ops Q S T k fuel (listed.setIfInBounds i true) a w → K' a w) → if Region.wanted o (yielded ops a.tmps) = true then Oper.wp P o a w K' Q else K' (a.put o.dst undef) w) : WK P md ops Q S T k (fuel + 1) listed a w :=
  fun hH => wpAnyK_ready hr (by simp) (AllReadyK.cons ho hH.down (by rw [hr]; simp) (fun K' hK => h K' fun a w hS hT hW => hK a w hS (fun _ => hT) hW) AllReadyK.nil)

/-- The one that comes up: number k. -/
theorem WK.store {o : Oper} {fuel : Nat} {listed : Array Bool} {a : Act} {w : World} (hr : Region.ready md ops listed = [k]) (ho : ops[k]? = some o)
    (h : ∀ K' : Act → World → Prop, Shut (∀ a w, S w → WK P md ops Q S T k fuel (listed.setIfInBounds k true) a w → K' a w) → if Region.wanted o (yielded ops a.tmps) = true then Oper.wp P o a w K' Q else K' (a.put o.dst undef) w) : WK P md ops Q S T k (fuel + 1) listed a w :=
  fun hH => wpAnyK_ready hr (by simp) (AllReadyK.cons ho hH.down (by rw [hr]; simp) (fun K' hK => h K' fun a w hS hW => hK a w hS (fun hc => by
    exfalso
    rcases Nat.lt_or_ge k listed.size with h' | h'
    · simp [h'] at hc
    · simp [Nat.not_lt.2 h'] at hc) hW) AllReadyK.nil)

theorem WK.done {listed : Array Bool} {a : Act} {w : World} {fuel : Nat} (hr : Region.ready md ops listed = []) (h : Q .normal a w) : WK P md ops Q S T k fuel listed a w :=
  fun _ => wpAnyK_done hr h fuel

theorem WK.begin {id : Nat} {a : Act} {w : World} (hm : P.follows .mixedOrders = true) (hS : S w.drew) (hT : T w.drew)
    (h : WK P .any ops Q S T k ops.size (Array.replicate ops.size false) a w.drew) : (Code.region id ops true).wp P Q a w :=
  wp_region_K hm hS hT h

end
end Go.Proofs.YtblomippkddgiaaGreatDoor
