/-
  Joined: Tick Msg.
-/
import Derived.Test.YthofebmiggodhaaDoorJ28
import Derived.Test.YthofebmiggodhaaDoorJ18
/-
  Time goes by: for a client, for a world.
-/
namespace Go.Proofs.YthofebmiggodhaaDoor
open Go.RowKit

set_option maxRecDepth 100000 in
set_option maxHeartbeats 2000000 in
theorem tick_walk (w : World) (cb lb nl : Nat) (I : Nat → World → Prop) (h0 : I 0 w) (hc : Hid (∀ k wr, I k wr → wr.cell? ⟨cb, 3, none⟩ = some (.slice (some ⟨lb, 0, none⟩) nl nl)))
    (hr : Hid (∀ k wr, k < nl → I k wr → ∃ st, wr.cell? ⟨lb, k * 8, none⟩ = some (.int .i64 st) ∧ (st = 1 → Calls Tryd.prog 47 #[ptr cb, .int .i64 (k : Int)] wr fun e w' => e = .returned (.tuple #[]) ∧ I (k + 1) w') ∧ (¬ st = 1 → I (k + 1) wr))) (hn : nl ≤ 1000) :
    Calls Tryd.prog 28 #[ptr cb] w fun e w' => e = .returned (.tuple #[]) ∧ I nl w' := by
  have b3 := (unhide hc) 0 w h0
  have H0 := hide h0
  clear h0
  go_enter Tryd.func28, Tryd.ntmps28
  go_wp2
  go_loopw [8] (fun iv wr => ∃ k : Nat, k ≤ nl ∧ iv = .int .i64 k ∧ I k wr) (fun iv _ => nl - (intOf iv).toNat)
  case atStart => exact ⟨0, Nat.zero_le _, rfl, unhide H0⟩
  case round =>
    obtain ⟨k, hk, rfl, hI⟩ := hrel
    have d3 := (unhide hc) k wr hI
    by_cases hlt : k < nl
    · obtain ⟨st, hst, hyes, hno⟩ := (unhide hr) k wr hlt hI
      have HY := hide hyes
      have HN := hide hno
      clear hyes hno
      by_cases h1 : st = 1
      · have HC := hide ((unhide HY) h1)
        subst h1
        go_wp2_with (first | (go_at_call 47; refine (unhide HC).mono ?_; rintro e w3 ⟨rfl, hw3⟩))
        go_roundw
        case rel => exact ⟨k + 1, by omega, by go_num, hw3⟩
        case measure => simp [intOf]; omega
      · have e1 : (st == 1) = false := by simpa using h1
        have HI := hide ((unhide HN) h1)
        go_wp2
        go_roundw
        case rel => exact ⟨k + 1, by omega, by go_num, unhide HI⟩
        case measure => simp [intOf]; omega
    · obtain rfl : k = nl := by omega
      go_wp2
      go_returns
      exact ⟨rfl, hI⟩

set_option maxRecDepth 100000 in
set_option maxHeartbeats 2000000 in
theorem ticks_walk (w : World) (x cs n cap : Nat) (cb : Nat → Nat) (I : Nat → World → Prop) (h0 : I 0 w) (hx : w.cell? ⟨x, 2, none⟩ = some (.slice (some ⟨cs, 0, none⟩) n cap))
    (hr : Hid (∀ i wr, i < n → I i wr → wr.cell? ⟨cs, i, none⟩ = some (ptr (cb i)) ∧ Calls Tryd.prog 28 #[ptr (cb i)] wr fun e w' => e = .returned (.tuple #[]) ∧ I (i + 1) w')) (hn : n ≤ 1000) :
    Calls Tryd.prog 14 #[ptr x] w fun e w' => e = .returned (.tuple #[]) ∧ I n w' := by
  have H0 := hide h0
  clear h0
  go_enter Tryd.func14, Tryd.ntmps14
  go_wp2
  go_loopw [9] (fun iv wr => ∃ k : Nat, k ≤ n ∧ iv = .int .i64 k ∧ I k wr) (fun iv _ => n - (intOf iv).toNat)
  case atStart => exact ⟨0, Nat.zero_le _, rfl, unhide H0⟩
  case round =>
    obtain ⟨k, hk, rfl, hI⟩ := hrel
    by_cases hlt : k < n
    · obtain ⟨hst, hC⟩ := (unhide hr) k wr hlt hI
      have HC := hide hC
      clear hC
      go_wp2_with (first | (go_at_call 28; refine (unhide HC).mono ?_; rintro e w3 ⟨rfl, hw3⟩))
      go_roundw
      case rel => exact ⟨k + 1, by omega, by go_num, hw3⟩
      case measure => simp [intOf]; omega
    · obtain rfl : k = n := by omega
      go_wp2
      go_returns
      exact ⟨rfl, hI⟩

/- the document's ticks -/
def tickC (G : R.Wd) (i n : Nat) : R.Wd := (List.range n).foldl (fun (G : R.Wd) (k : Nat) => R.tickLine G (i : Int) (k : Int)) G
theorem tickC_succ (G : R.Wd) (i n : Nat) : tickC G i (n + 1) = R.tickLine (tickC G i n) i n := by
  simp [tickC, List.range_succ]
theorem sendP_c (G : R.Wd) (to : Int) (p : Pk) : (R.sendP G to p).c = G.c := by unfold R.sendP; split <;> rfl
theorem sendP_clients (G : R.Wd) (to : Int) (p : Pk) : (R.sendP G to p).clients = G.clients := by unfold R.sendP; split <;> rfl
theorem tickLine_c (G : R.Wd) (i k : Nat) : (R.tickLine G i k).c = G.c := by
  unfold R.tickLine R.sendPieceP R.probeP
  simp only
  repeat' split
  all_goals first | rfl | (rw [sendP_c]; rfl)
theorem tickC_c (G : R.Wd) (i n : Nat) : (tickC G i n).c = G.c := by
  induction n with
  | zero => rfl
  | succ n ih => rw [tickC_succ, tickLine_c, ih]
theorem tickLine_idle {G : R.Wd} {i k : Nat} {l : R.Ln} (hl : R.lineP G i k = l) (h : ¬ l.state = 1) : R.tickLine G i k = G := by
  unfold R.tickLine
  simp only [hl]
  rw [if_pos h]

theorem LW.tickC {p : Pl} {F : Foot} {G : R.Wd} {w : World} (h : LW p F G w) {i : Nat} (hi : i < G.clients.length) :
    Calls Tryd.prog 28 #[ptr (p.cb i)] w fun e w' => e = .returned (.tuple #[]) ∧ ∃ F', LW p F' (YthofebmiggodhaaDoor.tickC G i G.c.lines.toNat) w' ∧ Went F F' w w' := by
  have get : ∀ {F' : Foot} {n : Nat} {wr : World}, LW p F' (YthofebmiggodhaaDoor.tickC G i n) wr → ∃ c, (YthofebmiggodhaaDoor.tickC G i n).clients[i]? = some c ∧ c.lines.length = G.c.lines.toNat := fun {F' n wr} hw => by
    have e1 := hw.wf.ncl
    have e0 := h.wf.ncl
    rw [tickC_c, ← e0] at e1
    have hlt : i < (YthofebmiggodhaaDoor.tickC G i n).clients.length := by omega
    refine ⟨_, List.getElem?_eq_getElem hlt, ?_⟩
    have := (hw.wf.cl i _ (List.getElem?_eq_getElem hlt)).lines
    rw [tickC_c] at this
    omega
  have hlb : ∀ {F' : Foot} {n : Nat} {wr : World}, LW p F' (YthofebmiggodhaaDoor.tickC G i n) wr → wr.cell? ⟨p.cb i, 3, none⟩ = some (.slice (some ⟨p.lb i, 0, none⟩) G.c.lines.toNat G.c.lines.toNat) := fun {F' n wr} hw => by
    obtain ⟨c, hc, hl⟩ := get hw
    have := (clAt hw hc).a3
    rw [hl] at this
    exact this
  have hcf := h.wf.cf
  unfold R.okCf at hcf
  refine tick_walk w (p.cb i) (p.lb i) G.c.lines.toNat (fun n wr => ∃ F', LW p F' (YthofebmiggodhaaDoor.tickC G i n) wr ∧ Went F F' w wr) ⟨F, h, Went.refl F w⟩ ?_ ?_ (by omega)
  · rintro k wr ⟨F', hw, _⟩
    exact hlb hw
  · rintro k wr hk ⟨F', hw, hwt⟩
    obtain ⟨c, hc, hl⟩ := get hw
    have hlk : c.lines[k]? = some (c.lines[k]'(by omega)) := List.getElem?_eq_getElem (by omega)
    obtain ⟨xs, x, hL, hR, hx, hx1, hla⟩ := hw.line hc hlk
    refine ⟨x.state, hla.a0, fun h1 => ?_, fun h1 => ?_⟩
    · refine (hw.wait hc hlk (by rw [← hx1.state]; exact h1)).mono ?_
      rintro e w' ⟨rfl, F'', q1, q2⟩
      exact ⟨rfl, F'', by rw [tickC_succ]; exact q1, hwt.trans q2⟩
    · refine ⟨F', ?_, hwt⟩
      rw [tickC_succ, tickLine_idle (R.lineP_some hc hlk) (by rw [← hx1.state]; exact h1)]
      exact hw

def tickW (G : R.Wd) (n : Nat) : R.Wd := (List.range n).foldl (fun (G : R.Wd) (i : Nat) => YthofebmiggodhaaDoor.tickC G i G.c.lines.toNat) G
theorem tickW_succ (G : R.Wd) (n : Nat) : tickW G (n + 1) = YthofebmiggodhaaDoor.tickC (tickW G n) n (tickW G n).c.lines.toNat := by
  simp [tickW, List.range_succ]
theorem tickW_c (G : R.Wd) (n : Nat) : (tickW G n).c = G.c := by
  induction n with
  | zero => rfl
  | succ n ih => rw [tickW_succ, tickC_c, ih]
theorem tickLines_eq (G : R.Wd) : R.tickLines G = tickW G G.clients.length := rfl

theorem LW.tick {p : Pl} {F : Foot} {G : R.Wd} {w : World} (h : LW p F G w) :
    Calls Tryd.prog 14 #[ptr p.x] w fun e w' => e = .returned (.tuple #[]) ∧ ∃ F', LW p F' (R.tickLines G) w' ∧ Went F F' w w' := by
  rw [tickLines_eq]
  have hcf := h.wf.cf
  have e0 := h.wf.ncl
  unfold R.okCf at hcf
  refine ticks_walk w p.x p.cs G.clients.length p.cap p.cb (fun n wr => ∃ F', LW p F' (tickW G n) wr ∧ Went F F' w wr) ⟨F, h, Went.refl F w⟩ (cell_of h.bx 2 _ rfl) ?_ (by omega)
  rintro i wr hi ⟨F', hw, hwt⟩
  have e1 := hw.wf.ncl
  rw [tickW_c, ← e0] at e1
  have hlt : i < (tickW G i).clients.length := by omega
  obtain ⟨cur, h1, h2⟩ := hw.bcs
  refine ⟨by simp [World.cell?, h1, h2 i hlt], ?_⟩
  refine (hw.tickC hlt).mono ?_
  rintro e w' ⟨rfl, F'', q1, q2⟩
  exact ⟨rfl, F'', by rw [tickW_succ]; exact q1, hwt.trans q2⟩
end Go.Proofs.YthofebmiggodhaaDoor
/-
  The message of a call.
-/
namespace Go.Proofs.YthofebmiggodhaaDoor
open Go.RowKit

def msgPost (proc : Int) (T : ByteArray) (v : List V.It) (w : World) (e : Ending) (w' : World) : Prop :=
  (((V.mRes T v).1 = 0 ∧ e = .returned (.string (str (two8 proc ++ (V.mRes T v).2)))) ∨ (¬ (V.mRes T v).1 = 0 ∧ e = gaveUp (V.mRes T v).1 0)) ∧ Below w.heap.size w w'

set_option maxRecDepth 100000 in
set_option maxHeartbeats 2000000 in
theorem message_any (proc : Int) (hp : 0 ≤ proc ∧ proc ≤ 65535) (T : ByteArray) (hT : (V.Pt.chk (V.nx T) T.size).1 = 0) (X : Value) (v : List V.It) (w : World) (hI : V.Items w X v) (hn : v.length ≤ 9000000000000) :
    Calls Tryd.prog 54 #[.int .i64 proc, .string T, X] w (msgPost proc T v w) := by
  have HA := hide (appendTwo_any w.heap.size (.slice none 0 0) [] proc w (World.ownsRow_nil _ _ _ _) (Nat.le_refl _) (by simp) hp)
  have HS : Hid (∀ w', Calls Tryd.prog 75 #[.string T] w' fun e w'' => ∃ c0 c1 c2, e = .returned (.agg #[c0, c1, c2]) ∧ V.Rep w'' (fun k => w'.heap.size ≤ k) (V.nx T) (T.size + 1) 0 c0 c1 c2 ∧ Below w'.heap.size w' w'') := fun w' => by
    refine (V.shape_any T w').mono ?_
    rintro e w'' ⟨h1, h2⟩
    rw [if_pos hT] at h1
    obtain ⟨c0, c1, c2, rfl, h3⟩ := h1
    exact ⟨c0, c1, c2, rfl, h3, h2⟩
  have hG := V.good_of hT
  have HW : Hid (∀ w' c0 c1 c2 S, V.Rep w' S (V.nx T) (T.size + 1) 0 c0 c1 c2 → Below w.heap.size w w' → Calls Tryd.prog 74 #[.agg #[c0, c1, c2], X] w' fun e w'' => (((V.mRes T v).1 = 0 ∧ e = .returned (.string (str (V.mRes T v).2))) ∨ (¬ (V.mRes T v).1 = 0 ∧ e = gaveUp (V.mRes T v).1 0)) ∧ Below w'.heap.size w' w'') := fun w' c0 c1 c2 S hR hb => by
    refine (V.write_any T S c0 c1 c2 X v w' hR hG.ok hG.dep (hI.below hb) hn).mono ?_
    rintro e w'' ⟨h1, h2⟩
    have e1 : V.wRes (V.eat (V.nx T) (T.size + 1) 0 v) v = V.mRes T v := by unfold V.mRes; rw [if_pos hT]
    rw [e1] at h1
    unfold V.WPost at h1
    refine ⟨?_, h2⟩
    by_cases h0 : (V.mRes T v).1 = 0
    · rw [if_pos h0] at h1
      exact Or.inl ⟨h0, h1⟩
    · rw [if_neg h0] at h1
      exact Or.inr ⟨h0, h1⟩
  have hbl : (V.mRes T v).2.length ≤ 70 := by
    unfold V.mRes V.wRes
    rw [if_pos hT]
    split
    · simp
    · split
      · split
        · simp
        · rename_i h; simp only; omega
      · simp
  have HSUM : Hid (∀ w, (Op.stringOp .add (str (two8 proc)) (str (V.mRes T v).2)).run Tryd.prog w = .ok (.string (str (two8 proc ++ (V.mRes T v).2))) w) := fun w => by
    have e1 : str (two8 proc) ++ str (V.mRes T v).2 = str (two8 proc ++ (V.mRes T v).2) := by
      apply ByteArray.ext
      simp
    rw [← e1]
    exact run_string_add_sum w _ _ (by rw [str_size, str_size]; simp [two8]; omega)
  unfold msgPost
  generalize V.mRes T v = r at *
  clear hI hn hG hT
  go_enter Tryd.func54, Tryd.ntmps54
  go_wp2_with fail
  refine (unhide HA).mono ?_
  rintro e w1 ⟨O, rfl, hown, hb1⟩
  obtain ⟨oa, on, oc, hO⟩ := row_shape hown
  subst hO
  have hcv := hown.conv
  have HB1 := hide hb1
  simp only [List.nil_append] at hcv
  clear hown hb1
  generalize str (two8 proc) = S2 at *
  go_wp2_with fail
  refine ((unhide HS) _).mono ?_
  rintro e w2 ⟨c0, c1, c2, rfl, hR, hb2⟩
  have HB2 := hide ((unhide HB1).trans (hb2.mono (unhide HB1).size))
  have HC := hide ((unhide HW) w2 c0 c1 c2 _ hR (unhide HB2))
  clear hR hb2
  go_wp2_with fail
  refine (unhide HC).mono ?_
  rintro e w3 ⟨⟨h0, rfl⟩ | ⟨h0, rfl⟩, hb3⟩
  · have HB3 := hide ((unhide HB2).trans (hb3.mono (unhide HB2).size))
    have hsum := (unhide HSUM) w3
    clear hb3
    have H0 := hide h0
    clear h0
    go_wp2
    go_returns
    exact ⟨Or.inl ⟨unhide H0, rfl⟩, unhide HB3⟩
  · have HB3 := hide ((unhide HB2).trans (hb3.mono (unhide HB2).size))
    have H0 := hide h0
    clear h0 hb3
    go_wp2
    exact ⟨rfl, Or.inr ⟨unhide H0, rfl⟩, unhide HB3⟩
end Go.Proofs.YthofebmiggodhaaDoor
