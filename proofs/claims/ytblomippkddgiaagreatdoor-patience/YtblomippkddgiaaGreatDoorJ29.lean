/-
  Joined: Cli3 SRem SSend.
-/
import Derived.Test.YtblomippkddgiaaGreatDoorJ28
import Derived.WalkMore
import Derived.ScopeJumps
/-
  A client sends again; a tick goes by for a line.
-/
namespace Go.Proofs.YtblomippkddgiaaGreatDoor
open Go.RowKit

def againP (G : R.Wd) (i k : Nat) (l : R.Ln) : R.Wd := if l.acked < R.piecesP l.message then R.sendPieceP G i k true else R.probeP G i k

set_option maxRecDepth 100000 in
set_option maxHeartbeats 4000000 in
theorem LW.again {p : Pl} {F : Foot} {G : R.Wd} {w : World} (h : LW p F G w) {i k : Nat} {c : R.Cl} {l : R.Ln} (hc : G.clients[i]? = some c) (hl : c.lines[k]? = some l) (h1 : l.state = 1) :
    Calls Tryz.prog 122 #[ptr (p.cb i), .int .i64 (k : Int)] w fun e w' => e = .returned (.tuple #[]) ∧ ∃ F', LW p F' (againP G i k l) w' ∧ Went F F' w w' := by
  obtain ⟨xs, x, hL, hR, hx, hx1, hla, hrs, hit⟩ := h.line hc hl
  obtain ⟨ra, rn, rc, hrv⟩ := it_slice hit
  have hca := clAt h hc
  have hk := (List.getElem?_eq_some_iff.1 hl).1
  have hlc := lt_of_cell hca.a0
  have hll := lt_of_cell hla.a0
  obtain ⟨z1, z2, hml, hac, z3⟩ := (((h.wf.cl i c hc).line k l hl)).one h1
  obtain ⟨z4, em, ea, z5⟩ := hx1.one h1
  obtain ⟨Post, hPost⟩ : ∃ Post : World → Prop, ∀ w'', Post w'' ↔ ∃ F', LW p F' (againP G i k l) w'' ∧ Went F F' w w'' := ⟨_, fun _ => Iff.rfl⟩
  suffices hq : Calls Tryz.prog 122 #[ptr (p.cb i), .int .i64 (k : Int)] w fun e w' => e = .returned (.tuple #[]) ∧ Post w' from hq.mono (fun e w' h => ⟨h.1, (hPost w').1 h.2⟩)
  have HS1 : Hid (l.acked < R.piecesP l.message → ∀ w', Below w.heap.size w w' → Calls Tryz.prog 112 #[ptr (p.cb i), .int .i64 (k : Int), .bool true] w' fun e w'' => e = .returned (.tuple #[]) ∧ Post w'') := fun hlt w' hb => by
    refine ((h.below hb).piece hc hl h1 hlt true).mono ?_
    rintro e w'' ⟨rfl, F', q1, q2⟩
    refine ⟨rfl, (hPost w'').2 ⟨F', ?_, (Went.ofBelow F hb).trans q2⟩⟩
    rw [againP, if_pos hlt]
    exact q1
  have HS2 : Hid (¬ l.acked < R.piecesP l.message → ∀ w', Below w.heap.size w w' → Calls Tryz.prog 188 #[ptr (p.cb i), .int .i64 (k : Int), pvs 3 0 0 0 0 0 0 1 true (str [])] w' fun e w'' => e = .returned (.tuple #[]) ∧ Post w'') := fun hlt w' hb => by
    have hrt := R.probe_right h.wf hc hl h1
    rw [probePk_eq hc] at hrt
    refine ((h.below hb).sendC hc hl h1 3 0 1 true [] hrt).mono ?_
    rintro e w'' ⟨rfl, F', q1, q2⟩
    refine ⟨rfl, (hPost w'').2 ⟨F', ?_, (Went.ofBelow F hb).trans q2⟩⟩
    rw [againP, if_neg hlt, R.probeP_eq (R.lineP_some hc hl), probePk_eq hc]
    exact q1
  rw [show str [] = (⟨#[]⟩ : ByteArray) from rfl] at HS2
  have HP := hide (fun w => pieces_any l.message w (by omega))
  clear hPost
  obtain ⟨a0, a1, a2, a3, a4, a5, a6, a7, a8, a9⟩ := hla
  obtain ⟨b0, b1, b2, b3, b4, b5, b6⟩ := hca
  rw [hrv] at a2
  rw [em] at a5
  rw [ea] at a6
  generalize str l.message = SM at *
  have hpp : 1 ≤ R.piecesP l.message ∧ R.piecesP l.message ≤ 9 := ⟨R.pieces_pos hml.1, R.pieces_le hml.2⟩
  generalize R.piecesP l.message = P at *
  generalize l.acked = a at *
  generalize c.lines.length = nl at *
  generalize p.cb i = cb at *
  generalize p.lb i = lb at *
  obtain ⟨sta, sqa, rva, uida, proca, msga, acka, camea, waita, triea⟩ := x
  simp only at a0 a1 a3 a4 a7 a8 a9
  clear h hL hR hx hx1 hc hl h1 em ea hac hml z1 z2 z3 z4 z5 hrs hit hrv
  obtain ⟨LX, hLX⟩ : ∃ LX, w.alloc (.cells #[.int .i64 sta, .int .i64 sqa, .slice ra rn rc, .int .i64 uida, .int .i64 proca, .string SM, .int .i64 a, .string (str camea), .int .i64 waita, .int .i64 triea] 139) = LX := ⟨_, rfl⟩
  have HB : Hid (Below w.heap.size w LX) := by
    rw [← hLX]
    exact (Below.refl w.heap.size w).alloc (Nat.le_refl _) _
  have hbx : LX.heap[w.heap.size]? = some (.cells #[.int .i64 sta, .int .i64 sqa, .slice ra rn rc, .int .i64 uida, .int .i64 proca, .string SM, .int .i64 a, .string (str camea), .int .i64 waita, .int .i64 triea] 139 (0, 0)) := by
    rw [← hLX]
    exact heap_alloc_new w _
  have c4 : LX.cell? ⟨w.heap.size, 5, none⟩ = some (.string SM) := cell_of hbx 5 _ rfl
  have c5 : LX.cell? ⟨w.heap.size, 6, none⟩ = some (.int .i64 a) := cell_of hbx 6 _ rfl
  have HLX := hide hLX
  clear hLX hbx
  by_cases hlt : a < P
  · go_enter Tryz.func122, Tryz.ntmps122
    go_wp2_with fail
    rw [unhide HLX]
    go_region_held3 (fun w' => w'.cell? ⟨w.heap.size, 5, none⟩ = some (.string SM) ∧ w'.cell? ⟨w.heap.size, 6, none⟩ = some (.int .i64 a)) (go_keep) ((go_at_call 187; refine ((unhide HP) _).mono ?_; rintro e w1 ⟨rfl, hw1⟩; rw [hw1]; clear hw1))
    go_wp2_with (first | (go_at_call 112; refine ((unhide HS1) hlt _ (unhide HB).drew).mono ?_; rintro e w3 ⟨rfl, hw3⟩))
    go_returns
    exact ⟨rfl, hw3⟩
  · go_enter Tryz.func122, Tryz.ntmps122
    go_wp2_with fail
    rw [unhide HLX]
    go_region_held3 (fun w' => w'.cell? ⟨w.heap.size, 5, none⟩ = some (.string SM) ∧ w'.cell? ⟨w.heap.size, 6, none⟩ = some (.int .i64 a)) (go_keep) ((go_at_call 187; refine ((unhide HP) _).mono ?_; rintro e w1 ⟨rfl, hw1⟩; rw [hw1]; clear hw1))
    go_wp2_with (first | (go_at_call 188; refine ((unhide HS2) hlt _ (unhide HB).drew).mono ?_; rintro e w3 ⟨rfl, hw3⟩))
    go_returns
    exact ⟨rfl, hw3⟩

/- stores into a line -/
theorem keeps_one {w : World} {b o : Nat} (v : Value) : Keeps (fun k => k = b) w (w.setCell ⟨b, o, none⟩ v) := Keeps.setCell (F := fun k => k = b) (Keeps.refl _ w) (p := ⟨b, o, none⟩) (Or.inl rfl) v
theorem put_step {w : World} {b k j : Nat} {xs : List LLn} {x x' : LLn} {v : Value} (h : w.heap[b]? = some (.cells (tab LLn.cells xs).toArray 139 (0, 0))) (hx : xs[k]? = some x) (hj : j < 10) (hv : x'.cells = x.cells.set j v) :
    (w.setCell ⟨b, k * 10 + j, none⟩ v).heap[b]? = some (.cells (tab LLn.cells (xs.set k x')).toArray 139 (0, 0)) ∧ (xs.set k x')[k]? = some x' := by
  refine ⟨by rw [heap_store h, tab_set LLn.len xs k j x x' v hx hj hv], ?_⟩
  rw [List.getElem?_set]
  simp [(List.getElem?_eq_some_iff.1 hx).1]

abbrev put10 (w : World) (b k : Nat) (x : LLn) : World := (((((((((w.setCell ⟨b, k * 10, none⟩ (.int .i64 x.state)).setCell ⟨b, k * 10 + 1, none⟩ (.int .i64 x.seq)).setCell ⟨b, k * 10 + 2, none⟩ x.rv).setCell ⟨b, k * 10 + 3, none⟩ (.int .i64 x.uid)).setCell ⟨b, k * 10 + 4, none⟩ (.int .i64 x.proc)).setCell ⟨b, k * 10 + 5, none⟩ (.string (str x.msg))).setCell ⟨b, k * 10 + 6, none⟩ (.int .i64 x.acked)).setCell ⟨b, k * 10 + 7, none⟩ (.string (str x.came))).setCell ⟨b, k * 10 + 8, none⟩ (.int .i64 x.wait)).setCell ⟨b, k * 10 + 9, none⟩ (.int .i64 x.tries)
theorem put_all {w : World} {b k : Nat} {xs : List LLn} {x : LLn} (h : w.heap[b]? = some (.cells (tab LLn.cells xs).toArray 139 (0, 0))) (hx : xs[k]? = some x) (x' : LLn) :
    (put10 w b k x').heap[b]? = some (.cells (tab LLn.cells (xs.set k x')).toArray 139 (0, 0)) ∧ Keeps (fun q => q = b) w (put10 w b k x') := by
  obtain ⟨st, sq, rv, u, pc, m, a, cm, wt, tr⟩ := x
  obtain ⟨st', sq', rv', u', pc', m', a', cm', wt', tr'⟩ := x'
  have e0 := put_step (j := 0) (x' := ⟨st', sq, rv, u, pc, m, a, cm, wt, tr⟩) (v := .int .i64 st') h hx (by omega) rfl
  have e1 := put_step (j := 1) (x' := ⟨st', sq', rv, u, pc, m, a, cm, wt, tr⟩) (v := .int .i64 sq') e0.1 e0.2 (by omega) rfl
  have e2 := put_step (j := 2) (x' := ⟨st', sq', rv', u, pc, m, a, cm, wt, tr⟩) (v := rv') e1.1 e1.2 (by omega) rfl
  have e3 := put_step (j := 3) (x' := ⟨st', sq', rv', u', pc, m, a, cm, wt, tr⟩) (v := .int .i64 u') e2.1 e2.2 (by omega) rfl
  have e4 := put_step (j := 4) (x' := ⟨st', sq', rv', u', pc', m, a, cm, wt, tr⟩) (v := .int .i64 pc') e3.1 e3.2 (by omega) rfl
  have e5 := put_step (j := 5) (x' := ⟨st', sq', rv', u', pc', m', a, cm, wt, tr⟩) (v := .string (str m')) e4.1 e4.2 (by omega) rfl
  have e6 := put_step (j := 6) (x' := ⟨st', sq', rv', u', pc', m', a', cm, wt, tr⟩) (v := .int .i64 a') e5.1 e5.2 (by omega) rfl
  have e7 := put_step (j := 7) (x' := ⟨st', sq', rv', u', pc', m', a', cm', wt, tr⟩) (v := .string (str cm')) e6.1 e6.2 (by omega) rfl
  have e8 := put_step (j := 8) (x' := ⟨st', sq', rv', u', pc', m', a', cm', wt', tr⟩) (v := .int .i64 wt') e7.1 e7.2 (by omega) rfl
  have e9 := put_step (j := 9) (x' := ⟨st', sq', rv', u', pc', m', a', cm', wt', tr'⟩) (v := .int .i64 tr') e8.1 e8.2 (by omega) rfl
  simp only [List.set_set] at e9
  exact ⟨e9.1, (((((((((keeps_one _).trans (keeps_one _)).trans (keeps_one _)).trans (keeps_one _)).trans (keeps_one _)).trans (keeps_one _)).trans (keeps_one _)).trans (keeps_one _)).trans (keeps_one _)).trans (keeps_one _)⟩

/- a line ends -/
abbrev endLn (st sq : Int) : LLn := ⟨st, sq, .slice none 0 0, 0, 0, [], 0, [], 0, 0⟩
theorem ends_any (w : World) (b k : Nat) (st : Int) (xs : List LLn) (x : LLn) (hrv : ∃ a n c, x.rv = .slice a n c) (h : w.heap[b]? = some (.cells (tab LLn.cells xs).toArray 139 (0, 0))) (hx : xs[k]? = some x) :
    Calls Tryz.prog 121 #[.pointer (some ⟨b, k * 10, none⟩), .int .i64 st] w fun e w' => e = .returned (.tuple #[]) ∧ w'.heap[b]? = some (.cells (tab LLn.cells (xs.set k (endLn st x.seq))).toArray 139 (0, 0)) ∧ Keeps (fun q => q = b) w w' := by
  obtain ⟨a0, a1, a2, a3, a4, a5, a6, a7, a8, a9⟩ := lnAt h hx
  obtain ⟨ra, rn, rc, hrv⟩ := hrv
  rw [hrv] at a2
  have z0 := open_list (off := k * 10) h
  have z1 := open_list (off := k * 10 + 1) h
  have z2 := open_list (off := k * 10 + 2) h
  have z3 := open_list (off := k * 10 + 3) h
  have z4 := open_list (off := k * 10 + 4) h
  have z5 := open_list (off := k * 10 + 5) h
  have z6 := open_list (off := k * 10 + 6) h
  have z7 := open_list (off := k * 10 + 7) h
  have z8 := open_list (off := k * 10 + 8) h
  have z9 := open_list (off := k * 10 + 9) h
  have HH := hide h
  have HX := hide hx
  have hlt := lt_of_block h
  clear h hx hrv
  go_enter Tryz.func121, Tryz.ntmps121
  go_wp2
  go_returns
  have hp := put_all (unhide HH) (unhide HX) (endLn st x.seq)
  exact ⟨rfl, hp⟩

/- a tick for a line -/
theorem setLine_twice (G : R.Wd) (i k : Nat) (l l' : R.Ln) : R.setLine (R.setLine G i k l) i k l' = R.setLine G i k l' := by
  simp [R.setLine, List.modify_modify_eq, Function.comp_def]

/- a jump ahead -/
theorem jump_ret {Q : Exit → Act → World → Prop} {l : Nat} {J : Act → World → Prop} {a : Act} {w : World} (h : Q .ret a w) : Exit.jump l J Q .ret a w := h
theorem jump_normal {Q : Exit → Act → World → Prop} {l : Nat} {J : Act → World → Prop} {a : Act} {w : World} (h : Q .normal a w) : Exit.jump l J Q .normal a w := h
theorem wp_scope_ahead {P : Program} {a : Act} {w : World} {Q : Exit → Act → World → Prop} {c rest : Code} (l : Nat) (hf : findLabel c l = some rest) (first : c.wp P (Exit.jump l (fun a w => rest.wp P (Exit.jump l (fun _ _ => False) Q) a w) Q) a w) : (Code.scope c).wp P Q a w := by
  refine wp_scope_jumps l _ (fun _ _ => 0) hf first (fun a w h => ?_)
  refine Code.wp_mono ?_ h
  intro e a w h
  cases e with
  | goto q => exact h.2.elim
  | _ => exact h

set_option maxRecDepth 100000 in
set_option maxHeartbeats 4000000 in
theorem wait_walk (w : World) (cb lb k nl : Nat) (wt tr rt : Int) (Post : World → Prop) (hk : k < nl) (b3 : w.cell? ⟨cb, 3, none⟩ = some (.slice (some ⟨lb, 0, none⟩) nl nl)) (b4 : w.cell? ⟨cb, 4, none⟩ = some (.int .i64 rt)) (a6 : w.cell? ⟨lb, k * 10 + 8, none⟩ = some (.int .i64 wt)) (a7 : w.cell? ⟨lb, k * 10 + 9, none⟩ = some (.int .i64 tr)) (z6 : w.frozen? ⟨lb, k * 10 + 8, none⟩ = false) (z7 : w.frozen? ⟨lb, k * 10 + 9, none⟩ = false) (hne : ¬ cb = lb) (hwt : 1 ≤ wt ∧ wt ≤ 8) (htr : 0 ≤ tr ∧ tr ≤ 6)
    (HA : Hid (1 < wt → Post (w.setCell ⟨lb, k * 10 + 8, none⟩ (.int .i64 (wt - 1)))))
    (HB : Hid (wt = 1 → tr = 0 → Calls Tryz.prog 121 #[.pointer (some ⟨lb, k * 10, none⟩), .int .i64 3] (w.setCell ⟨lb, k * 10 + 8, none⟩ (.int .i64 (wt - 1))) fun e w' => e = .returned (.tuple #[]) ∧ Post w'))
    (HC : Hid (wt = 1 → 0 < tr → Calls Tryz.prog 122 #[ptr cb, .int .i64 (k : Int)] (((w.setCell ⟨lb, k * 10 + 8, none⟩ (.int .i64 (wt - 1))).setCell ⟨lb, k * 10 + 9, none⟩ (.int .i64 (tr - 1))).setCell ⟨lb, k * 10 + 8, none⟩ (.int .i64 rt)) fun e w' => e = .returned (.tuple #[]) ∧ Post w')) :
    Calls Tryz.prog 70 #[ptr cb, .int .i64 (k : Int)] w fun e w' => e = .returned (.tuple #[]) ∧ Post w' := by
  have e1 : IntKind.i64.wrap (wt - 1) = wt - 1 := by rw [IntKind.wrap_i64]; omega
  have e2 : IntKind.i64.wrap (tr - 1) = tr - 1 := by rw [IntKind.wrap_i64]; omega
  have hne' : ¬ lb = cb := fun e => hne e.symm
  have hl1 := lt_of_cell b3
  have hl2 := lt_of_cell a6
  by_cases h1 : 1 < wt
  · have q1 : 0 < wt - 1 := by omega
    have HP := hide ((unhide HA) h1)
    clear HA HB HC
    go_enter Tryz.func70, Tryz.ntmps70
    go_wp2
    refine wp_scope_ahead 0 rfl ?_
    go_wp2
    refine jump_ret ?_
    go_wp2
    go_returns
    exact ⟨rfl, unhide HP⟩
  · have hw1 : wt = 1 := by omega
    by_cases h2 : tr = 0
    · have HP := hide ((unhide HB) hw1 h2)
      clear HA HB HC
      subst hw1 h2
      go_enter Tryz.func70, Tryz.ntmps70
      go_wp2
      refine wp_scope_ahead 0 rfl ?_
      go_wp2_with (first | (go_at_call 121; refine (unhide HP).mono ?_; rintro e w3 ⟨rfl, hw3⟩))
      refine jump_ret ?_
      go_wp2
      go_returns
      exact ⟨rfl, hw3⟩
    · have h3 : 0 < tr := by omega
      have HP := hide ((unhide HC) hw1 h3)
      clear HA HB HC
      subst hw1
      go_enter Tryz.func70, Tryz.ntmps70
      go_wp2
      refine wp_scope_ahead 0 rfl ?_
      go_wp2
      go_step3
      refine ⟨rfl, ?_⟩
      show Code.wp Tryz.prog _ _ _ _
      go_wp2_with (first | (go_at_call 122; refine (unhide HP).mono ?_; rintro e w3 ⟨rfl, hw3⟩))
      refine jump_normal ?_
      go_wp2
      go_returns
      exact ⟨rfl, hw3⟩

set_option maxRecDepth 100000 in
set_option maxHeartbeats 4000000 in
theorem LW.wait {p : Pl} {F : Foot} {G : R.Wd} {w : World} (h : LW p F G w) {i k : Nat} {c : R.Cl} {l : R.Ln} (hc : G.clients[i]? = some c) (hl : c.lines[k]? = some l) (h1 : l.state = 1) :
    Calls Tryz.prog 70 #[ptr (p.cb i), .int .i64 (k : Int)] w fun e w' => e = .returned (.tuple #[]) ∧ ∃ F', LW p F' (R.tickLine G i k) w' ∧ Went F F' w w' := by
  obtain ⟨xs, x, hL, hR, hx, hx1, hla, hrs, hit⟩ := h.line hc hl
  obtain ⟨ra, rn, rc, hrv⟩ := it_slice hit
  have hca := clAt h hc
  have hk := (List.getElem?_eq_some_iff.1 hl).1
  have hi := (List.getElem?_eq_some_iff.1 hc).1
  have hlc := lt_of_cell hca.a0
  have hll := lt_of_cell hla.a0
  have hok := (h.wf.cl i c hc).line k l hl
  obtain ⟨z1, z2, hml, hac, hwt, htr⟩ := hok.one h1
  obtain ⟨eu, em, ea, ew, et⟩ := hx1.one h1
  have hfl : F (p.lb i) := (h.feet i hi).2.1
  have hcf := h.wf.cf
  have eT := R.lineP_some hc hl
  have hne : p.cb i ≠ p.lb i := ne_tag (h.cl i c hc) hL (by decide)
  have htw := hx1.two h1
  have hr0 : l.result = [] := hx1.res (by omega)
  have went : ∀ w', Keeps (fun q => q = p.lb i) w w' → Went F F w w' := fun w' hk => ⟨hk.mono (fun q _ e => by rw [e]; exact hfl), fun _ q => Or.inl q⟩
  unfold R.tickLine
  simp only [eT]
  rw [if_neg (by omega)]
  obtain ⟨Post, hPost⟩ : ∃ Post : World → Prop, ∀ w'', Post w'' ↔ ∃ F', LW p F' (if 1 < l.wait then R.setLine G i k { l with wait := l.wait - 1 } else if l.tries = 0 then R.setLine G i k { l with wait := l.wait - 1, state := 3 } else if 8 * l.acked < (l.message.length : Int) then R.sendPieceP (R.setLine G i k { l with wait := G.c.retry, tries := l.tries - 1 }) i k true else R.probeP (R.setLine G i k { l with wait := G.c.retry, tries := l.tries - 1 }) i k) w'' ∧ Went F F' w w'' := ⟨_, fun _ => Iff.rfl⟩
  suffices hq : Calls Tryz.prog 70 #[ptr (p.cb i), .int .i64 (k : Int)] w fun e w' => e = .returned (.tuple #[]) ∧ Post w' from hq.mono (fun e w' h => ⟨h.1, (hPost w').1 h.2⟩)
  obtain ⟨a0, a1, a2, a3, a4, a5, a6, a7, a8, a9⟩ := hla
  rw [ew] at a8
  rw [et] at a9
  obtain ⟨sta, sqa, rva, uida, proca, msga, acka, camea, waita, triea⟩ := x
  simp only at eu em ea ew et hrv htw
  subst eu em ea ew et
  obtain ⟨tc, tp, tt⟩ := htw
  subst tc
  have hst := hx1.state
  have hsq := hx1.seq
  simp only at hst hsq
  subst hst hsq
  unfold R.okCf at hcf
  have e1 := put_step (j := 8) (x' := ⟨l.state, l.seq, rva, l.uid, proca, l.message, l.acked, l.came, l.wait - 1, l.tries⟩) (v := .int .i64 (l.wait - 1)) hL hx (by omega) rfl
  have e2 := put_step (j := 9) (x' := ⟨l.state, l.seq, rva, l.uid, proca, l.message, l.acked, l.came, l.wait - 1, l.tries - 1⟩) (v := .int .i64 (l.tries - 1)) e1.1 e1.2 (by omega) rfl
  have e3 := put_step (j := 8) (x' := ⟨l.state, l.seq, rva, l.uid, proca, l.message, l.acked, l.came, G.c.retry, l.tries - 1⟩) (v := .int .i64 G.c.retry) e2.1 e2.2 (by omega) rfl
  simp only [List.set_set] at e2 e3
  refine wait_walk w (p.cb i) (p.lb i) k c.lines.length l.wait l.tries G.c.retry Post hk hca.a3 hca.a4 a8 a9 (open_list hL) (open_list hL) hne hwt htr ?_ ?_ ?_
  · intro h2
    refine (hPost _).2 ⟨F, ?_, went _ (keeps_one _)⟩
    rw [if_pos h2]
    exact h.turn hc hL hR hrs (keeps_one _) e1.1 ⟨hok.seq, fun _ => ⟨z1, z2, hml, hac, by simp only; omega, htr⟩⟩ ⟨rfl, rfl, fun _ => hr0, fun _ => ⟨rfl, rfl, rfl, rfl, rfl⟩, fun _ => ⟨rfl, tp, tt⟩⟩ hit
  · intro h2 h3
    refine (ends_any _ (p.lb i) k 3 _ _ ⟨_, _, _, hrv⟩ e1.1 e1.2).mono ?_
    rintro e w' ⟨rfl, q1, q2⟩
    refine ⟨rfl, (hPost _).2 ⟨F, ?_, went _ ((keeps_one _).trans q2)⟩⟩
    rw [if_neg (by omega), if_pos h3]
    simp only [List.set_set] at q1
    exact h.turn hc hL hR hrs ((keeps_one _).trans q2) q1 ⟨hok.seq, fun q => by cases q⟩ ⟨rfl, rfl, fun _ => hr0, fun q => (by cases q), fun q => (by cases q)⟩ (by
      rw [hr0]
      exact ItAt.nil _ _)
  · intro h2 h3
    have hT := h.turn (l' := { l with wait := G.c.retry, tries := l.tries - 1 }) hc hL hR hrs (((keeps_one _).trans (keeps_one _)).trans (keeps_one _)) e3.1 ⟨hok.seq, fun _ => ⟨z1, z2, hml, hac, by simp only; omega, by simp only; omega⟩⟩ ⟨rfl, rfl, fun _ => hr0, fun _ => ⟨rfl, rfl, rfl, rfl, rfl⟩, fun _ => ⟨rfl, tp, tt⟩⟩ hit
    have hc' : (R.setLine G i k { l with wait := G.c.retry, tries := l.tries - 1 }).clients[i]? = some { c with lines := c.lines.set k { l with wait := G.c.retry, tries := l.tries - 1 } } := by
      rw [R.setLine_client, hc]
      simp
    refine (hT.again hc' (l := { l with wait := G.c.retry, tries := l.tries - 1 }) (by simp [hk]) h1).mono ?_
    rintro e w' ⟨rfl, F', q1, q2⟩
    refine ⟨rfl, (hPost _).2 ⟨F', ?_, (went _ (((keeps_one _).trans (keeps_one _)).trans (keeps_one _))).trans q2⟩⟩
    rw [if_neg (by omega), if_neg (by omega)]
    unfold againP at q1
    by_cases hq : l.acked < R.piecesP l.message
    · rw [if_pos (R.acked_iff.2 hq)]
      rw [if_pos hq] at q1
      exact q1
    · rw [if_neg (fun q => hq (R.acked_iff.1 q))]
      rw [if_neg hq] at q1
      exact q1
end Go.Proofs.YtblomippkddgiaaGreatDoor
/-
  The landed server: the lines that it remembers.
-/
namespace Go.Proofs.YtblomippkddgiaaGreatDoor
open Go.RowKit

theorem info143 : (Tryz.prog.info? 143).map (fun i => (i.zero, i.size, i.bytes)) = some (some (.pointer none), 1, 8) := by kernel_rfl
def pa (o : Option Nat) : Option Addr := o.map fun b => ⟨b, 0, none⟩
abbrev pc (o : Option Nat) : Value := .pointer (pa o)
def remL (f : Nat → Option Nat) (n : Nat) : List Value := ((List.range n).filterMap f).map ptr
theorem remL_succ (f : Nat → Option Nat) (n : Nat) : remL f (n + 1) = remL f n ++ (match f n with | none => [] | some b => [ptr b]) := by
  unfold remL
  rw [List.range_succ, List.filterMap_append]
  cases h : f n <;> simp [h]
theorem remL_len (f : Nat → Option Nat) (n : Nat) : (remL f n).length ≤ n := by
  unfold remL
  rw [List.length_map]
  have := List.length_filterMap_le f (List.range n)
  simpa using this
/- what was gathered so far -/
structure RemAt (w : World) (f : Nat → Option Nat) (n : Nat) (O : Value) (wr : World) : Prop where
  row : wr.ownsRow w.heap.size 143 1 O (remL f n).length (remL f n)
  below : Below w.heap.size w wr
theorem RemAt.none {w : World} {f : Nat → Option Nat} {n : Nat} {O : Value} {wr : World} (h : RemAt w f n O wr) (hf : f n = none) : RemAt w f (n + 1) O wr := by
  have e : remL f (n + 1) = remL f n := by rw [remL_succ, hf]; simp
  refine ⟨?_, h.below⟩
  rw [e]
  exact h.row
theorem RemAt.alloc {w : World} {f : Nat → Option Nat} {n : Nat} {O : Value} {wr : World} (h : RemAt w f n O wr) (o : Obj) : RemAt w f n O (wr.alloc o) := ⟨h.row.alloc _, h.below.alloc h.below.size _⟩

theorem RemAt.some {w : World} {f : Nat → Option Nat} {n b : Nat} {O' : Value} {wz : World} (hf : f n = some b) (hown : wz.ownsRow w.heap.size 143 1 O' ((remL f n).length + 1) (remL f n ++ [ptr b])) (hb : Below w.heap.size w wz) : RemAt w f (n + 1) O' wz := by
  have e : remL f (n + 1) = remL f n ++ [ptr b] := by rw [remL_succ, hf]
  refine ⟨?_, hb⟩
  rw [e, List.length_append]
  exact hown
theorem one_cell (w : World) (t : TypeId) (v : Value) (j : Nat) (u : Value) (h : ([v] : List Value)[j]? = Option.some u) : (w.alloc (.cells #[v] t)).cell? ((⟨w.heap.size, 0, none⟩ : Addr).add j) = Option.some u := by
  rw [Addr.add_lit, Nat.zero_add, World.cell?_alloc_new w _ _ j, ← List.getElem?_toArray] at *
  exact h
set_option maxRecDepth 100000 in
theorem ix162 (q : Nat → Option Addr) (k : Nat) (hk : k < 3) (w : World) : (Instr.index 162 (.agg #[.pointer (q 0), .pointer (q 1), .pointer (q 2), .pointer (q 3), .pointer (q 4), .pointer (q 5), .pointer (q 6), .pointer (q 7), .pointer (q 8)]) (.int .i64 (k : Int))).run Tryz.prog w = .ok (.agg #[.pointer (q (3 * k)), .pointer (q (3 * k + 1)), .pointer (q (3 * k + 2))]) w := by
  obtain rfl | rfl | rfl : k = 0 ∨ k = 1 ∨ k = 2 := by omega
  all_goals rfl
set_option maxRecDepth 100000 in
theorem ix158 (q : Nat → Option Addr) (k j : Nat) (hj : j < 3) (w : World) : (Instr.index 158 (.agg #[.pointer (q (3 * k)), .pointer (q (3 * k + 1)), .pointer (q (3 * k + 2))]) (.int .i64 (j : Int))).run Tryz.prog w = .ok (.pointer (q (3 * k + j))) w := by
  obtain rfl | rfl | rfl : j = 0 ∨ j = 1 ∨ j = 2 := by omega
  all_goals rfl

set_option maxRecDepth 100000 in
set_option maxHeartbeats 4000000 in
theorem rem_any (w : World) (s : Nat) (f : Nat → Option Nat) (h : ∀ i, i < 9 → w.cell? ⟨s, 10 + i, none⟩ = some (pc (f i))) :
    Calls Tryz.prog 71 #[ptr s] w fun e w' => ∃ O, e = .returned O ∧ w'.ownsRow w.heap.size 143 1 O (remL f 9).length (remL f 9) ∧ Below w.heap.size w w' := by
  obtain ⟨u, hu⟩ : ∃ u : Nat → Option Addr, ∀ i, u i = pa (f i) := ⟨_, fun _ => rfl⟩
  have HU := hide hu
  have c0 := h 0 (by omega)
  have c1 := h 1 (by omega)
  have c2 := h 2 (by omega)
  have c3 := h 3 (by omega)
  have c4 := h 4 (by omega)
  have c5 := h 5 (by omega)
  have c6 := h 6 (by omega)
  have c7 := h 7 (by omega)
  have c8 := h 8 (by omega)
  simp only [pc, ← hu] at c0 c1 c2 c3 c4 c5 c6 c7 c8
  have hl := lt_of_cell c0
  obtain ⟨i0, hi, hz0, hz1, hz2⟩ := info_parts info143
  have H0 : Hid (RemAt w f 0 (.slice none 0 0) w) := ⟨World.ownsRow_nil _ _ _ _, Below.refl _ _⟩
  clear h hu
  go_enter Tryz.func71, Tryz.ntmps71
  go_wp2
  clear c0 c1 c2 c3 c4 c5 c6 c7 c8
  go_loopw [3, 13] (fun av iv wr => ∃ k : Nat, k ≤ 3 ∧ iv = .int .i64 k ∧ RemAt w f (3 * k) av wr) (fun _ iv _ => 3 - (intOf iv).toNat)
  case atStart => exact ⟨0, by omega, rfl, unhide H0⟩
  case round =>
    obtain ⟨k, hk, rfl, hR⟩ := hrel
    by_cases hlt : k < 3
    · have hix := ix162 u k hlt
      have HR := hide hR
      clear hR
      go_wp2
      generalize decide ((k : Int) < 3) = b14
      go_loopw [3, 17] (fun av jv wr' => ∃ j : Nat, j ≤ 3 ∧ jv = .int .i64 j ∧ RemAt w f (3 * k + j) av wr') (fun _ jv _ => 3 - (intOf jv).toNat)
      case atStart => exact ⟨0, by omega, rfl, (unhide HR).alloc _⟩
      case round =>
        obtain ⟨j, hj, rfl, hR2⟩ := hrel
        by_cases hjl : j < 3
        · obtain ⟨oa, on, oc, hsh⟩ := row_shape hR2.row
          subst hsh
          have HR2 := hide hR2
          clear hR2
          have hjx := ix158 u k j hjl
          cases hf : f (3 * k + j) with
          | none =>
            have e0 : u (3 * k + j) = none := by rw [unhide HU, hf]; rfl
            rw [e0] at hjx
            have HN := hide ((unhide HR2).none hf)
            go_wp2
            go_roundw
            case rel => exact ⟨j + 1, by omega, by go_num, unhide HN⟩
            case measure => simp [intOf]; omega
          | some b =>
            have e0 : u (3 * k + j) = some ⟨b, 0, none⟩ := by rw [unhide HU, hf]; rfl
            rw [e0] at hjx
            have hlen := remL_len f (3 * k + j)
            go_wp2_with (at_builtin; go_must (refine wpList_append_own_at _ rfl (.tmp 22) (.tmp 24) 141 rfl w.heap.size 143 i0 (.pointer none) 1 8 Tryz.underlying141 hi hz0 hz1 hz2 rfl (by decide) _ _ _ rfl (by exact (unhide HR2).row.alloc _) ⟨wr.heap.size, 0, none⟩ 1 1 [ptr b] rfl rfl (by exact one_cell wr 143 (ptr b)) (by simp [Value.oneCell']) (by unfold maxLen; omega) (by omega) (by have := (unhide HR2).below.size; simp; omega) ?_))
            intro v' wz hown hgrow _ _
            obtain ⟨va, vn, vc, hvs⟩ := row_shape hown
            subst hvs
            have hbz : Below w.heap.size w wz := ((unhide HR2).below.alloc (unhide HR2).below.size _).grown hgrow (by have := (unhide HR2).below.size; simp; omega) (fun k hk => ((World.ownsRow.lt (unhide HR2).row) k hk).1)
            have HN : Hid (RemAt w f (3 * k + j + 1) (.slice va vn vc) wz) := RemAt.some hf hown hbz
            clear hown hgrow hbz HR2
            go_wp2
            go_roundw
            case rel => exact ⟨j + 1, by omega, by go_num, unhide HN⟩
            case measure => simp [intOf]; omega
        · obtain rfl : j = 3 := by omega
          have HR3 := hide hR2
          clear hR2
          go_wp2
          go_roundw
          case rel => exact ⟨k + 1, by omega, by go_num, by exact unhide HR3⟩
          case measure => simp [intOf]; omega
    · obtain rfl : k = 3 := by omega
      have HR3 := hide hR
      clear hR
      go_wp2
      go_ret
      exact ⟨_, rfl, (unhide HR3).row, (unhide HR3).below⟩
end Go.Proofs.YtblomippkddgiaaGreatDoor
/-
  The landed server sends.
-/
namespace Go.Proofs.YtblomippkddgiaaGreatDoor
open Go.RowKit

def qf (t : SP) (seen : List R.Sn) (i : Nat) : Option Nat := if ((seen[i]?).getD R.sn0).seq = 0 then none else some (t.ql i)
theorem qcell_pc (t : SP) (seen : List R.Sn) (i : Nat) : qcell t seen i = pc (qf t seen i) := by
  unfold qcell qf
  split <;> rfl
section
variable {s n nm : Nat} {t : SP} {F : Foot} {c : R.Cf} {sv : List R.Sv} {lives : List Int} {seen : List R.Sn} {jobs : List R.Jb} {w : World}
theorem SrvAt.cell (h : SrvAt s n nm t F c sv lives seen jobs w) (j : Nat) (v : Value) (hv : (scells n nm t c lives seen)[j]? = some v) : w.cell? ⟨s, j, none⟩ = some v := cell_list h.bs hv
theorem SrvAt.rem (h : SrvAt s n nm t F c sv lives seen jobs w) : Calls Tryz.prog 71 #[ptr s] w fun e w' => ∃ O, e = .returned O ∧ w'.ownsRow w.heap.size 143 1 O (remL (qf t seen) 9).length (remL (qf t seen) 9) ∧ Below w.heap.size w w' := by
  refine rem_any w s (qf t seen) (fun i hi => ?_)
  rw [← qcell_pc]
  obtain rfl | rfl | rfl | rfl | rfl | rfl | rfl | rfl | rfl : i = 0 ∨ i = 1 ∨ i = 2 ∨ i = 3 ∨ i = 4 ∨ i = 5 ∨ i = 6 ∨ i = 7 ∨ i = 8 := by omega
  all_goals exact h.cell _ _ rfl
end

set_option maxRecDepth 100000 in
set_option maxHeartbeats 4000000 in
theorem LW.sendS {p : Pl} {F : Foot} {G : R.Wd} {w : World} (h : LW p F G w) (cl li ln sq u kd pa o : Int) (pl : Bool) (body : List UInt8) (hr : RightP ⟨kd, cl, li, ln, sq, u, pa, o, pl, body⟩) :
    Calls Tryz.prog 192 #[ptr p.s, .agg #[.int .i64 cl, .int .i64 li, .int .i64 ln, .int .i64 sq, .int .i64 u], pvs kd 0 0 0 0 0 pa o pl (str body)] w fun e w' => e = .returned (.tuple #[]) ∧ ∃ F', LW p F' (R.sendP G cl ⟨kd, cl, li, ln, sq, u, pa, o, pl, body⟩) w' ∧ Went F F' w w' := by
  have ht := h.srv
  have s20 : w.cell? ⟨p.s, 20, none⟩ = some (ptr p.n) := ht.cell 20 _ rfl
  have hls := lt_of_cell s20
  obtain ⟨Post, hPost⟩ : ∃ Post : World → Prop, ∀ w'', Post w'' ↔ ∃ F', LW p F' (R.sendP G cl ⟨kd, cl, li, ln, sq, u, pa, o, pl, body⟩) w'' ∧ Went F F' w w'' := ⟨_, fun _ => Iff.rfl⟩
  suffices hq : Calls Tryz.prog 192 #[ptr p.s, .agg #[.int .i64 cl, .int .i64 li, .int .i64 ln, .int .i64 sq, .int .i64 u], pvs kd 0 0 0 0 0 pa o pl (str body)] w fun e w' => e = .returned (.tuple #[]) ∧ Post w' from hq.mono (fun e w' h => ⟨h.1, (hPost w').1 h.2⟩)
  have HS : Hid (∀ w', Below w.heap.size w w' → Calls Tryz.prog 230 #[ptr p.n, .int .i64 cl, pvs kd cl li ln sq u pa o pl (str body)] w' fun e w'' => e = .returned (.tuple #[]) ∧ Post w'') := fun w' hb => by
    refine ((h.below hb).send cl ⟨kd, cl, li, ln, sq, u, pa, o, pl, body⟩ hr).mono ?_
    rintro e w'' ⟨rfl, F', q1, q2⟩
    exact ⟨rfl, (hPost w'').2 ⟨F', q1, (Went.ofBelow F hb).trans q2⟩⟩
  clear hPost hr h ht
  generalize str body = SB at *
  obtain ⟨BX, hBX⟩ : ∃ BX, (w.alloc (.cells #[.int .i64 cl, .int .i64 li, .int .i64 ln, .int .i64 sq, .int .i64 u] 145)).alloc (.cells #[.int .i64 kd, .int .i64 cl, .int .i64 li, .int .i64 ln, .int .i64 sq, .int .i64 u, .int .i64 pa, .int .i64 o, .bool pl, .string SB] 41) = BX := ⟨_, rfl⟩
  have HB : Hid (Below w.heap.size w BX) := by
    rw [← hBX]
    exact ((Below.refl w.heap.size w).alloc (Nat.le_refl _) _).alloc (by simp) _
  have hb0 : BX.heap[w.heap.size]? = some (.cells #[.int .i64 cl, .int .i64 li, .int .i64 ln, .int .i64 sq, .int .i64 u] 145 (0, 0)) := by
    rw [← hBX]
    exact (Below.heap_alloc _ _ _ (by simp)).trans (heap_alloc_new w _)
  have hb1 : BX.heap[w.heap.size + 1]? = some (.cells #[.int .i64 kd, .int .i64 cl, .int .i64 li, .int .i64 ln, .int .i64 sq, .int .i64 u, .int .i64 pa, .int .i64 o, .bool pl, .string SB] 41 (0, 0)) := by
    rw [← hBX, ← World.size_alloc w]
    exact heap_alloc_new _ _
  have HC := hide ((unhide HS) BX.drew (unhide HB).drew)
  have d20 : BX.cell? ⟨p.s, 20, none⟩ = some (ptr p.n) := ((unhide HB).cell (p := ⟨p.s, 20, none⟩) hls).trans s20
  have c0 : BX.cell? ⟨w.heap.size, 0, none⟩ = some (.int .i64 cl) := cell_of hb0 0 _ rfl
  have e0 : BX.cell? ⟨w.heap.size + 1, 0, none⟩ = some (.int .i64 kd) := cell_of hb1 0 _ rfl
  have e1 : BX.cell? ⟨w.heap.size + 1, 1, none⟩ = some (.int .i64 cl) := cell_of hb1 1 _ rfl
  have e2 : BX.cell? ⟨w.heap.size + 1, 2, none⟩ = some (.int .i64 li) := cell_of hb1 2 _ rfl
  have e3 : BX.cell? ⟨w.heap.size + 1, 3, none⟩ = some (.int .i64 ln) := cell_of hb1 3 _ rfl
  have e4 : BX.cell? ⟨w.heap.size + 1, 4, none⟩ = some (.int .i64 sq) := cell_of hb1 4 _ rfl
  have e5 : BX.cell? ⟨w.heap.size + 1, 5, none⟩ = some (.int .i64 u) := cell_of hb1 5 _ rfl
  have e6 : BX.cell? ⟨w.heap.size + 1, 6, none⟩ = some (.int .i64 pa) := cell_of hb1 6 _ rfl
  have e7 : BX.cell? ⟨w.heap.size + 1, 7, none⟩ = some (.int .i64 o) := cell_of hb1 7 _ rfl
  have e8 : BX.cell? ⟨w.heap.size + 1, 8, none⟩ = some (.bool pl) := cell_of hb1 8 _ rfl
  have e9 : BX.cell? ⟨w.heap.size + 1, 9, none⟩ = some (.string SB) := cell_of hb1 9 _ rfl
  have HBX := hide hBX
  clear hb0 hb1 hBX HS
  go_enter Tryz.func192, Tryz.ntmps192
  go_wp2
  rw [unhide HBX]
  clear HBX s20
  go_region_law (refine step_call rfl 230 #[.tmp 24, .tmp 26, .tmp 27] #[80, 3, 41] rfl cf88 #[ptr p.n, .int .i64 cl, pvs kd cl li ln sq u pa o pl SB] rfl _ (unhide HC) ?_; rintro e w1 ⟨rfl, hpost⟩; have HP := hide hpost; clear hpost; refine ⟨_, rfl, ?_⟩)
  all_goals
    go_wp2
    go_returns
    exact ⟨rfl, unhide HP⟩
end Go.Proofs.YtblomippkddgiaaGreatDoor
