/-
  Joined: Cli2.
-/
import Derived.Test.YthofebmiggodhaaDoorJ26
/-
  A client sends a piece of a call; and once more.
-/
namespace Go.Proofs.YthofebmiggodhaaDoor
open Go.RowKit

theorem callPk_eq {G : R.Wd} {i k : Nat} {c : R.Cl} {l : R.Ln} (hc : G.clients[i]? = some c) (again : Bool) : R.callPk G i k l again = ⟨1, i, c.life, k, l.seq, l.uid, l.acked, R.piecesP l.message, again || decide (l.acked < R.piecesP l.message - 1), R.pieceP l.message l.acked⟩ := by
  unfold R.callPk
  rw [R.lifeP_some hc]
theorem probePk_eq {G : R.Wd} {i k : Nat} {c : R.Cl} {l : R.Ln} (hc : G.clients[i]? = some c) : R.probePk G i k l = ⟨3, i, c.life, k, l.seq, l.uid, 0, 1, true, []⟩ := by
  unfold R.probePk
  rw [R.lifeP_some hc]

set_option maxRecDepth 100000 in
theorem cf76 : ∀ args w, (callFunc 76 args).run Tryd.prog w = .ok (.enter 76 args) w := fun _ _ => rfl

set_option maxRecDepth 100000 in
set_option maxHeartbeats 4000000 in
theorem LW.piece {p : Pl} {F : Foot} {G : R.Wd} {w : World} (h : LW p F G w) {i k : Nat} {c : R.Cl} {l : R.Ln} (hc : G.clients[i]? = some c) (hl : c.lines[k]? = some l) (h1 : l.state = 1) (hak : l.acked < R.piecesP l.message) (again : Bool) :
    Calls Tryd.prog 57 #[ptr (p.cb i), .int .i64 (k : Int), .bool again] w fun e w' => e = .returned (.tuple #[]) ∧ ∃ F', LW p F' (R.sendPieceP G i k again) w' ∧ Went F F' w w' := by
  obtain ⟨xs, x, hL, hR, hx, hx1, hla⟩ := h.line hc hl
  have hca := clAt h hc
  have hk := (List.getElem?_eq_some_iff.1 hl).1
  have hlc := lt_of_cell hca.a0
  have hll := lt_of_cell hla.a0
  have hrt := R.call_right h.wf hc hl h1 hak again
  obtain ⟨z1, z2, hml, hac, z3⟩ := (((h.wf.cl i c hc).line k l hl)).one h1
  rw [R.sendPieceP_eq (R.lineP_some hc hl)]
  rw [callPk_eq hc] at hrt ⊢
  obtain ⟨a, hae⟩ : ∃ a : Nat, l.acked = (a : Int) := ⟨l.acked.toNat, by omega⟩
  obtain ⟨z4, em, ea, z5⟩ := hx1.one h1
  have hpl : 8 * a < l.message.length := by have := R.acked_iff.2 hak; omega
  rw [hae] at hrt ea hak ⊢
  obtain ⟨Post, hPost⟩ : ∃ Post : World → Prop, ∀ w'', Post w'' ↔ ∃ F', LW p F' (R.sendP G (-1) ⟨1, i, c.life, k, l.seq, l.uid, (a : Int), R.piecesP l.message, again || decide ((a : Int) < R.piecesP l.message - 1), R.pieceP l.message (a : Int)⟩) w'' ∧ Went F F' w w'' := ⟨_, fun _ => Iff.rfl⟩
  suffices hq : Calls Tryd.prog 57 #[ptr (p.cb i), .int .i64 (k : Int), .bool again] w fun e w' => e = .returned (.tuple #[]) ∧ Post w' from hq.mono (fun e w' h => ⟨h.1, (hPost w').1 h.2⟩)
  have HS : Hid (∀ w', Below w.heap.size w w' → Calls Tryd.prog 77 #[ptr (p.cb i), .int .i64 (k : Int), pvs 1 0 0 0 0 0 (a : Int) (R.piecesP l.message) (again || decide ((a : Int) < R.piecesP l.message - 1)) (str (R.pieceP l.message (a : Int)))] w' fun e w'' => e = .returned (.tuple #[]) ∧ Post w'') := fun w' hb => by
    refine ((h.below hb).sendC hc hl h1 1 (a : Int) (R.piecesP l.message) _ _ hrt).mono ?_
    rintro e w'' ⟨rfl, F', q1, q2⟩
    exact ⟨rfl, (hPost w'').2 ⟨F', q1, (Went.ofBelow F hb).trans q2⟩⟩
  have HP := hide (fun w => pieces_any l.message w (by omega))
  have HC := hide (fun w => piece_any l.message a w (by omega) hpl)
  clear hPost hrt
  obtain ⟨a0, a1, a2, a3, a4, a5, a6, a7⟩ := hla
  obtain ⟨b0, b1, b2, b3, b4, b5, b6⟩ := hca
  rw [em] at a4
  rw [ea] at a5
  generalize str (R.pieceP l.message (a : Int)) = SB at *
  generalize str l.message = SM at *
  have hpp : 1 ≤ R.piecesP l.message ∧ R.piecesP l.message ≤ 9 := ⟨R.pieces_pos hml.1, R.pieces_le hml.2⟩
  generalize R.piecesP l.message = P at *
  generalize c.lines.length = nl at *
  generalize p.cb i = cb at *
  generalize p.lb i = lb at *
  obtain ⟨sta, sqa, uida, msga, acka, waita, triea⟩ := x
  simp only at a0 a1 a3 a6 a7
  have hsub : IntKind.i64.wrap (P - 1) = P - 1 := by rw [IntKind.wrap_i64]; omega
  clear h hL hR hx hx1 hc hl h1 em ea hae hac hml hpl z1 z2 z3 z4 z5
  obtain ⟨LX, hLX⟩ : ∃ LX, w.alloc (.cells #[.int .i64 sta, .int .i64 sqa, .slice none 0 0, .int .i64 uida, .string SM, .int .i64 (a : Int), .int .i64 waita, .int .i64 triea] 108) = LX := ⟨_, rfl⟩
  have HB : Hid (Below w.heap.size w LX) := by
    rw [← hLX]
    exact (Below.refl w.heap.size w).alloc (Nat.le_refl _) _
  have hbx : LX.heap[w.heap.size]? = some (.cells #[.int .i64 sta, .int .i64 sqa, .slice none 0 0, .int .i64 uida, .string SM, .int .i64 (a : Int), .int .i64 waita, .int .i64 triea] 108 (0, 0)) := by
    rw [← hLX]
    exact heap_alloc_new w _
  have c4 : LX.cell? ⟨w.heap.size, 4, none⟩ = some (.string SM) := cell_of hbx 4 _ rfl
  have c5 : LX.cell? ⟨w.heap.size, 5, none⟩ = some (.int .i64 (a : Int)) := cell_of hbx 5 _ rfl
  have HLX := hide hLX
  clear hLX hbx
  by_cases hlast : (a : Int) = P - 1
  · have e1 : decide ((a : Int) < P - 1) = false := by simp; omega
    rw [e1] at HS
    have e2 : (((a : Int)) == P - 1) = true := by simpa using hlast
    clear hlast e1
    cases again
    all_goals
      go_enter Tryd.func57, Tryd.ntmps57
      go_wp2_with fail
      rw [unhide HLX]
      go_region_held3 (fun w' => w'.cell? ⟨w.heap.size, 4, none⟩ = some (.string SM) ∧ w'.cell? ⟨w.heap.size, 5, none⟩ = some (.int .i64 (a : Int))) (go_keep) ((go_at_call 76; refine ((unhide HP) _).mono ?_; rintro e w1 ⟨rfl, hw1⟩; rw [hw1]; clear hw1))
      go_wp2_with (first | (go_at_call 78; refine ((unhide HC) _).mono ?_; rintro e w2 ⟨rfl, hw2⟩; rw [hw2]; clear hw2) | (go_at_call 77; refine ((unhide HS) _ (unhide HB).drew).mono ?_; rintro e w3 ⟨rfl, hw3⟩))
      go_returns
      exact ⟨rfl, hw3⟩
  · have e1 : decide ((a : Int) < P - 1) = true := by simp; omega
    rw [e1] at HS
    have e2 : (((a : Int)) == P - 1) = false := by simpa using hlast
    clear hlast e1
    cases again
    all_goals
      go_enter Tryd.func57, Tryd.ntmps57
      go_wp2_with fail
      rw [unhide HLX]
      go_region_held3 (fun w' => w'.cell? ⟨w.heap.size, 4, none⟩ = some (.string SM) ∧ w'.cell? ⟨w.heap.size, 5, none⟩ = some (.int .i64 (a : Int))) (go_keep) ((go_at_call 76; refine ((unhide HP) _).mono ?_; rintro e w1 ⟨rfl, hw1⟩; rw [hw1]; clear hw1))
      go_wp2_with (first | (go_at_call 78; refine ((unhide HC) _).mono ?_; rintro e w2 ⟨rfl, hw2⟩; rw [hw2]; clear hw2) | (go_at_call 77; refine ((unhide HS) _ (unhide HB).drew).mono ?_; rintro e w3 ⟨rfl, hw3⟩))
      go_returns
      exact ⟨rfl, hw3⟩
end Go.Proofs.YthofebmiggodhaaDoor
