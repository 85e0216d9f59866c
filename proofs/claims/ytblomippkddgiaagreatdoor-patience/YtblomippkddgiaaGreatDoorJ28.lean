/-
  Joined: Piece Cli Cli2.
-/
import Derived.Test.YtblomippkddgiaaGreatDoorJ27
/-
  The landed message: its pieces.
-/
namespace Go.Proofs.YtblomippkddgiaaGreatDoor
open Go.RowKit

theorem piecesP_int (s : List UInt8) : R.piecesP s = ((s.length : Int) + 7) / 8 := by
  unfold R.piecesP
  omega
theorem pieces_any (s : List UInt8) (w : World) (hs : s.length ≤ 1000) : Calls Tryz.prog 187 #[.string (str s)] w fun e w' => e = .returned (.int .i64 (R.piecesP s)) ∧ w' = w := by
  have hz : (str s).size = s.length := str_size s
  rw [piecesP_int]
  generalize str s = S at *
  generalize s.length = n at *
  have e1 : IntKind.i64.wrap ((n : Int) + 8) = (n : Int) + 8 := by rw [IntKind.wrap_i64]; omega
  have e2 : IntKind.i64.wrap ((n : Int) + 8 - 1) = (n : Int) + 7 := by rw [IntKind.wrap_i64]; omega
  have e3 : IntKind.i64.wrap (((n : Int) + 7).tdiv 8) = ((n : Int) + 7) / 8 := by
    rw [Int.tdiv_eq_ediv_of_nonneg (by omega), IntKind.wrap_i64]; omega
  go_enter Tryz.func187, Tryz.ntmps187
  go_wp2
  go_returns
  exact ⟨rfl, rfl⟩

theorem piece_any (s : List UInt8) (k : Nat) (w : World) (hs : s.length ≤ 1000) (hk : 8 * k < s.length) : Calls Tryz.prog 189 #[.string (str s), .int .i64 (k : Int)] w fun e w' => e = .returned (.string (str (R.pieceP s (k : Int)))) ∧ w' = w := by
  have hz : (str s).size = s.length := str_size s
  have HP : Hid ((str s).extract (k * 8) (min (k * 8 + 8) s.length) = str (R.pieceP s (k : Int))) := by
    show _ = _
    rw [str_extract]
    congr 1
    unfold R.pieceP
    rw [Int.toNat_natCast, Nat.mul_comm 8 k]
    apply List.ext_getElem?
    intro i
    simp only [List.getElem?_take, List.getElem?_drop]
    by_cases h1 : i < 8
    · rw [if_pos h1]
      by_cases h2 : i < min (k * 8 + 8) s.length - k * 8
      · rw [if_pos h2]
      · rw [if_neg h2, List.getElem?_eq_none]
        omega
    · rw [if_neg h1, if_neg]
      omega
  generalize str (R.pieceP s (k : Int)) = T at *
  generalize str s = S at *
  generalize s.length = n at *
  have e1 : IntKind.i64.wrap ((k : Int) * 8) = ((k * 8 : Nat) : Int) := by rw [IntKind.wrap_i64]; omega
  have e2 : IntKind.i64.wrap (((k * 8 : Nat) : Int) + 8) = ((k * 8 + 8 : Nat) : Int) := by rw [IntKind.wrap_i64]; omega
  go_enter Tryz.func189, Tryz.ntmps189
  go_wp2
  · go_returns
    refine ⟨?_, rfl⟩
    have := unhide HP
    rw [Nat.min_eq_right (by omega)] at this
    rw [← this]
    rfl
  · go_returns
    refine ⟨?_, rfl⟩
    have := unhide HP
    rw [Nat.min_eq_left (by omega)] at this
    rw [← this]
    show Ending.returned (Value.string (S.extract (k * 8) ((k : Int) * 8 + 8).toNat)) = _
    rw [show ((k : Int) * 8 + 8).toNat = k * 8 + 8 by omega]
end Go.Proofs.YtblomippkddgiaaGreatDoor
/-
  A client sends a packet of a line's call.
-/
namespace Go.Proofs.YtblomippkddgiaaGreatDoor
open Go.RowKit

/- the cells of a line -/
structure LnAt (w : World) (b k : Nat) (x : LLn) : Prop where
  a0 : w.cell? ⟨b, k * 10, none⟩ = some (.int .i64 x.state)
  a1 : w.cell? ⟨b, k * 10 + 1, none⟩ = some (.int .i64 x.seq)
  a2 : w.cell? ⟨b, k * 10 + 2, none⟩ = some x.rv
  a3 : w.cell? ⟨b, k * 10 + 3, none⟩ = some (.int .i64 x.uid)
  a4 : w.cell? ⟨b, k * 10 + 4, none⟩ = some (.int .i64 x.proc)
  a5 : w.cell? ⟨b, k * 10 + 5, none⟩ = some (.string (str x.msg))
  a6 : w.cell? ⟨b, k * 10 + 6, none⟩ = some (.int .i64 x.acked)
  a7 : w.cell? ⟨b, k * 10 + 7, none⟩ = some (.string (str x.came))
  a8 : w.cell? ⟨b, k * 10 + 8, none⟩ = some (.int .i64 x.wait)
  a9 : w.cell? ⟨b, k * 10 + 9, none⟩ = some (.int .i64 x.tries)
theorem lnAt {w : World} {b k : Nat} {xs : List LLn} {x : LLn} (h : w.heap[b]? = some (.cells (tab LLn.cells xs).toArray 139 (0, 0))) (hx : xs[k]? = some x) : LnAt w b k x := by
  have q : ∀ j v, j < 10 → x.cells[j]? = some v → w.cell? ⟨b, k * 10 + j, none⟩ = some v := fun j v hj hv => cell_list h (by rw [tab_get LLn.len xs k j x hx hj]; exact hv)
  exact ⟨q 0 _ (by omega) rfl, q 1 _ (by omega) rfl, q 2 _ (by omega) rfl, q 3 _ (by omega) rfl, q 4 _ (by omega) rfl, q 5 _ (by omega) rfl, q 6 _ (by omega) rfl, q 7 _ (by omega) rfl, q 8 _ (by omega) rfl, q 9 _ (by omega) rfl⟩
theorem it_slice {w : World} {F : Foot} {V : Value} {l : List R.It} (h : ItAt w F V l) : ∃ a n c, V = .slice a n c := by
  rcases h with ⟨_, h⟩ | ⟨b, off, cap, cur, _, h, _⟩
  · exact ⟨_, _, _, h⟩
  · exact ⟨_, _, _, h⟩

structure ClAt (w : World) (p : Pl) (G : R.Wd) (i : Nat) (c : R.Cl) : Prop where
  a0 : w.cell? ⟨p.cb i, 0, none⟩ = some (.int .i64 (i : Int))
  a1 : w.cell? ⟨p.cb i, 1, none⟩ = some (.int .i64 c.life)
  a2 : w.cell? ⟨p.cb i, 2, none⟩ = some (.map (some (p.bm i)))
  a3 : w.cell? ⟨p.cb i, 3, none⟩ = some (.slice (some ⟨p.lb i, 0, none⟩) c.lines.length c.lines.length)
  a4 : w.cell? ⟨p.cb i, 4, none⟩ = some (.int .i64 G.c.retry)
  a5 : w.cell? ⟨p.cb i, 5, none⟩ = some (.int .i64 G.c.tries)
  a6 : w.cell? ⟨p.cb i, 6, none⟩ = some (ptr p.n)
theorem clAt {p : Pl} {F : Foot} {G : R.Wd} {w : World} (h : LW p F G w) {i : Nat} {c : R.Cl} (hc : G.clients[i]? = some c) : ClAt w p G i c := by
  have hx := h.cl i c hc
  exact ⟨cell_of hx 0 _ rfl, cell_of hx 1 _ rfl, cell_of hx 2 _ rfl, cell_of hx 3 _ rfl, cell_of hx 4 _ rfl, cell_of hx 5 _ rfl, cell_of hx 6 _ rfl⟩
theorem LW.line {p : Pl} {F : Foot} {G : R.Wd} {w : World} (h : LW p F G w) {i k : Nat} {c : R.Cl} {l : R.Ln} (hc : G.clients[i]? = some c) (hl : c.lines[k]? = some l) : ∃ xs x, w.heap[p.lb i]? = some (.cells (tab LLn.cells xs).toArray 139 (0, 0)) ∧ LnsRel c.lines xs ∧ xs[k]? = some x ∧ LnRel l x ∧ LnAt w (p.lb i) k x ∧ Results w F c.lines xs ∧ ItAt w F x.rv l.result := by
  obtain ⟨xs, h1, h2, h5⟩ := h.ln i c hc
  obtain ⟨x, h3, h4⟩ := h2.get hl
  exact ⟨xs, x, h1, h2, h3, h4, lnAt h1 h3, h5, h5 k l x hl h3⟩

set_option maxRecDepth 100000 in
theorem cf88 : ∀ args w, (callFunc 230 args).run Tryz.prog w = .ok (.enter 230 args) w := fun _ _ => rfl

set_option maxRecDepth 100000 in
set_option maxHeartbeats 4000000 in
theorem LW.sendC {p : Pl} {F : Foot} {G : R.Wd} {w : World} (h : LW p F G w) {i k : Nat} {c : R.Cl} {l : R.Ln} (hc : G.clients[i]? = some c) (hl : c.lines[k]? = some l) (h1 : l.state = 1) (kd pa o : Int) (pl : Bool) (body : List UInt8) (hr : RightP ⟨kd, i, c.life, k, l.seq, l.uid, pa, o, pl, body⟩) :
    Calls Tryz.prog 188 #[ptr (p.cb i), .int .i64 (k : Int), pvs kd 0 0 0 0 0 pa o pl (str body)] w fun e w' => e = .returned (.tuple #[]) ∧ ∃ F', LW p F' (R.sendP G (-1) ⟨kd, i, c.life, k, l.seq, l.uid, pa, o, pl, body⟩) w' ∧ Went F F' w w' := by
  obtain ⟨xs, x, hL, hR, hx, hx1, hla, _, hit⟩ := h.line hc hl
  obtain ⟨ra, rn, rc, hrv⟩ := it_slice hit
  have hca := clAt h hc
  have hk := (List.getElem?_eq_some_iff.1 hl).1
  have hlc := lt_of_cell hca.a0
  have hll := lt_of_cell hla.a0
  obtain ⟨Post, hPost⟩ : ∃ Post : World → Prop, ∀ w'', Post w'' ↔ ∃ F', LW p F' (R.sendP G (-1) ⟨kd, i, c.life, k, l.seq, l.uid, pa, o, pl, body⟩) w'' ∧ Went F F' w w'' := ⟨_, fun _ => Iff.rfl⟩
  suffices hq : Calls Tryz.prog 188 #[ptr (p.cb i), .int .i64 (k : Int), pvs kd 0 0 0 0 0 pa o pl (str body)] w fun e w' => e = .returned (.tuple #[]) ∧ Post w' from hq.mono (fun e w' h => ⟨h.1, (hPost w').1 h.2⟩)
  have HS : Hid (∀ w', LW p F G w' → Below w.heap.size w w' → Calls Tryz.prog 230 #[ptr p.n, .int .i64 (-1), pvs kd i c.life k l.seq l.uid pa o pl (str body)] w' fun e w'' => e = .returned (.tuple #[]) ∧ Post w'') := fun w' h' hb => by
    refine (h'.send (-1) ⟨kd, i, c.life, k, l.seq, l.uid, pa, o, pl, body⟩ hr).mono ?_
    rintro e w'' ⟨rfl, F', q1, q2⟩
    exact ⟨rfl, (hPost w'').2 ⟨F', q1, (Went.ofBelow F hb).trans q2⟩⟩
  clear hPost
  have HBL : Hid (∀ w', Below w.heap.size w w' → LW p F G w') := fun w' hb => h.below hb
  have eu : x.uid = l.uid := (hx1.one h1).1
  have eq : x.seq = l.seq := hx1.seq
  obtain ⟨a0, a1, a2, a3, a4, a5, a6, a7, a8, a9⟩ := hla
  rw [hrv] at a2
  obtain ⟨b0, b1, b2, b3, b4, b5, b6⟩ := hca
  rw [eu] at a3
  rw [eq] at a1
  generalize str body = SB at *
  generalize c.life = li at *
  generalize l.seq = sq at *
  generalize l.uid = u at *
  generalize c.lines.length = nl at *
  generalize p.cb i = cb at *
  generalize p.lb i = lb at *
  clear hr h hL hR hx hx1 hc hl h1 eu eq hit hrv
  obtain ⟨BX, hBX⟩ : ∃ BX, (w.alloc (.cells #[.int .i64 kd, .int .i64 (i : Int), .int .i64 li, .int .i64 (k : Int), .int .i64 sq, .int .i64 u, .int .i64 pa, .int .i64 o, .bool pl, .string SB] 41)).alloc (.cells #[.int .i64 x.state, .int .i64 sq, .slice ra rn rc, .int .i64 u, .int .i64 x.proc, .string (str x.msg), .int .i64 x.acked, .string (str x.came), .int .i64 x.wait, .int .i64 x.tries] 139) = BX := ⟨_, rfl⟩
  have HB : Hid (Below w.heap.size w BX) := by
    rw [← hBX]
    exact ((Below.refl w.heap.size w).alloc (Nat.le_refl _) _).alloc (by simp) _
  have hbx : BX.heap[w.heap.size]? = some (.cells #[.int .i64 kd, .int .i64 (i : Int), .int .i64 li, .int .i64 (k : Int), .int .i64 sq, .int .i64 u, .int .i64 pa, .int .i64 o, .bool pl, .string SB] 41 (0, 0)) := by
    rw [← hBX]
    exact (Below.heap_alloc _ _ _ (by simp)).trans (heap_alloc_new w _)
  have HC := hide ((unhide HS) BX.drew ((unhide HBL) _ (unhide HB).drew) (unhide HB).drew)
  have d6 : BX.cell? ⟨cb, 6, none⟩ = some (ptr p.n) := ((unhide HB).cell (p := ⟨cb, 6, none⟩) hlc).trans b6
  have c0 : BX.cell? ⟨w.heap.size, 0, none⟩ = some (.int .i64 kd) := cell_of hbx 0 _ rfl
  have c1 : BX.cell? ⟨w.heap.size, 1, none⟩ = some (.int .i64 (i : Int)) := cell_of hbx 1 _ rfl
  have c2 : BX.cell? ⟨w.heap.size, 2, none⟩ = some (.int .i64 li) := cell_of hbx 2 _ rfl
  have c3 : BX.cell? ⟨w.heap.size, 3, none⟩ = some (.int .i64 (k : Int)) := cell_of hbx 3 _ rfl
  have c4 : BX.cell? ⟨w.heap.size, 4, none⟩ = some (.int .i64 sq) := cell_of hbx 4 _ rfl
  have c5 : BX.cell? ⟨w.heap.size, 5, none⟩ = some (.int .i64 u) := cell_of hbx 5 _ rfl
  have c6 : BX.cell? ⟨w.heap.size, 6, none⟩ = some (.int .i64 pa) := cell_of hbx 6 _ rfl
  have c7 : BX.cell? ⟨w.heap.size, 7, none⟩ = some (.int .i64 o) := cell_of hbx 7 _ rfl
  have c8 : BX.cell? ⟨w.heap.size, 8, none⟩ = some (.bool pl) := cell_of hbx 8 _ rfl
  have c9 : BX.cell? ⟨w.heap.size, 9, none⟩ = some (.string SB) := cell_of hbx 9 _ rfl
  have HBX := hide hBX
  clear hbx hBX HS HBL
  go_enter Tryz.func188, Tryz.ntmps188
  go_wp2
  rw [unhide HBX]
  clear HBX a0 a1 a2 a3 a4 a5 a6 a7 a8 a9 b0 b1 b2 b3 b4 b5 b6
  go_region_law (refine step_call rfl 230 #[.tmp 36, .const (.int .i64 (-1)), .tmp 37] #[80, 3, 41] rfl cf88 #[ptr p.n, .int .i64 (-1), pvs kd i li k sq u pa o pl SB] rfl _ (unhide HC) ?_; rintro e w1 ⟨rfl, hpost⟩; have HP := hide hpost; clear hpost; refine ⟨_, rfl, ?_⟩)
  all_goals
    go_wp2
    go_returns
    exact ⟨rfl, unhide HP⟩
end Go.Proofs.YtblomippkddgiaaGreatDoor
/-
  A client sends a piece of a call; and once more.
-/
namespace Go.Proofs.YtblomippkddgiaaGreatDoor
open Go.RowKit

theorem callPk_eq {G : R.Wd} {i k : Nat} {c : R.Cl} {l : R.Ln} (hc : G.clients[i]? = some c) (again : Bool) : R.callPk G i k l again = ⟨1, i, c.life, k, l.seq, l.uid, l.acked, R.piecesP l.message, again || decide (l.acked < R.piecesP l.message - 1), R.pieceP l.message l.acked⟩ := by
  unfold R.callPk
  rw [R.lifeP_some hc]
theorem probePk_eq {G : R.Wd} {i k : Nat} {c : R.Cl} {l : R.Ln} (hc : G.clients[i]? = some c) : R.probePk G i k l = ⟨3, i, c.life, k, l.seq, l.uid, 0, 1, true, []⟩ := by
  unfold R.probePk
  rw [R.lifeP_some hc]

set_option maxRecDepth 100000 in
theorem cf76 : ∀ args w, (callFunc 187 args).run Tryz.prog w = .ok (.enter 187 args) w := fun _ _ => rfl

set_option maxRecDepth 100000 in
set_option maxHeartbeats 4000000 in
theorem LW.piece {p : Pl} {F : Foot} {G : R.Wd} {w : World} (h : LW p F G w) {i k : Nat} {c : R.Cl} {l : R.Ln} (hc : G.clients[i]? = some c) (hl : c.lines[k]? = some l) (h1 : l.state = 1) (hak : l.acked < R.piecesP l.message) (again : Bool) :
    Calls Tryz.prog 112 #[ptr (p.cb i), .int .i64 (k : Int), .bool again] w fun e w' => e = .returned (.tuple #[]) ∧ ∃ F', LW p F' (R.sendPieceP G i k again) w' ∧ Went F F' w w' := by
  obtain ⟨xs, x, hL, hR, hx, hx1, hla, _, hit⟩ := h.line hc hl
  obtain ⟨ra, rn, rc, hrv⟩ := it_slice hit
  have hca := clAt h hc
  have hk := (List.getElem?_eq_some_iff.1 hl).1
  have hlc := lt_of_cell hca.a0
  have hll := lt_of_cell hla.a0
  have hrt := R.call_right h.wf hc hl h1 hak again
  obtain ⟨z1, z2, hml, hac, z3⟩ := (((h.wf.cl i c hc).line k l hl)).one h1
  rw [R.sendPieceP_eq (R.lineP_some hc hl)]
  rw [callPk_eq hc] at hrt ⊢
  obtain ⟨a, hae⟩ : ∃ a : Nat, l.acked = (a : Int) := ⟨l.acked.toNat, by omega⟩
  obtain ⟨z4, em, ea, z5⟩ := hx1.one h1
  have hpl : 8 * a < l.message.length := by have := R.acked_iff.2 hak; omega
  rw [hae] at hrt ea hak ⊢
  obtain ⟨Post, hPost⟩ : ∃ Post : World → Prop, ∀ w'', Post w'' ↔ ∃ F', LW p F' (R.sendP G (-1) ⟨1, i, c.life, k, l.seq, l.uid, (a : Int), R.piecesP l.message, again || decide ((a : Int) < R.piecesP l.message - 1), R.pieceP l.message (a : Int)⟩) w'' ∧ Went F F' w w'' := ⟨_, fun _ => Iff.rfl⟩
  suffices hq : Calls Tryz.prog 112 #[ptr (p.cb i), .int .i64 (k : Int), .bool again] w fun e w' => e = .returned (.tuple #[]) ∧ Post w' from hq.mono (fun e w' h => ⟨h.1, (hPost w').1 h.2⟩)
  have HS : Hid (∀ w', Below w.heap.size w w' → Calls Tryz.prog 188 #[ptr (p.cb i), .int .i64 (k : Int), pvs 1 0 0 0 0 0 (a : Int) (R.piecesP l.message) (again || decide ((a : Int) < R.piecesP l.message - 1)) (str (R.pieceP l.message (a : Int)))] w' fun e w'' => e = .returned (.tuple #[]) ∧ Post w'') := fun w' hb => by
    refine ((h.below hb).sendC hc hl h1 1 (a : Int) (R.piecesP l.message) _ _ hrt).mono ?_
    rintro e w'' ⟨rfl, F', q1, q2⟩
    exact ⟨rfl, (hPost w'').2 ⟨F', q1, (Went.ofBelow F hb).trans q2⟩⟩
  have HP := hide (fun w => pieces_any l.message w (by omega))
  have HC := hide (fun w => piece_any l.message a w (by omega) hpl)
  clear hPost hrt
  obtain ⟨a0, a1, a2, a3, a4, a5, a6, a7, a8, a9⟩ := hla
  obtain ⟨b0, b1, b2, b3, b4, b5, b6⟩ := hca
  rw [hrv] at a2
  rw [em] at a5
  rw [ea] at a6
  generalize str (R.pieceP l.message (a : Int)) = SB at *
  generalize str l.message = SM at *
  have hpp : 1 ≤ R.piecesP l.message ∧ R.piecesP l.message ≤ 9 := ⟨R.pieces_pos hml.1, R.pieces_le hml.2⟩
  generalize R.piecesP l.message = P at *
  generalize c.lines.length = nl at *
  generalize p.cb i = cb at *
  generalize p.lb i = lb at *
  obtain ⟨sta, sqa, rva, uida, proca, msga, acka, camea, waita, triea⟩ := x
  simp only at a0 a1 a3 a4 a7 a8 a9
  have hsub : IntKind.i64.wrap (P - 1) = P - 1 := by rw [IntKind.wrap_i64]; omega
  clear h hL hR hx hx1 hc hl h1 em ea hae hac hml hpl z1 z2 z3 z4 z5 hit hrv
  obtain ⟨LX, hLX⟩ : ∃ LX, w.alloc (.cells #[.int .i64 sta, .int .i64 sqa, .slice ra rn rc, .int .i64 uida, .int .i64 proca, .string SM, .int .i64 (a : Int), .string (str camea), .int .i64 waita, .int .i64 triea] 139) = LX := ⟨_, rfl⟩
  have HB : Hid (Below w.heap.size w LX) := by
    rw [← hLX]
    exact (Below.refl w.heap.size w).alloc (Nat.le_refl _) _
  have hbx : LX.heap[w.heap.size]? = some (.cells #[.int .i64 sta, .int .i64 sqa, .slice ra rn rc, .int .i64 uida, .int .i64 proca, .string SM, .int .i64 (a : Int), .string (str camea), .int .i64 waita, .int .i64 triea] 139 (0, 0)) := by
    rw [← hLX]
    exact heap_alloc_new w _
  have c4 : LX.cell? ⟨w.heap.size, 5, none⟩ = some (.string SM) := cell_of hbx 5 _ rfl
  have c5 : LX.cell? ⟨w.heap.size, 6, none⟩ = some (.int .i64 (a : Int)) := cell_of hbx 6 _ rfl
  have HLX := hide hLX
  clear hLX hbx
  by_cases hlast : (a : Int) = P - 1
  · have e1 : decide ((a : Int) < P - 1) = false := by simp; omega
    rw [e1] at HS
    have e2 : (((a : Int)) == P - 1) = true := by simpa using hlast
    clear hlast e1
    cases again
    all_goals
      go_enter Tryz.func112, Tryz.ntmps112
      go_wp2_with fail
      rw [unhide HLX]
      go_region_held3 (fun w' => w'.cell? ⟨w.heap.size, 5, none⟩ = some (.string SM) ∧ w'.cell? ⟨w.heap.size, 6, none⟩ = some (.int .i64 (a : Int))) (go_keep) ((go_at_call 187; refine ((unhide HP) _).mono ?_; rintro e w1 ⟨rfl, hw1⟩; rw [hw1]; clear hw1))
      go_wp2_with (first | (go_at_call 189; refine ((unhide HC) _).mono ?_; rintro e w2 ⟨rfl, hw2⟩; rw [hw2]; clear hw2) | (go_at_call 188; refine ((unhide HS) _ (unhide HB).drew).mono ?_; rintro e w3 ⟨rfl, hw3⟩))
      go_returns
      exact ⟨rfl, hw3⟩
  · have e1 : decide ((a : Int) < P - 1) = true := by simp; omega
    rw [e1] at HS
    have e2 : (((a : Int)) == P - 1) = false := by simpa using hlast
    clear hlast e1
    cases again
    all_goals
      go_enter Tryz.func112, Tryz.ntmps112
      go_wp2_with fail
      rw [unhide HLX]
      go_region_held3 (fun w' => w'.cell? ⟨w.heap.size, 5, none⟩ = some (.string SM) ∧ w'.cell? ⟨w.heap.size, 6, none⟩ = some (.int .i64 (a : Int))) (go_keep) ((go_at_call 187; refine ((unhide HP) _).mono ?_; rintro e w1 ⟨rfl, hw1⟩; rw [hw1]; clear hw1))
      go_wp2_with (first | (go_at_call 189; refine ((unhide HC) _).mono ?_; rintro e w2 ⟨rfl, hw2⟩; rw [hw2]; clear hw2) | (go_at_call 188; refine ((unhide HS) _ (unhide HB).drew).mono ?_; rintro e w3 ⟨rfl, hw3⟩))
      go_returns
      exact ⟨rfl, hw3⟩
end Go.Proofs.YtblomippkddgiaaGreatDoor
