/-
  Joined: Net2 Piece Cli.
-/
import Derived.Test.YthofebmiggodhaaDoorJ25
/-
  The network of a world: sending, showing, counting.
-/
namespace Go.Proofs.YthofebmiggodhaaDoor
open Go.RowKit

theorem row_tag {w : World} {K : Value} {e : TypeId} {size n B : Nat} {xs : List Value} (h : w.ownsRow B e size K n xs) {b : Nat} {ys : Array Value} {t : TypeId} {f : Nat × Nat} (hb : w.heap[b]? = some (.cells ys t f)) (hne : e ≠ t) : K.ownBlock ≠ some b := fun q => by
  rcases h.2 with ⟨rfl, _⟩ | ⟨g, cap, cur, rfl, _, hg, _⟩
  · cases q
  · cases q
    exact ne_tag hg hb hne rfl
theorem row_tag_map {w : World} {K : Value} {e : TypeId} {size n B : Nat} {xs : List Value} (h : w.ownsRow B e size K n xs) {b : Nat} {es : Array MapEntry} {cl : Nat} (hb : w.heap[b]? = some (.map es cl)) : K.ownBlock ≠ some b := fun q => by
  rcases h.2 with ⟨rfl, _⟩ | ⟨g, cap, cur, rfl, _, hg, _⟩
  · cases q
  · cases q
    exact ne_map hg hb rfl

/- the network alone is turned -/
theorem LW.net {p : Pl} {F : Foot} {G : R.Wd} {w w' : World} (h : LW p F G w) {K : Value} {fl : List R.Fl} (hK : w.heap[p.n]? = some (.cells #[K] 79 (0, 0))) (hr : w.ownsRow 0 91 3 K G.flying.length (tab fcells G.flying)) (hn : NetPost w p.n K fl w') (hf : ∀ j, K.ownBlock = some j → F j) (hwf : R.Wf { G with flying := fl }) :
    ∃ F', LW p F' { G with flying := fl } w' ∧ Went F F' w w' := by
  obtain ⟨hx, hnn, hs, hcs, hnm⟩ := h.foot
  obtain ⟨⟨K', k1, k2, k3⟩, hk⟩ := hn
  have sz := hk.size
  have at' : ∀ {b : Nat} {ys : Array Value} {t : TypeId} {f : Nat × Nat}, w.heap[b]? = some (.cells ys t f) → t ≠ 79 → t ≠ 91 → w'.heap[b]? = some (.cells ys t f) := fun hb h1 h2 => hk.at hb (by
    rintro (e | e)
    · exact ne_tag hb hK h1 e
    · exact row_tag hr hb (fun q => h2 q.symm) e)
  have map' : ∀ {α : Type} {k : TypeId} {b : Nat} {lit : α → Lit} {g : α → Option Int} {n : Nat}, Mp w k b lit g n → Mp w' k b lit g n := fun hm => by
    obtain ⟨es, q, hq⟩ := hm.block
    refine hm.keep hk ?_
    rintro (e | e)
    · exact (ne_map hK hq) e.symm
    · exact row_tag_map hr hq e
  refine ⟨fun k => F k ∨ K'.ownBlock = some k, ⟨hwf, h.cold, at' h.bx (by decide) (by decide), ?_, ⟨K', k1, k2, fun j hj => Or.inr hj⟩, ?_, map' h.names, fun i c hc => at' (h.cl i c hc) (by decide) (by decide), fun i c hc => ?_, fun i c hc => map' (h.bound i c hc), ⟨Or.inl hx, Or.inl hnn, Or.inl hs, Or.inl hcs, Or.inl hnm⟩, fun i hi => ?_, h.inj, fun k hk' => ?_⟩, ?_⟩
  · obtain ⟨cur, h1, h2⟩ := h.bcs
    exact ⟨cur, at' h1 (by decide) (by decide), h2⟩
  · obtain ⟨Ks, h1, h2, h3⟩ := h.bs
    refine ⟨Ks, at' h1 (by decide) (by decide), hk.row h2 (fun j hj => ?_), fun j hj => Or.inl (h3 j hj)⟩
    rcases h2.2 with ⟨rfl, _⟩ | ⟨g, cap, cur, rfl, _, hg, _⟩
    · cases hj
    · cases hj
      rintro (e | e)
      · exact ne_tag hg hK (by decide) e
      · exact row_tag hr hg (by decide) e
  · obtain ⟨xs, h1, h2⟩ := h.ln i c hc
    exact ⟨xs, at' h1 (by decide) (by decide), h2⟩
  · obtain ⟨a1, a2, a3, a4⟩ := h.feet i hi
    exact ⟨Or.inl a1, Or.inl a2, Or.inl a3, a4⟩
  · rcases hk' with q | q
    · exact Nat.lt_of_lt_of_le (h.lt k q) sz
    · exact (World.ownsRow.lt k2 k q).2
  · refine ⟨hk.mono (fun k _ q => ?_), fun k q => ?_⟩
    · rcases q with rfl | q
      · exact hnn
      · exact hf k q
    · rcases q with q | q
      · exact Or.inl q
      · rcases k3 with e | ⟨j, e, hj⟩
        · exact Or.inl (hf k (e ▸ q))
        · rw [e] at q
          cases q
          exact Or.inr hj

theorem slice_of {w : World} {B n size : Nat} {e : TypeId} {K : Value} {xs : List Value} (h : w.ownsRow B e size K n xs) : ∃ a c, K = .slice a n c := by
  rcases h.2 with ⟨rfl, rfl⟩ | ⟨g, cap, cur, rfl, _⟩
  · exact ⟨none, 0, rfl⟩
  · exact ⟨_, _, rfl⟩

theorem LW.send {p : Pl} {F : Foot} {G : R.Wd} {w : World} (h : LW p F G w) (to : Int) (pk : Pk) (hr : RightP pk) :
    Calls Tryd.prog 88 #[ptr p.n, .int .i64 to, pv pk] w fun e w' => e = .returned (.tuple #[]) ∧ ∃ F', LW p F' (R.sendP G to pk) w' ∧ Went F F' w w' := by
  obtain ⟨K, hK, hrow, hf⟩ := h.bn
  have hfl := h.wf.fly
  have hwf := h.wf.sendP (to := to) hr
  obtain ⟨a, c, rfl⟩ := slice_of hrow
  unfold R.sendP at hwf ⊢
  by_cases hl : G.flying.length < 40
  · rw [if_pos hl] at hwf ⊢
    refine (send_room w p.n a c G.flying to pk hK hrow hl hr).mono ?_
    rintro e w' ⟨rfl, hn⟩
    exact ⟨rfl, h.net hK hrow hn hf hwf⟩
  · rw [if_neg hl]
    have e40 : G.flying.length = 40 := by omega
    rw [e40] at hK
    refine (send_full w p.n a c to pk hK).mono ?_
    rintro e w' ⟨rfl, hb⟩
    exact ⟨rfl, F, h.below hb, Went.ofBelow F hb⟩

/- Flying -/
theorem LW.flying {p : Pl} {F : Foot} {G : R.Wd} {w : World} (h : LW p F G w) : Calls Tryd.prog 16 #[ptr p.x] w fun e w' => e = .returned (.int .i64 (G.flying.length : Int)) ∧ w' = w := by
  obtain ⟨K, hK, hrow, _⟩ := h.bn
  obtain ⟨a, c, rfl⟩ := slice_of hrow
  have hx := h.bx
  have c0 : w.cell? ⟨p.x, 0, none⟩ = some (ptr p.n) := cell_of hx 0 _ rfl
  have c1 : w.cell? ⟨p.n, 0, none⟩ = some (.slice a G.flying.length c) := cell_of hK 0 _ rfl
  clear hx hK hrow h
  generalize G.flying.length = m at *
  go_enter Tryd.func16, Tryd.ntmps16
  go_wp2_with (first | (go_at_call 31; go_in))
  go_returns
  exact ⟨rfl, rfl⟩

/- Show -/
set_option maxRecDepth 100000 in
set_option maxHeartbeats 1000000 in
theorem show_at (w : World) (x n s cs cn cap : Nat) (g : Nat) (m c : Nat) (i : Nat) (v0 : Int) (v1 : ByteArray) (hx : w.heap[x]? = some (.cells #[ptr n, ptr s, .slice (some ⟨cs, 0, none⟩) cn cap] 66 (0, 0))) (hK : w.heap[n]? = some (.cells #[.slice (some ⟨g, 0, none⟩) m c] 79 (0, 0))) (hi : i < m) (h0 : w.cell? ⟨g, i * 3, none⟩ = some (.int .i64 v0)) (h1 : w.cell? ⟨g, i * 3 + 1, none⟩ = some (.string v1)) :
    Calls Tryd.prog 12 #[ptr x, .int .i64 (i : Int)] w fun e w' => e = .returned (.tuple #[.int .i64 v0, .string v1, .int .i64 0]) ∧ Below w.heap.size w w' := by
  have c0 : w.cell? ⟨x, 0, none⟩ = some (ptr n) := cell_of hx 0 _ rfl
  have c1 : w.cell? ⟨n, 0, none⟩ = some (.slice (some ⟨g, 0, none⟩) m c) := cell_of hK 0 _ rfl
  clear hx hK
  have q0 : (0 : Int) ≤ (i : Int) := by omega
  have q1 : ((i : Int) < (m : Int)) := by omega
  go_enter Tryd.func12, Tryd.ntmps12
  go_wp2_with (first | (go_at_call 24; go_in) | (go_at_call 42; go_in))
  go_region_held3 (fun w' => w'.cell? ⟨n, 0, none⟩ = some (.slice (some ⟨g, 0, none⟩) m c) ∧ w'.cell? ⟨g, i * 3, none⟩ = some (.int .i64 v0) ∧ w'.cell? ⟨g, i * 3 + 1, none⟩ = some (.string v1)) (go_keep) (fail)
  go_wp2
  go_returns
  exact ⟨rfl, (Below.refl _ _).drew⟩
theorem LW.showAt {p : Pl} {F : Foot} {G : R.Wd} {w : World} (h : LW p F G w) {i : Nat} {f : R.Fl} (hf : G.flying[i]? = some f) : Calls Tryd.prog 12 #[ptr p.x, .int .i64 (i : Int)] w fun e w' => e = .returned (.tuple #[.int .i64 f.to, .string (str f.s), .int .i64 0]) ∧ Below w.heap.size w w' := by
  obtain ⟨K, hK, hrow, _⟩ := h.bn
  have hi := (List.getElem?_eq_some_iff.1 hf).1
  rcases hrow.2 with ⟨_, h0⟩ | ⟨g, cap, cur, rfl, _, hg, _, _, hcs, htk⟩
  · omega
  · have q : ∀ j, j < 3 → cur[i * 3 + j]? = (fcells f)[j]? := fun j hj => by
      rw [← tab_get fcells_len G.flying i j f hf hj, ← htk, List.getElem?_take, if_pos (by omega)]
      simp
    refine show_at w p.x p.n p.s p.cs G.clients.length p.cap g G.flying.length cap i f.to (str f.s) h.bx hK hi ?_ ?_
    · have := q 0 (by omega)
      simp [World.cell?, hg]
      simpa [fcells] using this
    · have := q 1 (by omega)
      simp [World.cell?, hg]
      simpa [fcells] using this
end Go.Proofs.YthofebmiggodhaaDoor
/-
  The landed message: its pieces.
-/
namespace Go.Proofs.YthofebmiggodhaaDoor
open Go.RowKit

theorem piecesP_int (s : List UInt8) : R.piecesP s = ((s.length : Int) + 7) / 8 := by
  unfold R.piecesP
  omega
theorem pieces_any (s : List UInt8) (w : World) (hs : s.length ≤ 1000) : Calls Tryd.prog 76 #[.string (str s)] w fun e w' => e = .returned (.int .i64 (R.piecesP s)) ∧ w' = w := by
  have hz : (str s).size = s.length := str_size s
  rw [piecesP_int]
  generalize str s = S at *
  generalize s.length = n at *
  have e1 : IntKind.i64.wrap ((n : Int) + 8) = (n : Int) + 8 := by rw [IntKind.wrap_i64]; omega
  have e2 : IntKind.i64.wrap ((n : Int) + 8 - 1) = (n : Int) + 7 := by rw [IntKind.wrap_i64]; omega
  have e3 : IntKind.i64.wrap (((n : Int) + 7).tdiv 8) = ((n : Int) + 7) / 8 := by
    rw [Int.tdiv_eq_ediv_of_nonneg (by omega), IntKind.wrap_i64]; omega
  go_enter Tryd.func76, Tryd.ntmps76
  go_wp2
  go_returns
  exact ⟨rfl, rfl⟩

theorem piece_any (s : List UInt8) (k : Nat) (w : World) (hs : s.length ≤ 1000) (hk : 8 * k < s.length) : Calls Tryd.prog 78 #[.string (str s), .int .i64 (k : Int)] w fun e w' => e = .returned (.string (str (R.pieceP s (k : Int)))) ∧ w' = w := by
  have hz : (str s).size = s.length := str_size s
  have HP : Hid ((str s).extract (k * 8) (min (k * 8 + 8) s.length) = str (R.pieceP s (k : Int))) := by
    show _ = _
    rw [str_extract]
    congr 1
    unfold R.pieceP
    rw [Int.toNat_natCast, Nat.mul_comm 8 k]
    apply List.ext_getElem?
    intro i
    simp only [List.getElem?_take, List.getElem?_drop]
    by_cases h1 : i < 8
    · rw [if_pos h1]
      by_cases h2 : i < min (k * 8 + 8) s.length - k * 8
      · rw [if_pos h2]
      · rw [if_neg h2, List.getElem?_eq_none]
        omega
    · rw [if_neg h1, if_neg]
      omega
  generalize str (R.pieceP s (k : Int)) = T at *
  generalize str s = S at *
  generalize s.length = n at *
  have e1 : IntKind.i64.wrap ((k : Int) * 8) = ((k * 8 : Nat) : Int) := by rw [IntKind.wrap_i64]; omega
  have e2 : IntKind.i64.wrap (((k * 8 : Nat) : Int) + 8) = ((k * 8 + 8 : Nat) : Int) := by rw [IntKind.wrap_i64]; omega
  go_enter Tryd.func78, Tryd.ntmps78
  go_wp2
  · go_returns
    refine ⟨?_, rfl⟩
    have := unhide HP
    rw [Nat.min_eq_right (by omega)] at this
    rw [← this]
    rfl
  · go_returns
    refine ⟨?_, rfl⟩
    have := unhide HP
    rw [Nat.min_eq_left (by omega)] at this
    rw [← this]
    show Ending.returned (Value.string (S.extract (k * 8) ((k : Int) * 8 + 8).toNat)) = _
    rw [show ((k : Int) * 8 + 8).toNat = k * 8 + 8 by omega]
end Go.Proofs.YthofebmiggodhaaDoor
/-
  A client sends a packet of a line's call.
-/
namespace Go.Proofs.YthofebmiggodhaaDoor
open Go.RowKit

/- the cells of a line -/
structure LnAt (w : World) (b k : Nat) (x : LLn) : Prop where
  a0 : w.cell? ⟨b, k * 8, none⟩ = some (.int .i64 x.state)
  a1 : w.cell? ⟨b, k * 8 + 1, none⟩ = some (.int .i64 x.seq)
  a2 : w.cell? ⟨b, k * 8 + 2, none⟩ = some (.slice none 0 0)
  a3 : w.cell? ⟨b, k * 8 + 3, none⟩ = some (.int .i64 x.uid)
  a4 : w.cell? ⟨b, k * 8 + 4, none⟩ = some (.string (str x.msg))
  a5 : w.cell? ⟨b, k * 8 + 5, none⟩ = some (.int .i64 x.acked)
  a6 : w.cell? ⟨b, k * 8 + 6, none⟩ = some (.int .i64 x.wait)
  a7 : w.cell? ⟨b, k * 8 + 7, none⟩ = some (.int .i64 x.tries)
theorem lnAt {w : World} {b k : Nat} {xs : List LLn} {x : LLn} (h : w.heap[b]? = some (.cells (tab LLn.cells xs).toArray 108 (0, 0))) (hx : xs[k]? = some x) : LnAt w b k x := by
  have q : ∀ j v, j < 8 → x.cells[j]? = some v → w.cell? ⟨b, k * 8 + j, none⟩ = some v := fun j v hj hv => cell_list h (by rw [tab_get LLn.len xs k j x hx hj]; exact hv)
  exact ⟨q 0 _ (by omega) rfl, q 1 _ (by omega) rfl, q 2 _ (by omega) rfl, q 3 _ (by omega) rfl, q 4 _ (by omega) rfl, q 5 _ (by omega) rfl, q 6 _ (by omega) rfl, q 7 _ (by omega) rfl⟩

structure ClAt (w : World) (p : Pl) (G : R.Wd) (i : Nat) (c : R.Cl) : Prop where
  a0 : w.cell? ⟨p.cb i, 0, none⟩ = some (.int .i64 (i : Int))
  a1 : w.cell? ⟨p.cb i, 1, none⟩ = some (.int .i64 c.life)
  a2 : w.cell? ⟨p.cb i, 2, none⟩ = some (.map (some (p.bm i)))
  a3 : w.cell? ⟨p.cb i, 3, none⟩ = some (.slice (some ⟨p.lb i, 0, none⟩) c.lines.length c.lines.length)
  a4 : w.cell? ⟨p.cb i, 4, none⟩ = some (.int .i64 G.c.retry)
  a5 : w.cell? ⟨p.cb i, 5, none⟩ = some (.int .i64 G.c.tries)
  a6 : w.cell? ⟨p.cb i, 6, none⟩ = some (ptr p.n)
theorem clAt {p : Pl} {F : Foot} {G : R.Wd} {w : World} (h : LW p F G w) {i : Nat} {c : R.Cl} (hc : G.clients[i]? = some c) : ClAt w p G i c := by
  have hx := h.cl i c hc
  exact ⟨cell_of hx 0 _ rfl, cell_of hx 1 _ rfl, cell_of hx 2 _ rfl, cell_of hx 3 _ rfl, cell_of hx 4 _ rfl, cell_of hx 5 _ rfl, cell_of hx 6 _ rfl⟩
theorem LW.line {p : Pl} {F : Foot} {G : R.Wd} {w : World} (h : LW p F G w) {i k : Nat} {c : R.Cl} {l : R.Ln} (hc : G.clients[i]? = some c) (hl : c.lines[k]? = some l) : ∃ xs x, w.heap[p.lb i]? = some (.cells (tab LLn.cells xs).toArray 108 (0, 0)) ∧ LnsRel c.lines xs ∧ xs[k]? = some x ∧ LnRel l x ∧ LnAt w (p.lb i) k x := by
  obtain ⟨xs, h1, h2⟩ := h.ln i c hc
  obtain ⟨x, h3, h4⟩ := h2.get hl
  exact ⟨xs, x, h1, h2, h3, h4, lnAt h1 h3⟩

set_option maxRecDepth 100000 in
theorem cf88 : ∀ args w, (callFunc 88 args).run Tryd.prog w = .ok (.enter 88 args) w := fun _ _ => rfl

set_option maxRecDepth 100000 in
set_option maxHeartbeats 4000000 in
theorem LW.sendC {p : Pl} {F : Foot} {G : R.Wd} {w : World} (h : LW p F G w) {i k : Nat} {c : R.Cl} {l : R.Ln} (hc : G.clients[i]? = some c) (hl : c.lines[k]? = some l) (h1 : l.state = 1) (kd pa o : Int) (pl : Bool) (body : List UInt8) (hr : RightP ⟨kd, i, c.life, k, l.seq, l.uid, pa, o, pl, body⟩) :
    Calls Tryd.prog 77 #[ptr (p.cb i), .int .i64 (k : Int), pvs kd 0 0 0 0 0 pa o pl (str body)] w fun e w' => e = .returned (.tuple #[]) ∧ ∃ F', LW p F' (R.sendP G (-1) ⟨kd, i, c.life, k, l.seq, l.uid, pa, o, pl, body⟩) w' ∧ Went F F' w w' := by
  obtain ⟨xs, x, hL, hR, hx, hx1, hla⟩ := h.line hc hl
  have hca := clAt h hc
  have hk := (List.getElem?_eq_some_iff.1 hl).1
  have hlc := lt_of_cell hca.a0
  have hll := lt_of_cell hla.a0
  obtain ⟨Post, hPost⟩ : ∃ Post : World → Prop, ∀ w'', Post w'' ↔ ∃ F', LW p F' (R.sendP G (-1) ⟨kd, i, c.life, k, l.seq, l.uid, pa, o, pl, body⟩) w'' ∧ Went F F' w w'' := ⟨_, fun _ => Iff.rfl⟩
  suffices hq : Calls Tryd.prog 77 #[ptr (p.cb i), .int .i64 (k : Int), pvs kd 0 0 0 0 0 pa o pl (str body)] w fun e w' => e = .returned (.tuple #[]) ∧ Post w' from hq.mono (fun e w' h => ⟨h.1, (hPost w').1 h.2⟩)
  have HS : Hid (∀ w', LW p F G w' → Below w.heap.size w w' → Calls Tryd.prog 88 #[ptr p.n, .int .i64 (-1), pvs kd i c.life k l.seq l.uid pa o pl (str body)] w' fun e w'' => e = .returned (.tuple #[]) ∧ Post w'') := fun w' h' hb => by
    refine (h'.send (-1) ⟨kd, i, c.life, k, l.seq, l.uid, pa, o, pl, body⟩ hr).mono ?_
    rintro e w'' ⟨rfl, F', q1, q2⟩
    exact ⟨rfl, (hPost w'').2 ⟨F', q1, (Went.ofBelow F hb).trans q2⟩⟩
  clear hPost
  have HBL : Hid (∀ w', Below w.heap.size w w' → LW p F G w') := fun w' hb => h.below hb
  have eu : x.uid = l.uid := (hx1.one h1).1
  have eq : x.seq = l.seq := hx1.seq
  obtain ⟨a0, a1, a2, a3, a4, a5, a6, a7⟩ := hla
  obtain ⟨b0, b1, b2, b3, b4, b5, b6⟩ := hca
  rw [eu] at a3
  rw [eq] at a1
  generalize str body = SB at *
  generalize c.life = li at *
  generalize l.seq = sq at *
  generalize l.uid = u at *
  generalize c.lines.length = nl at *
  generalize p.cb i = cb at *
  generalize p.lb i = lb at *
  clear hr h hL hR hx hx1 hc hl h1 eu eq
  obtain ⟨BX, hBX⟩ : ∃ BX, (w.alloc (.cells #[.int .i64 kd, .int .i64 (i : Int), .int .i64 li, .int .i64 (k : Int), .int .i64 sq, .int .i64 u, .int .i64 pa, .int .i64 o, .bool pl, .string SB] 42)).alloc (.cells #[.int .i64 x.state, .int .i64 sq, .slice none 0 0, .int .i64 u, .string (str x.msg), .int .i64 x.acked, .int .i64 x.wait, .int .i64 x.tries] 108) = BX := ⟨_, rfl⟩
  have HB : Hid (Below w.heap.size w BX) := by
    rw [← hBX]
    exact ((Below.refl w.heap.size w).alloc (Nat.le_refl _) _).alloc (by simp) _
  have hbx : BX.heap[w.heap.size]? = some (.cells #[.int .i64 kd, .int .i64 (i : Int), .int .i64 li, .int .i64 (k : Int), .int .i64 sq, .int .i64 u, .int .i64 pa, .int .i64 o, .bool pl, .string SB] 42 (0, 0)) := by
    rw [← hBX]
    exact (Below.heap_alloc _ _ _ (by simp)).trans (heap_alloc_new w _)
  have HC := hide ((unhide HS) BX.drew ((unhide HBL) _ (unhide HB).drew) (unhide HB).drew)
  have d6 : BX.cell? ⟨cb, 6, none⟩ = some (ptr p.n) := ((unhide HB).cell (p := ⟨cb, 6, none⟩) hlc).trans b6
  have c0 : BX.cell? ⟨w.heap.size, 0, none⟩ = some (.int .i64 kd) := cell_of hbx 0 _ rfl
  have c1 : BX.cell? ⟨w.heap.size, 1, none⟩ = some (.int .i64 (i : Int)) := cell_of hbx 1 _ rfl
  have c2 : BX.cell? ⟨w.heap.size, 2, none⟩ = some (.int .i64 li) := cell_of hbx 2 _ rfl
  have c3 : BX.cell? ⟨w.heap.size, 3, none⟩ = some (.int .i64 (k : Int)) := cell_of hbx 3 _ rfl
  have c4 : BX.cell? ⟨w.heap.size, 4, none⟩ = some (.int .i64 sq) := cell_of hbx 4 _ rfl
  have c5 : BX.cell? ⟨w.heap.size, 5, none⟩ = some (.int .i64 u) := cell_of hbx 5 _ rfl
  have c6 : BX.cell? ⟨w.heap.size, 6, none⟩ = some (.int .i64 pa) := cell_of hbx 6 _ rfl
  have c7 : BX.cell? ⟨w.heap.size, 7, none⟩ = some (.int .i64 o) := cell_of hbx 7 _ rfl
  have c8 : BX.cell? ⟨w.heap.size, 8, none⟩ = some (.bool pl) := cell_of hbx 8 _ rfl
  have c9 : BX.cell? ⟨w.heap.size, 9, none⟩ = some (.string SB) := cell_of hbx 9 _ rfl
  have HBX := hide hBX
  clear hbx hBX HS HBL
  go_enter Tryd.func77, Tryd.ntmps77
  go_wp2
  rw [unhide HBX]
  clear HBX a0 a1 a2 a3 a4 a5 a6 a7 b0 b1 b2 b3 b4 b5 b6
  go_region_law (refine step_call rfl 88 #[.tmp 36, .const (.int .i64 (-1)), .tmp 37] #[62, 3, 42] rfl cf88 #[ptr p.n, .int .i64 (-1), pvs kd i li k sq u pa o pl SB] rfl _ (unhide HC) ?_; rintro e w1 ⟨rfl, hpost⟩; have HP := hide hpost; clear hpost; refine ⟨_, rfl, ?_⟩)
  all_goals
    go_wp2
    go_returns
    exact ⟨rfl, unhide HP⟩
end Go.Proofs.YthofebmiggodhaaDoor
