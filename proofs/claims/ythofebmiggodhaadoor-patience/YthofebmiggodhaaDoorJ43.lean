/-
  Joined: Keep6 Wait Start.
-/
import Derived.Test.YthofebmiggodhaaDoorJ41
import Derived.Test.YthofebmiggodhaaDoorJ42
import Derived.Test.YthofebmiggodhaaDoorJ29
/-
  The statements' call: on client 0, line 0.
-/
namespace Go.Proofs.YthofebmiggodhaaDoor
open Go.RowKit

theorem info61 : (Tryd.prog.info? 61).map (fun i => (i.zero, i.size, i.bytes)) = some (some (.agg #[.int .i64 0, .int .i64 0, .int .i64 0, .int .i64 0, .int .i64 0, .int .i64 0, .slice none 0 0]), 7, 72) := by kernel_rfl

/- an argument for a kind and a procedure -/
theorem arg_any (k pr : Nat) (hk : k < 3) (hpr : pr < 2) (h2 : k = 2 → pr = 0) (a b : Int) (ha : In64 a) (hb : In64 b) : ∃ v, Fits (sigA k pr) v ∧ sigE k pr = 0 ∧ ∀ w, Calls Tryd.prog 22 #[.int .i64 (k : Int), .int .i64 (pr : Int), .int .i64 a, .int .i64 b] w (ArgPost v w) := by
  have h3 : (k = 0 ∧ pr = 0) ∨ (k = 0 ∧ pr = 1) ∨ (k = 1 ∧ pr = 0) ∨ (k = 1 ∧ pr = 1) ∨ (k = 2 ∧ pr = 0) := by omega
  rcases h3 with ⟨rfl, rfl⟩ | ⟨rfl, rfl⟩ | ⟨rfl, rfl⟩ | ⟨rfl, rfl⟩ | ⟨rfl, rfl⟩
  · obtain ⟨v, h, q⟩ := arg_00 a b ha
    exact ⟨v, h, rfl, q⟩
  · obtain ⟨v, h, q⟩ := arg_01 a b ha
    exact ⟨v, h, rfl, q⟩
  · obtain ⟨v, h, q⟩ := arg_10 a b ha
    exact ⟨v, h, rfl, q⟩
  · obtain ⟨v, h, q⟩ := arg_11 a b ha
    exact ⟨v, h, rfl, q⟩
  · obtain ⟨v, h, q⟩ := arg_20 a b ha hb
    exact ⟨v, h, rfl, q⟩

/- what is wanted of a world, that a call on its first line be taken -/
structure Ready (s : RS) (G : R.Wd) (k : Nat) (cl : R.Cl) (l : R.Ln) : Prop where
  gcl : G.clients[0]? = some cl
  gln : cl.lines[0]? = some l
  st : ¬ l.state = 1
  sq : l.seq ≤ 500
  sq0 : 0 ≤ l.seq
  seq : s.seq[0]? = some l.seq
  uid : s.uid[k]? = some ((k : Int) + 1)
  bound : ((k : Int) + 1) ∈ cl.bound
  kind : kindOf G ((k : Int) + 1) = (k : Int)
  life : ∃ x, s.life[0]? = some x
  nm : s.nm + 1 ≤ 10
def calledG (G : R.Wd) (l : R.Ln) (k : Nat) (m : List UInt8) : R.Wd := R.sendPieceP (R.setLine G ((0 : Nat) : Int) ((0 : Nat) : Int) (newLn G l ((k : Int) + 1) e0 m)) ((0 : Nat) : Int) ((0 : Nat) : Int) false

set_option maxRecDepth 100000 in
theorem cf23 : ∀ args w, (callFunc 23 args).run Tryd.prog w = .ok (.enter 23 args) w := fun _ _ => rfl
set_option maxRecDepth 100000 in
theorem cf22 : ∀ args w, (callFunc 22 args).run Tryd.prog w = .ok (.enter 22 args) w := fun _ _ => rfl

theorem Both.callW {w0 : World} {q : RP} {p : Pl} {c : R.Cf} {s : RS} {G : R.Wd} {w W : World} (h : Both w0 q p c s G w) (hb : Below w.heap.size w W) {k : Nat} {pr : Int} {cl : R.Cl} {l : R.Ln} (hR : Ready s G k cl l) (hpr : 0 ≤ pr ∧ pr < 2) {v : List V.It} (hF : Fits (sigA k pr) v) (hE : sigE k pr = 0) {X : Value} (hI : V.Items W X v) :
    Calls Tryd.prog 23 #[ptr q.x, .int .i64 0, .int .i64 0, .int .i64 ((k : Int) + 1), .int .i64 pr, X] W fun e w' => e = .returned (.tuple #[.int .i64 (l.seq + 1), .int .i64 0]) ∧ (∃ m, 2 ≤ m.length ∧ m.length ≤ 72 ∧ Both w0 q p c s (calledG G l k m) w') ∧ ∀ b, w.heap.size ≤ b → b < W.heap.size → w'.heap[b]? = W.heap[b]? := by
  have h' := h.still hb
  obtain ⟨E, F, hr, hw, hd, hlo⟩ := h.run
  have hc := (hw.below hb).call h'.t0 (i := 0) (k := 0) hR.gcl hR.gln (uid := (k : Int) + 1) (proc := pr) hR.bound (by omega) (by rw [hR.kind]; exact hE) hI hF.few (by rw [hR.kind]; exact hF.chk) (by rw [hR.kind]; exact hF.zero) (by rw [hR.kind]; exact hF.len) hR.st (by have := hR.sq; omega) e0
  rw [h.x]
  refine hc.mono ?_
  rintro e w' ⟨rfl, F', q1, q2⟩
  rw [hR.kind] at q1
  refine ⟨rfl, ⟨_, ?_, ?_, h'.world (hr.below hb) hd hlo q1 q2⟩, fun b h1 h2 => q2.keeps.block b h2 (fun hf => by have := hw.lt b hf; omega)⟩
  · simp [two8]
  · have := hF.len
    simp [two8]
    omega
theorem Both.statusW {w0 : World} {q : RP} {p : Pl} {c : R.Cf} {s : RS} {G : R.Wd} {w : World} (h : Both w0 q p c s G w) {cl : R.Cl} {l : R.Ln} (h1 : G.clients[0]? = some cl) (h2 : cl.lines[0]? = some l) :
    Calls Tryd.prog 15 #[ptr q.x, .int .i64 0, .int .i64 0] w fun e w' => e = .returned (.tuple #[.agg #[.int .i64 l.state, .int .i64 l.seq, .slice none 0 0], .int .i64 0]) ∧ Below w.heap.size w w' := by
  obtain ⟨E, F, hr, hw, hd, hlo⟩ := h.run
  rw [h.x]
  exact hw.status (i := 0) (k := 0) h1 h2
end Go.Proofs.YthofebmiggodhaaDoor
/-
  One call alone under way, and nothing delivered: what the ticks do.
-/
namespace Go.Proofs.YthofebmiggodhaaDoor

theorem lineP_set {G : R.Wd} {l' : R.Ln} {i k : Nat} (h : ¬ (i = 0 ∧ k = 0)) : R.lineP (R.setLine G ((0 : Nat) : Int) ((0 : Nat) : Int) l') i k = R.lineP G i k := by
  unfold R.lineP
  simp only [Int.toNat_natCast]
  rw [R.setLine_client]
  cases G.clients[i]? with
  | none => rfl
  | some c =>
    by_cases hi : 0 = i
    · subst hi
      have hk : ¬ 0 = k := fun e => h ⟨rfl, e.symm⟩
      simp [hk]
    · simp [hi]
theorem lineP_send {G : R.Wd} {to : Int} {p : Pk} {i k : Nat} : R.lineP (R.sendP G to p) i k = R.lineP G i k := by
  unfold R.lineP
  rw [sendP_clients]
theorem sendP_room {G : R.Wd} {to : Int} {p : Pk} (h : G.flying.length < 40) : (R.sendP G to p).flying = G.flying ++ [⟨to, sealB p, false⟩] := by
  unfold R.sendP
  rw [if_pos h]

/- only the first line of the first client may be under way -/
structure Alone (G : R.Wd) (c : R.Cf) (cl : R.Cl) (l : R.Ln) : Prop where
  cf : G.c = c
  len : 1 ≤ G.clients.length
  lines : 1 ≤ c.lines.toNat
  gcl : G.clients[0]? = some cl
  gln : cl.lines[0]? = some l
  life : cl.life = 1
  rest : ∀ i k : Nat, ¬ (i = 0 ∧ k = 0) → ¬ (R.lineP G i k).state = 1
theorem Alone.at {G : R.Wd} {c : R.Cf} {cl : R.Cl} {l : R.Ln} (h : Alone G c cl l) : R.lineP G ((0 : Nat) : Int) ((0 : Nat) : Int) = l := R.lineP_some h.gcl h.gln
theorem Alone.set {G : R.Wd} {c : R.Cf} {cl : R.Cl} {l : R.Ln} (h : Alone G c cl l) (l' : R.Ln) : Alone (R.setLine G ((0 : Nat) : Int) ((0 : Nat) : Int) l') c { cl with lines := cl.lines.set 0 l' } l' := by
  refine ⟨h.cf, by simpa [R.setLine] using h.len, h.lines, ?_, ?_, h.life, fun i k hik => by rw [lineP_set hik]; exact h.rest i k hik⟩
  · rw [R.setLine_client, h.gcl]
    simp
  · simp [(List.getElem?_eq_some_iff.1 h.gln).1]
theorem Alone.send {G : R.Wd} {c : R.Cf} {cl : R.Cl} {l : R.Ln} (h : Alone G c cl l) (to : Int) (p : Pk) : Alone (R.sendP G to p) c cl l := by
  refine ⟨by rw [sendP_c]; exact h.cf, by rw [sendP_clients]; exact h.len, h.lines, by rw [sendP_clients]; exact h.gcl, h.gln, h.life, fun i k hik => by rw [lineP_send]; exact h.rest i k hik⟩

theorem tickC_idle {G : R.Wd} {i : Nat} : ∀ n, (∀ k : Nat, k < n → ¬ (R.lineP G i k).state = 1) → tickC G i n = G
  | 0, _ => rfl
  | n + 1, h => by
    rw [tickC_succ, tickC_idle n (fun k hk => h k (by omega))]
    exact tickLine_idle rfl (h n (by omega))
theorem tickC_first {G : R.Wd} {n : Nat} (h : ∀ k : Nat, ¬ k = 0 → ¬ (R.lineP (R.tickLine G ((0 : Nat) : Int) ((0 : Nat) : Int)) ((0 : Nat) : Int) k).state = 1) : tickC G 0 (n + 1) = R.tickLine G ((0 : Nat) : Int) ((0 : Nat) : Int) := by
  induction n with
  | zero => rw [tickC_succ]; rfl
  | succ n ih =>
    rw [tickC_succ, ih]
    exact tickLine_idle rfl (h (n + 1) (by omega))
theorem tickW_first {G G' : R.Wd} (hG : G' = R.tickLine G ((0 : Nat) : Int) ((0 : Nat) : Int)) (hl : 1 ≤ G.c.lines.toNat) (h : ∀ i k : Nat, ¬ (i = 0 ∧ k = 0) → ¬ (R.lineP G' i k).state = 1) : ∀ n, tickW G (n + 1) = G'
  | 0 => by
    rw [tickW_succ]
    show tickC G 0 G.c.lines.toNat = G'
    obtain ⟨m, hm⟩ : ∃ m, G.c.lines.toNat = m + 1 := ⟨G.c.lines.toNat - 1, by omega⟩
    rw [hm, tickC_first (fun k hk => by rw [← hG]; exact h 0 k (fun e => hk e.2)), hG]
  | n + 1 => by
    rw [tickW_succ, tickW_first hG hl h n]
    exact tickC_idle _ (fun k _ => h (n + 1) k (fun e => by omega))
theorem Alone.tick {G : R.Wd} {c : R.Cf} {cl : R.Cl} {l : R.Ln} (h : Alone G c cl l) (hr : ∀ i k : Nat, ¬ (i = 0 ∧ k = 0) → ¬ (R.lineP (R.tickLine G ((0 : Nat) : Int) ((0 : Nat) : Int)) i k).state = 1) : R.tickLines G = R.tickLine G ((0 : Nat) : Int) ((0 : Nat) : Int) := by
  rw [tickLines_eq]
  obtain ⟨m, hm⟩ : ∃ m, G.clients.length = m + 1 := ⟨G.clients.length - 1, by have := h.len; omega⟩
  rw [hm]
  exact tickW_first rfl (by rw [h.cf]; exact h.lines) hr m

/- the packet that is sent again -/
def againPk (l : R.Ln) : Pk := ⟨1, 0, 1, 0, l.seq, l.uid, 0, R.piecesP l.message, true, R.pieceP l.message 0⟩
def firstPk (l : R.Ln) : Pk := { againPk l with please := decide (0 < R.piecesP l.message - 1) }
/- behind t ticks -/
structure Tk (c : R.Cf) (m : List UInt8) (sq uid : Int) (f0 : R.Fl) (t : Nat) (G : R.Wd) : Prop where
  al : ∃ cl l, Alone G c cl l ∧ l.state = 1 ∧ l.seq = sq ∧ l.uid = uid ∧ l.message = m ∧ l.acked = 0 ∧ l.wait = c.retry - ((t % c.retry.toNat : Nat) : Int) ∧ l.tries = c.tries - ((t / c.retry.toNat : Nat) : Int)
  fly : G.flying = f0 :: List.replicate (t / c.retry.toNat) ⟨-1, sealB ⟨1, 0, 1, 0, sq, uid, 0, R.piecesP m, true, R.pieceP m 0⟩, false⟩

theorem div_step {r t : Nat} (hr : 1 ≤ r ∧ r ≤ 8) : (t % r + 1 < r ∧ (t + 1) % r = t % r + 1 ∧ (t + 1) / r = t / r) ∨ (t % r + 1 = r ∧ (t + 1) % r = 0 ∧ (t + 1) / r = t / r + 1) := by
  have h : r = 1 ∨ r = 2 ∨ r = 3 ∨ r = 4 ∨ r = 5 ∨ r = 6 ∨ r = 7 ∨ r = 8 := by omega
  rcases h with rfl | rfl | rfl | rfl | rfl | rfl | rfl | rfl <;> omega

theorem Tk.next {c : R.Cf} (hc : R.okCf c) {m : List UInt8} (hm : 1 ≤ m.length) {sq uid : Int} {f0 : R.Fl} {t : Nat} {G : R.Wd} (h : Tk c m sq uid f0 t G) (ht : (t + 1) / c.retry.toNat ≤ c.tries.toNat) : Tk c m sq uid f0 (t + 1) (R.tickLines G) := by
  obtain ⟨cl, l, hal, h1, h2, h3, h4, h5, h6, h7⟩ := h.al
  have hfl := h.fly
  unfold R.okCf at hc
  have hd := div_step (r := c.retry.toNat) (t := t) (by omega)
  have hmod := Nat.mod_lt t (show 0 < c.retry.toNat by omega)
  have hcr := hal.cf
  have hpp := R.pieces_pos hm
  rcases hd with ⟨d1, d2, d3⟩ | ⟨d1, d2, d3⟩
  · have eT : R.tickLine G ((0 : Nat) : Int) ((0 : Nat) : Int) = R.setLine G ((0 : Nat) : Int) ((0 : Nat) : Int) { l with wait := l.wait - 1 } := by
      unfold R.tickLine
      simp only [hal.at]
      rw [if_neg (by omega), if_pos (by omega)]
    have hA := hal.set { l with wait := l.wait - 1 }
    rw [hal.tick (by rw [eT]; exact hA.rest), eT]
    refine ⟨⟨_, _, hA, h1, h2, h3, h4, h5, ?_, ?_⟩, ?_⟩
    · simp only; rw [d2]; omega
    · simp only; rw [d3]; omega
    · rw [d3]; exact hfl
  · have eT : R.tickLine G ((0 : Nat) : Int) ((0 : Nat) : Int) = R.sendPieceP (R.setLine G ((0 : Nat) : Int) ((0 : Nat) : Int) { l with wait := G.c.retry, tries := l.tries - 1 }) ((0 : Nat) : Int) ((0 : Nat) : Int) true := by
      unfold R.tickLine
      simp only [hal.at]
      rw [if_neg (by omega), if_neg (by omega), if_neg (by omega), if_pos (by rw [h4, h5]; omega)]
    have hA := hal.set { l with wait := G.c.retry, tries := l.tries - 1 }
    rw [R.sendPieceP_eq hA.at] at eT
    have hpk : R.callPk (R.setLine G ((0 : Nat) : Int) ((0 : Nat) : Int) { l with wait := G.c.retry, tries := l.tries - 1 }) 0 0 { l with wait := G.c.retry, tries := l.tries - 1 } true = ⟨1, 0, 1, 0, sq, uid, 0, R.piecesP m, true, R.pieceP m 0⟩ := by
      unfold R.callPk
      rw [R.lifeP_some hA.gcl]
      simp [h2, h3, h4, h5, hal.life]
    rw [hpk] at eT
    have hB := hA.send (-1) ⟨1, 0, 1, 0, sq, uid, 0, R.piecesP m, true, R.pieceP m 0⟩
    rw [hal.tick (by rw [eT]; exact hB.rest), eT]
    refine ⟨⟨_, _, hB, h1, h2, h3, h4, h5, ?_, ?_⟩, ?_⟩
    · simp only; rw [d2, hcr]; simp
    · simp only; rw [d3]; omega
    · rw [sendP_room (by rw [R.setLine_flying, hfl]; simp; omega), R.setLine_flying, hfl, d3, List.replicate_succ', List.cons_append]
/- the last tick -/
structure Tend (c : R.Cf) (m : List UInt8) (sq uid : Int) (f0 : R.Fl) (G : R.Wd) : Prop where
  al : ∃ cl l, Alone G c cl l ∧ l.state = 3 ∧ l.seq = sq
  fly : G.flying = f0 :: List.replicate c.tries.toNat ⟨-1, sealB ⟨1, 0, 1, 0, sq, uid, 0, R.piecesP m, true, R.pieceP m 0⟩, false⟩
theorem Tk.last {c : R.Cf} (hc : R.okCf c) {m : List UInt8} {sq uid : Int} {f0 : R.Fl} {t : Nat} {G : R.Wd} (h : Tk c m sq uid f0 t G) (ht : t + 1 = c.retry.toNat * (c.tries.toNat + 1)) : Tend c m sq uid f0 (R.tickLines G) := by
  obtain ⟨cl, l, hal, h1, h2, h3, h4, h5, h6, h7⟩ := h.al
  have hfl := h.fly
  unfold R.okCf at hc
  have e1 : (t + 1) / c.retry.toNat = c.tries.toNat + 1 := by rw [ht]; exact Nat.mul_div_cancel_left _ (by omega)
  have e2 : (t + 1) % c.retry.toNat = 0 := by rw [ht]; exact Nat.mul_mod_right _ _
  have hd := div_step (r := c.retry.toNat) (t := t) (by omega)
  have hd2 : t % c.retry.toNat + 1 = c.retry.toNat ∧ t / c.retry.toNat = c.tries.toNat := by
    rcases hd with ⟨_, d2, _⟩ | ⟨d1, _, d3⟩ <;> omega
  have eT : R.tickLine G ((0 : Nat) : Int) ((0 : Nat) : Int) = R.setLine G ((0 : Nat) : Int) ((0 : Nat) : Int) { l with wait := l.wait - 1, state := 3 } := by
    unfold R.tickLine
    simp only [hal.at]
    rw [if_neg (by omega), if_neg (by omega), if_pos (by omega)]
  have hA := hal.set { l with wait := l.wait - 1, state := 3 }
  rw [hal.tick (by rw [eT]; exact hA.rest), eT]
  refine ⟨⟨_, _, hA, rfl, h2⟩, ?_⟩
  rw [R.setLine_flying, hfl, hd2.2]
theorem Tend.still {c : R.Cf} {m : List UInt8} {sq uid : Int} {f0 : R.Fl} {G : R.Wd} (h : Tend c m sq uid f0 G) : R.tickLines G = G := by
  obtain ⟨cl, l, hal, h1, h2⟩ := h.al
  have eT : R.tickLine G ((0 : Nat) : Int) ((0 : Nat) : Int) = G := tickLine_idle hal.at (by omega)
  rw [hal.tick (by rw [eT]; exact hal.rest), eT]
end Go.Proofs.YthofebmiggodhaaDoor
/-
  What stands behind begun and a call, pure.
-/
namespace Go.Proofs.YthofebmiggodhaaDoor

structure Plain (c : R.Cf) (G : R.Wd) : Prop where
  cf : G.c = c
  fly : G.flying = []
  each : ∀ (j : Nat) (x : R.Cl), G.clients[j]? = some x → x.lines = List.replicate c.lines.toNat R.ln0 ∧ x.life = 1
theorem plain_import {c : R.Cf} {G : R.Wd} (h : Plain c G) (i : Nat) (u : Int) : Plain c (importedG G i u) := by
  refine ⟨h.cf, h.fly, fun j x hx => ?_⟩
  obtain ⟨c0, h0, rfl⟩ := imported_get hx
  split <;> exact h.each j c0 h0
theorem plain_exp (c : R.Cf) : ∀ k, Plain c (expG c k)
  | 0 => ⟨rfl, rfl, fun j x hx => by obtain ⟨_, rfl⟩ := newG_client hx; exact ⟨rfl, rfl⟩⟩
  | k + 1 => by
    have h := plain_exp c k
    exact ⟨h.cf, h.fly, h.each⟩
theorem plain_binds {c : R.Cf} {G : R.Wd} (h : Plain c G) (i : Nat) (u : List Int) : ∀ k, Plain c (bindsG G i u k)
  | 0 => h
  | k + 1 => plain_import (plain_binds h i u k) i _
theorem plain_bnd (c : R.Cf) : ∀ i, Plain c (bndG c i)
  | 0 => plain_exp c 3
  | i + 1 => plain_binds (plain_bnd c i) i _ 3
theorem import_other {G : R.Wd} {i : Nat} {u : Int} {x : R.Cl} (h : G.clients[0]? = some x) (hi : i ≠ 0) : (importedG G i u).clients[0]? = some x := by
  rw [imported_client, h]
  simp [hi]
theorem binds_other {G : R.Wd} {i : Nat} {u : List Int} {x : R.Cl} (h : G.clients[0]? = some x) (hi : i ≠ 0) : ∀ k, (bindsG G i u k).clients[0]? = some x
  | 0 => h
  | k + 1 => import_other (binds_other h hi k) hi
theorem bnd_first {c : R.Cf} (hc : R.okCf c) : ∀ i, ∃ x, (bndG c (i + 1)).clients[0]? = some x ∧ (1 : Int) ∈ x.bound ∧ (2 : Int) ∈ x.bound ∧ (3 : Int) ∈ x.bound
  | 0 => by
    obtain ⟨x, hx⟩ : ∃ x, (expG c 3).clients[0]? = some x := by
      rw [expG_clients]
      refine ⟨_, List.getElem?_eq_getElem (by unfold R.okCf at hc; simp [newG]; omega)⟩
    refine ⟨{ x with bound := ((x.bound ++ [1]) ++ [2]) ++ [3] }, ?_, by simp, by simp, by simp⟩
    show (importedG (importedG (importedG (expG c 3) 0 1) 0 2) 0 3).clients[0]? = _
    rw [imported_client, imported_client, imported_client, hx]
    rfl
  | i + 1 => by
    obtain ⟨x, h1, h2⟩ := bnd_first hc i
    exact ⟨x, binds_other h1 (by omega) 3, h2⟩

theorem plain_alone {c : R.Cf} (hc : R.okCf c) {G : R.Wd} (h : Plain c G) {x : R.Cl} (hx : G.clients[0]? = some x) : Alone G c x R.ln0 := by
  unfold R.okCf at hc
  obtain ⟨e1, e2⟩ := h.each 0 x hx
  refine ⟨h.cf, by have := (List.getElem?_eq_some_iff.1 hx).1; omega, by omega, hx, by rw [e1, List.getElem?_replicate, if_pos (by omega)], e2, fun i k _ => ?_⟩
  unfold R.lineP
  simp only [Int.toNat_natCast]
  cases hi : G.clients[i]? with
  | none => simp [R.ln0]
  | some y =>
    simp only [Option.bind_some]
    rw [(h.each i y hi).1, List.getElem?_replicate]
    split <;> simp [R.ln0]
/- the call is under way: no tick yet -/
theorem tk_zero {c : R.Cf} {G : R.Wd} {x : R.Cl} {l : R.Ln} (ha : Alone G c x l) (hf : G.flying = []) {k : Nat} {m : List UInt8} : Tk c m (l.seq + 1) ((k : Int) + 1) ⟨-1, sealB ⟨1, 0, 1, 0, l.seq + 1, (k : Int) + 1, 0, R.piecesP m, decide (0 < R.piecesP m - 1), R.pieceP m 0⟩, false⟩ 0 (calledG G l k m) := by
  have hA := ha.set (newLn G l ((k : Int) + 1) e0 m)
  have hpk : R.callPk (R.setLine G ((0 : Nat) : Int) ((0 : Nat) : Int) (newLn G l ((k : Int) + 1) e0 m)) 0 0 (newLn G l ((k : Int) + 1) e0 m) false = ⟨1, 0, 1, 0, l.seq + 1, (k : Int) + 1, 0, R.piecesP m, decide (0 < R.piecesP m - 1), R.pieceP m 0⟩ := by
    unfold R.callPk
    rw [R.lifeP_some hA.gcl]
    simp [newLn, ha.life]
  unfold calledG
  rw [R.sendPieceP_eq hA.at, hpk]
  have hcf := ha.cf
  refine ⟨⟨_, _, hA.send _ _, rfl, rfl, rfl, rfl, rfl, ?_, ?_⟩, ?_⟩
  · simp [newLn, hcf]
  · simp [newLn, hcf]
  · rw [sendP_room (by rw [R.setLine_flying, hf]; simp), R.setLine_flying, hf]
    simp
end Go.Proofs.YthofebmiggodhaaDoor
