/-
  Joined: Pat2 Pat3.
-/
import Derived.Test.YtblomippkddgiaaGreatDoorJ46
import Derived.Test.YtblomippkddgiaaGreatDoorJ47
/-
  Patience: the two calls that it makes.
-/
namespace Go.Proofs.YtblomippkddgiaaGreatDoor
open Go.RowKit

theorem callR_any (w0 : World) (q : RP) (p : Pl) (c : R.Cf) (s : RS) (G : R.Wd) (w : World) (k : Nat) (a b : Int) (cl : R.Cl) (l : R.Ln) (h : Both w0 q p c s G w) (hR : Ready s G k cl l) (hk : k < 3) (hul : s.uid.length = 3) (hsl : 1 ≤ s.seq.length) (hll : 1 ≤ s.life.length) (ha : In64 a) (hb : In64 b) :
    Calls Tryz.prog 12 #[ptr q.r, .int .i64 0, .int .i64 0, .int .i64 (k : Int), .int .i64 a, .int .i64 b] w fun e w' => e = .returned (.bool true) ∧ ∃ m M, 2 ≤ m.length ∧ m.length ≤ 72 ∧ Both w0 q p c { s with seq := s.seq.set 0 (l.seq + 1), M := M, nm := s.nm + 1 } (calledG G l k m) w' := by
  obtain ⟨pr0, hpr0, H10⟩ := pick_same b 2 hb (by omega) (by omega)
  by_cases h2 : k = 2
  · obtain ⟨v, hF, hE, H22⟩ := arg_any k 0 hk (by omega) (fun _ => rfl) a b ha hb
    exact callR_walk w0 q p c s G w k pr0 a b 0 cl l v h hR hk hul hsl hll (hide H10) (Or.inl ⟨by subst h2; rfl, rfl⟩) (by omega) hF hE (hide H22)
  · obtain ⟨v, hF, hE, H22⟩ := arg_any k pr0 hk hpr0 (fun e => absurd e h2) a b ha hb
    exact callR_walk w0 q p c s G w k pr0 a b (pr0 : Int) cl l v h hR hk hul hsl hll (hide H10) (Or.inr ⟨by simp; omega, rfl⟩) (by omega) hF hE (hide H22)

/- the same, what was kept beside it named -/
theorem callR_kept (w0 : World) (q : RP) (p : Pl) (c : R.Cf) (s : RS) (G : R.Wd) (w : World) (k : Nat) (a b : Int) (cl : R.Cl) (l : R.Ln) (h : Both w0 q p c s G w) (hR : Ready s G k cl l) (hk : k < 3) (hul : s.uid.length = 3) (hsl : 1 ≤ s.seq.length) (hll : 1 ≤ s.life.length) (ha : In64 a) (hb : In64 b) :
    Calls Tryz.prog 12 #[ptr q.r, .int .i64 0, .int .i64 0, .int .i64 (k : Int), .int .i64 a, .int .i64 b] w fun e w' => e = .returned (.bool true) ∧ ∃ m s1, 2 ≤ m.length ∧ m.length ≤ 72 ∧ Both w0 q p c s1 (calledG G l k m) w' ∧ s1.seq = s.seq.set 0 (l.seq + 1) ∧ s1.uid = s.uid ∧ s1.life = s.life ∧ s1.nm = s.nm + 1 := by
  refine (callR_any w0 q p c s G w k a b cl l h hR hk hul hsl hll ha hb).mono ?_
  rintro e w' ⟨rfl, m, M, h1, h2, h3⟩
  exact ⟨rfl, m, _, h1, h2, h3, rfl, rfl, rfl, rfl⟩

theorem ready_first {c : R.Cf} (hc : R.okCf c) {L : List Int} (hL : L.length = c.clients.toNat) (D K : Value) {k : Nat} (hk : k < 3) : ∃ x, Ready ⟨L, List.replicate (3 * c.clients.toNat) 0, uidK 3, 3, .slice none 0 0, D, K, 0, 3, 3⟩ (bndG c c.clients.toNat) k x R.ln0 ∧ Alone (bndG c c.clients.toNat) c x R.ln0 ∧ (bndG c c.clients.toNat).flying = [] ∧ ∃ S B, Kp S B (bndG c c.clients.toNat) ∧ ((k : Int) + 1) ∈ B ∧ ((S[k]?).map (·.kind)).getD 0 = (k : Int) := by
  have hc' := hc
  unfold R.okCf at hc'
  obtain ⟨N, hN⟩ : ∃ N, c.clients.toNat = N + 1 := ⟨c.clients.toNat - 1, by omega⟩
  rw [hN] at hL ⊢
  obtain ⟨x, hx, b1, b2, b3⟩ := bnd_first hc N
  have hp := plain_bnd c (N + 1)
  have ha := plain_alone hc hp hx
  have hkd : kindOf (bndG c (N + 1)) ((k : Int) + 1) = (k : Int) := by rw [bndG_kind]; exact expG_kind c hk
  have hbd : ((k : Int) + 1) ∈ x.bound := by
    have h3 : k = 0 ∨ k = 1 ∨ k = 2 := by omega
    rcases h3 with rfl | rfl | rfl
    · exact b1
    · exact b2
    · exact b3
  refine ⟨x, ⟨ha.gcl, ha.gln, by decide, by decide, by decide, by decide, ?_, ?_, hbd, hkd, ⟨_, List.getElem?_eq_getElem (by simp only; omega)⟩, by simp only; omega⟩, ha, hp.fly, _, _, ⟨rfl, ⟨x, hx, rfl⟩, hp.sn⟩, hbd, ?_⟩
  · simp only [List.getElem?_replicate]
    rw [if_pos (by omega)]
    rfl
  · have h3 : k = 0 ∨ k = 1 ∨ k = 2 := by omega
    rcases h3 with rfl | rfl | rfl <;> rfl
  · unfold kindOf at hkd
    rw [show ((k : Int) + 1 - 1).toNat = k by omega] at hkd
    exact hkd

theorem ready_again {c : R.Cf} {s : RS} {G : R.Wd} {k : Nat} {m : List UInt8} {uid : Int} {f0 : R.Fl} {S : List R.Sv} {B : List Int} (ht : Tend c m 1 uid f0 G) (hk : Kp S B G) (hb : ((k : Int) + 1) ∈ B) (hkd : ((S[k]?).map (·.kind)).getD 0 = (k : Int)) (hs : s.seq[0]? = some 1) (hu : s.uid[k]? = some ((k : Int) + 1)) (hl : 1 ≤ s.life.length) (hn : s.nm + 1 ≤ 10) : ∃ x l, Ready s G k x l := by
  obtain ⟨x, l, ha, h3, hq⟩ := ht.al
  obtain ⟨y, hy, hyb⟩ := hk.bd
  obtain rfl := Option.some.inj (ha.gcl.symm.trans hy)
  refine ⟨x, l, ha.gcl, ha.gln, by omega, by omega, by omega, by omega, by rw [hq]; exact hs, hu, by rw [hyb]; exact hb, ?_, ⟨_, List.getElem?_eq_getElem (by omega)⟩, hn⟩
  unfold kindOf
  rw [show ((k : Int) + 1 - 1).toNat = k by omega, hk.sv]
  exact hkd
end Go.Proofs.YtblomippkddgiaaGreatDoor
/-
  Patience, walked.
-/
namespace Go.Proofs.YtblomippkddgiaaGreatDoor
open Go.RowKit

/- the five cells of a configuration written anew -/
theorem cf_stored {w W : World} {B : Nat} {v0 v1 v2 v3 v4 : Value} (h : W.heap[B]? = some (.cells #[v0, v1, v2, v3, v4] 26 (0, 0))) (hb : Below B w W) (a b c d e : Value) : ((((((W.setCell ⟨B, 0, none⟩ a).setCell ⟨B, 1, none⟩ b).setCell ⟨B, 2, none⟩ c).setCell ⟨B, 3, none⟩ d).setCell ⟨B, 4, none⟩ e).heap[B]? = some (.cells #[a, b, c, d, e] 26 (0, 0))) ∧ Below B w (((((W.setCell ⟨B, 0, none⟩ a).setCell ⟨B, 1, none⟩ b).setCell ⟨B, 2, none⟩ c).setCell ⟨B, 3, none⟩ d).setCell ⟨B, 4, none⟩ e) := by
  refine ⟨?_, ((((hb.setCell (Nat.le_refl _) _).setCell (Nat.le_refl _) _).setCell (Nat.le_refl _) _).setCell (Nat.le_refl _) _).setCell (Nat.le_refl _) _⟩
  have h0 : W.heap[B]? = some (.cells [v0, v1, v2, v3, v4].toArray 26 (0, 0)) := h
  exact heap_store (heap_store (heap_store (heap_store (heap_store h0 a) b) c) d) e

set_option maxRecDepth 100000 in
set_option maxHeartbeats 4000000 in
theorem patience_any (cl ln rt tr tb kind a b : Int) (hcl : In64 cl) (hln : In64 ln) (hrt : In64 rt) (htr : In64 tr) (htb : In64 tb) (hkd : In64 kind) (ha : In64 a) (hb : In64 b) (w : World) (ht : Tab0 w) (hp : 0 < w.heap.size) :
    Calls Tryz.prog 4 #[cfv cl ln rt tr tb, .int .i64 kind, .int .i64 a, .int .i64 b] w fun e w' => e = .returned (.bool true) ∧ Below w.heap.size w w' := by
  obtain ⟨k, hk, H10⟩ := pick_same kind 3 hkd (by omega) (by omega)
  have H10' := hide H10
  have H8 := hide (fun w => rightC_any cl ln rt tr tb hcl hln hrt htr htb w)
  have HA := hide ha
  have HB := hide hb
  have HT := hide ht
  clear hcl hln hrt htr htb hkd H10 ha hb ht
  obtain ⟨BX, hBX⟩ : ∃ BX, w.alloc (.cells #[.int .i64 cl, .int .i64 ln, .int .i64 rt, .int .i64 tr, .int .i64 tb] 26) = BX := ⟨_, rfl⟩
  have HB0 : Hid (Below w.heap.size w BX) := by
    rw [← hBX]
    exact (Below.refl _ _).alloc (Nat.le_refl _) _
  have hbx : BX.heap[w.heap.size]? = some (.cells #[.int .i64 cl, .int .i64 ln, .int .i64 rt, .int .i64 tr, .int .i64 tb] 26 (0, 0)) := by
    rw [← hBX]
    exact heap_alloc_new w _
  have HBX := hide hBX
  have HCB := hide hbx
  have hlx := lt_of_block hbx
  clear hBX hbx
  go_enter Tryz.func4, Tryz.ntmps4
  go_wp2_with fail
  rw [unhide HBX]
  refine ((unhide H8) _).mono ?_
  rintro e w1 ⟨⟨c, hc, rfl⟩, hb1⟩
  have hx1 := (hb1.block w.heap.size hlx).trans (unhide HCB)
  have c0 : w1.cell? ⟨w.heap.size, 0, none⟩ = some (.int .i64 cl) := cell_of hx1 0 _ rfl
  have c1 : w1.cell? ⟨w.heap.size, 1, none⟩ = some (.int .i64 ln) := cell_of hx1 1 _ rfl
  have c2 : w1.cell? ⟨w.heap.size, 2, none⟩ = some (.int .i64 rt) := cell_of hx1 2 _ rfl
  have c3 : w1.cell? ⟨w.heap.size, 3, none⟩ = some (.int .i64 tr) := cell_of hx1 3 _ rfl
  have c4 : w1.cell? ⟨w.heap.size, 4, none⟩ = some (.int .i64 tb) := cell_of hx1 4 _ rfl
  have z0 : w1.frozen? ⟨w.heap.size, 0, none⟩ = false := thaw_of hx1 0
  have z1 : w1.frozen? ⟨w.heap.size, 1, none⟩ = false := thaw_of hx1 1
  have z2 : w1.frozen? ⟨w.heap.size, 2, none⟩ = false := thaw_of hx1 2
  have z3 : w1.frozen? ⟨w.heap.size, 3, none⟩ = false := thaw_of hx1 3
  have z4 : w1.frozen? ⟨w.heap.size, 4, none⟩ = false := thaw_of hx1 4
  have hlt1 := lt_of_block hx1
  have HB1 := hide ((unhide HB0).trans (hb1.mono (by omega)))
  have HX1 := hide hx1
  have HT1 := hide ((unhide HT).below (unhide HB1))
  have HC := hide hc
  clear hb1 hx1 H8 HCB HBX
  have hkey := cf_stored (unhide HX1) (unhide HB1) (.int .i64 c.clients) (.int .i64 c.lines) (.int .i64 c.retry) (.int .i64 c.tries) (.int .i64 c.table)
  obtain ⟨W2, hW2⟩ : ∃ W2, ((((w1.setCell ⟨w.heap.size, 0, none⟩ (.int .i64 c.clients)).setCell ⟨w.heap.size, 1, none⟩ (.int .i64 c.lines)).setCell ⟨w.heap.size, 2, none⟩ (.int .i64 c.retry)).setCell ⟨w.heap.size, 3, none⟩ (.int .i64 c.tries)).setCell ⟨w.heap.size, 4, none⟩ (.int .i64 c.table) = W2 := ⟨_, rfl⟩
  rw [hW2] at hkey
  obtain ⟨hx2, hb2⟩ := hkey
  have HW2 := hide hW2
  have HX2 := hide hx2
  have HB2 := hide hb2
  have hlt2 := lt_of_block hx2
  clear hW2 hx2 hb2
  go_wp2_with fail
  rw [unhide HW2]
  have hT2 := (unhide HT).below (unhide HB2)
  have hp2 : 0 < W2.heap.size := by omega
  refine (begun_any W2 W2 c hc (Below.refl _ _) hT2 hp2).mono ?_
  rintro e w3 ⟨q, p, L, D, K, rfl, hL, hB3⟩
  obtain ⟨x, hR, hAl, hfl, S, B, hKp, hbd, hkS⟩ := ready_first hc hL D K hk
  have hq : ∀ w, (binOp .eql 28 (ptr q.r) (.pointer none)).run Tryz.prog w = .ok (.bool false) w := fun w => by kernel_rfl
  have HCALL := hide (callR_kept W2 q p c _ _ w3 k a b x R.ln0 hB3 hR hk rfl (by simp only [List.length_replicate]; unfold R.okCf at hc; omega) (by simp only [hL]; unfold R.okCf at hc; omega) (unhide HA) (unhide HB))
  have HAL := hide hAl
  have HFL := hide hfl
  have HKP := hide hKp
  have HBD := hide hbd
  have HKS := hide hkS
  have HL := hide hL
  clear hB3 hR hAl hfl hKp hbd hkS hL hT2 c0 c1 c2 c3 c4 z0 z1 z2 z3 z4
  go_wp2_with fail
  refine ((unhide H10') _).mono ?_
  rintro e w4 ⟨rfl, hw4⟩
  subst hw4
  go_wp2_with fail
  refine (unhide HCALL).mono ?_
  rintro e w5 ⟨rfl, m, s1, hm1, hm2, hB5, e1, e2, e3, e4⟩
  clear HCALL H10'
  have hs1 : s1.seq[0]? = some 1 := by
    rw [e1]
    unfold R.okCf at hc
    rw [List.getElem?_set_self (by simp only [List.length_replicate]; omega)]
    rfl
  have hs2 : s1.uid[k]? = some ((k : Int) + 1) := by
    rw [e2]
    have h3 : k = 0 ∨ k = 1 ∨ k = 2 := by omega
    rcases h3 with rfl | rfl | rfl <;> rfl
  have hs3 : 1 ≤ s1.life.length := by
    rw [e3]
    have := unhide HL
    unfold R.okCf at hc
    omega
  have hs4 : s1.nm = 1 := e4
  have hs5 : s1.uid.length = 3 := by
    rw [e2]
    rfl
  have hs6 : 1 ≤ s1.seq.length := (List.getElem?_eq_some_iff.1 hs1).1
  have hTk : Tk c m 1 ((k : Int) + 1) (firstF 1 k m) 0 (calledG (bndG c c.clients.toNat) R.ln0 k m) := tk_zero (unhide HAL) (unhide HFL)
  have hKp := (unhide HKP).called R.ln0 k m
  generalize calledG (bndG c c.clients.toNat) R.ln0 k m = G0 at *
  have HTK := hide hTk
  have HKP0 := hide hKp
  have d0 := hB5.cells.a0
  obtain ⟨pN, hpN⟩ : ∃ pN, R.piecesP m = pN := ⟨_, rfl⟩
  obtain ⟨pl0, hpl0⟩ : ∃ pl0, decide (0 < pN - 1) = pl0 := ⟨_, rfl⟩
  obtain ⟨bd, hbd0⟩ : ∃ bd, R.pieceP m 0 = bd := ⟨_, rfl⟩
  have hF0 : firstF 1 k m = ⟨-1, sealB ⟨1, 0, 1, 0, 1, (k : Int) + 1, 0, pN, pl0, bd⟩, false⟩ := by
    subst hpN hpl0 hbd0
    rfl
  have hRP : ∀ pl, RightP ⟨1, 0, 1, 0, 1, (k : Int) + 1, 0, pN, pl, bd⟩ := fun pl => by
    subst hpN hbd0
    exact shown_right hm1 hm2 hk (by omega) pl
  rw [hF0] at hTk HTK
  have HOP := hide (fun w => open_right _ (hRP pl0) w)
  have HO2 := hide (fun w => open_right _ (hRP true) w)
  have HSH := hide (hB5.showW (i := 0) (f := ⟨-1, sealB ⟨1, 0, 1, 0, 1, (k : Int) + 1, 0, pN, pl0, bd⟩, false⟩) (by rw [hTk.fly]; rfl))
  have HPN := hide hpN
  have HBD0 := hide hbd0
  clear hF0 hRP hpN hpl0 hbd0
  have HB5 := hide hB5
  have HS1 := hide hs1
  have HS2 := hide hs2
  have HS3 := hide hs3
  have HS4 := hide hs4
  have HS5 := hide hs5
  have HS6 := hide hs6
  clear hB5 hTk hKp HAL HFL HKP e1 e2 e3 e4 HL hs1 hs2 hs3 hs4 hs5 hs6 L D K
  go_wp2_with fail
  refine (unhide HSH).mono ?_
  rintro e w6 ⟨rfl, hb6⟩
  have HB6 := hide hb6
  clear HSH hb6
  go_wp2_with fail
  refine ((unhide HOP) _).mono ?_
  rintro e w7 ⟨rfl, hb7⟩
  have HB7 := hide ((unhide HB6).trans (hb7.mono (unhide HB6).size))
  clear hb7 HB6
  obtain ⟨W8, hW8⟩ : ∃ W8, w7.alloc (.cells #[.int .i64 1, .int .i64 0, .int .i64 1, .int .i64 0, .int .i64 1, .int .i64 ((k : Int) + 1), .int .i64 0, .int .i64 pN, .bool pl0, .string (str bd)] 41) = W8 := ⟨_, rfl⟩
  have hBK : BK W2 q p c s1 G0 w7.heap.size (.cells [.int .i64 1, .int .i64 0, .int .i64 1, .int .i64 0, .int .i64 1, .int .i64 ((k : Int) + 1), .int .i64 0, .int .i64 pN, .bool pl0, .string (str bd)].toArray 41 (0, 0)) W8 := BK.start (unhide HB5) (by rw [← hW8]; exact (unhide HB7).alloc (unhide HB7).size _) (unhide HB7).size (by rw [← hW8]; exact heap_alloc_new w7 _)
  have HW8 := hide hW8
  have HBK := hide hBK
  have hc' := hc
  unfold R.okCf at hc'
  obtain ⟨rN, hrN⟩ : ∃ rN : Nat, c.retry = (rN : Int) := ⟨c.retry.toNat, by omega⟩
  obtain ⟨tN, htN⟩ : ∃ tN : Nat, c.tries = (tN : Int) := ⟨c.tries.toNat, by omega⟩
  have hrt : c.retry.toNat = rN := by omega
  have htt : c.tries.toNat = tN := by omega
  have hr1 : 1 ≤ rN ∧ rN ≤ 8 := by omega
  have ht1 : 1 ≤ tN ∧ tN ≤ 6 := by omega
  obtain ⟨N, hN⟩ : ∃ N, N = rN * (tN + 1) := ⟨_, rfl⟩
  have hN1 : 2 ≤ N ∧ N ≤ 56 := by
    rw [hN]
    exact ⟨Nat.mul_le_mul hr1.1 (by omega : 2 ≤ tN + 1), Nat.mul_le_mul hr1.2 (by omega : tN + 1 ≤ 7)⟩
  have ew1 : IntKind.i64.wrap ((tN : Int) + 1) = (tN : Int) + 1 := by rw [IntKind.wrap_i64]; omega
  have ew2 : IntKind.i64.wrap ((rN : Int) * ((tN : Int) + 1)) = (N : Int) := by
    rw [show (rN : Int) * ((tN : Int) + 1) = (N : Int) by rw [hN]; push_cast; rfl, IntKind.wrap_i64]
    omega
  have HCF : Hid (∀ {G : R.Wd} {o : Obj} {wr : World}, BK W2 q p c s1 G w7.heap.size o wr → wr.cell? ⟨w.heap.size, 2, none⟩ = some (.int .i64 (rN : Int)) ∧ wr.cell? ⟨w.heap.size, 3, none⟩ = some (.int .i64 (tN : Int))) := fun {G o wr} h => by
    rw [← hrN, ← htN]
    exact ⟨(h.below.cell (p := ⟨w.heap.size, 2, none⟩) hlt2).trans (cell_of (unhide HX2) 2 _ rfl), (h.below.cell (p := ⟨w.heap.size, 3, none⟩) hlt2).trans (cell_of (unhide HX2) 3 _ rfl)⟩
  have HND : Hid (N = rN * (tN + 1)) := hN
  have HC := hide hc
  have HM := hide (And.intro hm1 hm2)
  have HRT := hide hrt
  have HTT := hide htt
  clear hW8 hBK HB5 HB7 hN hc hc' hm1 hm2 hrt htt d0
  go_wp2_with fail
  rw [unhide HW8]
  go_loopw [17] (fun iv wr => ∃ (t : Nat) (G : R.Wd), t + 1 ≤ N ∧ iv = .int .i64 ((t + 1 : Nat) : Int) ∧ Tk c m 1 ((k : Int) + 1) ⟨-1, sealB ⟨1, 0, 1, 0, 1, (k : Int) + 1, 0, pN, pl0, bd⟩, false⟩ t G ∧ Kp S B G ∧ BK W2 q p c s1 G w7.heap.size (.cells [.int .i64 1, .int .i64 0, .int .i64 1, .int .i64 0, .int .i64 1, .int .i64 ((k : Int) + 1), .int .i64 0, .int .i64 pN, .bool pl0, .string (str bd)].toArray 41 (0, 0)) wr) (fun iv _ => N - (intOf iv).toNat)
  case atStart => exact ⟨0, G0, by omega, rfl, unhide HTK, unhide HKP0, unhide HBK⟩
  case round =>
    obtain ⟨t, G, htN', rfl, hTk, hKp, hBK⟩ := hrel
    obtain ⟨f2, f3⟩ := (unhide HCF) hBK
    have d0 := hBK.both.cells.a0
    have HTI := hide (hBK.tick hKp.tick.sn)
    have hcast : ((t + 1 : Nat) : Int) = (t : Int) + 1 := by omega
    rw [hcast]
    by_cases hlt : t + 1 < N
    · have hle : (t + 1) / rN ≤ tN := by
        rw [Nat.div_le_iff_le_mul_add_pred (by omega)]
        have := unhide HND
        rw [Nat.mul_add, Nat.mul_one] at this
        omega
      have hTk2 := Tk.next (unhide HC) (by have := (unhide HM).1; omega) hTk (by rw [unhide HRT, unhide HTT]; exact hle)
      have HK2 := hide hKp.tick
      have HT2 := hide hTk2
      obtain ⟨D, hD⟩ : ∃ D : Nat, (t + 1) / rN = D := ⟨_, rfl⟩
      have hfl : ((R.tickLines G).flying.length : Int) = 1 + (D : Int) := by
        rw [hTk2.fly, unhide HRT, hD]
        simp
        omega
      have hq0 : ((rN : Int) == 0) = false := by simp; omega
      have hqd : IntKind.i64.wrap (((t : Int) + 1).tdiv (rN : Int)) = (D : Int) := by
        rw [← hcast, ← hD, ← Int.ofNat_tdiv, IntKind.wrap_i64]
        have := Nat.div_le_self (t + 1) rN
        omega
      have hqs : IntKind.i64.wrap (1 + (D : Int)) = 1 + (D : Int) := by
        rw [IntKind.wrap_i64]
        omega
      obtain ⟨cl9, l9, hAl9, q1, -⟩ := hTk2.al
      have hst := fun {w : World} (h : Both W2 q p c s1 (R.tickLines G) w) => h.statusW hAl9.gcl hAl9.gln (by omega)
      have hfw := fun {w : World} (h : Both W2 q p c s1 (R.tickLines G) w) => h.flyW
      rw [q1] at hst
      rw [hfl] at hfw
      have HST : Hid (∀ {w : World}, Both W2 q p c s1 (R.tickLines G) w → Calls Tryz.prog 16 #[ptr q.x, .int .i64 0, .int .i64 0] w fun e w' => (∃ oa on oc, e = .returned (.tuple #[.agg #[.int .i64 1, .int .i64 l9.seq, .slice oa on oc], .int .i64 0])) ∧ Below w.heap.size w w') := hst
      have HFW : Hid (∀ {w : World}, Both W2 q p c s1 (R.tickLines G) w → Calls Tryz.prog 17 #[ptr q.x] w fun e w' => e = .returned (.int .i64 (1 + (D : Int))) ∧ w' = w) := hfw
      clear hst hfw hfl hTk2 hAl9 q1 hle hTk hKp hBK
      go_wp2_with fail
      refine (unhide HTI).mono ?_
      rintro e w9 ⟨rfl, hBK9⟩
      have d9 := hBK9.both.cells.a0
      have HST9 := hide ((unhide HST) hBK9.both)
      have HBK9 := hide hBK9
      clear hBK9 HTI HST d0 f2 f3
      go_wp2_with fail
      refine (unhide HST9).mono ?_
      rintro e w10 ⟨⟨oa, on, oc, rfl⟩, hb10⟩
      obtain ⟨W11, hW11⟩ : ∃ W11, w10.alloc (.cells #[.int .i64 1, .int .i64 l9.seq, .slice oa on oc] 46) = W11 := ⟨_, rfl⟩
      have hx11 : W11.heap[w10.heap.size]? = some (.cells #[.int .i64 1, .int .i64 l9.seq, .slice oa on oc] 46 (0, 0)) := by
        rw [← hW11]
        exact heap_alloc_new w10 _
      have hBK11 := (unhide HBK9).still (show Below w9.heap.size w9 W11 by rw [← hW11]; exact hb10.alloc hb10.size _)
      have g0 : W11.cell? ⟨w10.heap.size, 0, none⟩ = some (.int .i64 1) := cell_of hx11 0 _ rfl
      have hlt11 := lt_of_block hx11
      obtain ⟨f2, f3⟩ := (unhide HCF) hBK11
      have hB10 := ((unhide HBK9).still hb10).both
      have d10 := hB10.cells.a0
      have l10 := hB10.cells.ltr
      have HFW11 := hide ((unhide HFW) hBK11.both)
      have HW11 := hide hW11
      have HBK11 := hide hBK11
      clear hBK11 hW11 hb10 hx11 HBK9 HST9 HFW d9 hB10
      go_wp2_with fail
      rw [unhide HW11]
      refine (unhide HFW11).mono ?_
      rintro e w12 ⟨rfl, hw12⟩
      subst hw12
      go_wp2_with fail
      go_roundw
      case rel => exact ⟨t + 1, R.tickLines G, by omega, by go_num, unhide HT2, unhide HK2, unhide HBK11⟩
      case measure => simp [intOf]; omega
    · have hEq : t + 1 = N := by omega
      have hTe := Tk.last (unhide HC) hTk (by rw [unhide HRT, unhide HTT]; exact hEq.trans (unhide HND))
      have hK2 := hKp.tick
      have hti := hBK.tick hKp.tick.sn
      obtain ⟨G2, hG2⟩ : ∃ G2, R.tickLines G = G2 := ⟨_, rfl⟩
      rw [hG2] at hTe hK2 hti
      have hfl : (G2.flying.length : Int) = 1 + (tN : Int) := by
        rw [hTe.fly, unhide HTT]
        simp
        omega
      have ew3 : IntKind.i64.wrap (1 + (tN : Int)) = 1 + (tN : Int) := by
        rw [IntKind.wrap_i64]
        omega
      obtain ⟨cl9, l9, hAl9, q1, -⟩ := hTe.al
      have hst := fun {w : World} (h : Both W2 q p c s1 G2 w) => h.statusW hAl9.gcl hAl9.gln (by omega)
      have hfw := fun {w : World} (h : Both W2 q p c s1 G2 w) => h.flyW
      rw [q1] at hst
      rw [hfl] at hfw
      have HST : Hid (∀ {w : World}, Both W2 q p c s1 G2 w → Calls Tryz.prog 16 #[ptr q.x, .int .i64 0, .int .i64 0] w fun e w' => (∃ oa on oc, e = .returned (.tuple #[.agg #[.int .i64 3, .int .i64 l9.seq, .slice oa on oc], .int .i64 0])) ∧ Below w.heap.size w w') := hst
      have HFW : Hid (∀ {w : World}, Both W2 q p c s1 G2 w → Calls Tryz.prog 17 #[ptr q.x] w fun e w' => e = .returned (.int .i64 (1 + (tN : Int))) ∧ w' = w) := hfw
      have HSW : Hid (∀ {i : Nat} {w : World}, i < tN → Both W2 q p c s1 G2 w → Calls Tryz.prog 13 #[ptr q.x, .int .i64 ((i : Int) + 1)] w fun e w' => e = .returned (.tuple #[.int .i64 (-1), .string (str (sealB ⟨1, 0, 1, 0, 1, (k : Int) + 1, 0, pN, true, bd⟩)), .int .i64 0]) ∧ Below w.heap.size w w') := fun {i w} hi h => by
        have := h.showW (i := i + 1) (f := ⟨-1, sealB ⟨1, 0, 1, 0, 1, (k : Int) + 1, 0, pN, true, bd⟩, false⟩) (by rw [hTe.fly, unhide HTT, unhide HPN, unhide HBD0, List.getElem?_cons_succ, List.getElem?_replicate, if_pos hi])
        rw [show ((i + 1 : Nat) : Int) = (i : Int) + 1 by omega] at this
        exact this
      have HSTILL : Hid (R.tickLines G2 = G2) := hTe.still
      have HTE := hide hTe
      have HK2 := hide hK2
      have HTI2 := hide hti
      clear hst hfw hfl hTe hAl9 q1 hTk hKp hBK hti HTI hK2 hG2 htN'
      go_wp2_with fail
      refine (unhide HTI2).mono ?_
      rintro e w9 ⟨rfl, hBK9⟩
      have d9 := hBK9.both.cells.a0
      have HST9 := hide ((unhide HST) hBK9.both)
      have HBK9 := hide hBK9
      clear hBK9 HTI2 HST d0 f2 f3
      go_wp2_with fail
      refine (unhide HST9).mono ?_
      rintro e w10 ⟨⟨oa, on, oc, rfl⟩, hb10⟩
      obtain ⟨W11, hW11⟩ : ∃ W11, w10.alloc (.cells #[.int .i64 3, .int .i64 l9.seq, .slice oa on oc] 46) = W11 := ⟨_, rfl⟩
      have hx11 : W11.heap[w10.heap.size]? = some (.cells #[.int .i64 3, .int .i64 l9.seq, .slice oa on oc] 46 (0, 0)) := by
        rw [← hW11]
        exact heap_alloc_new w10 _
      have hBK11 := (unhide HBK9).still (show Below w9.heap.size w9 W11 by rw [← hW11]; exact hb10.alloc hb10.size _)
      have g0 : W11.cell? ⟨w10.heap.size, 0, none⟩ = some (.int .i64 3) := cell_of hx11 0 _ rfl
      have hlt11 := lt_of_block hx11
      obtain ⟨f2, f3⟩ := (unhide HCF) hBK11
      have hB10 := ((unhide HBK9).still hb10).both
      have d10 := hB10.cells.a0
      have l10 := hB10.cells.ltr
      have HFW11 := hide ((unhide HFW) hBK11.both)
      have o8 : W11.cell? ⟨w7.heap.size, 8, none⟩ = some (.bool pl0) := cell_of hBK11.obj 8 _ rfl
      have z8 : W11.frozen? ⟨w7.heap.size, 8, none⟩ = false := thaw_of hBK11.obj 8
      have l8 := lt_of_block hBK11.obj
      have HW11 := hide hW11
      obtain ⟨W13, hW13⟩ : ∃ W13, W11.setCell ⟨w7.heap.size, 8, none⟩ (.bool true) = W13 := ⟨_, rfl⟩
      have hBK13 := hBK11.put 8 (.bool true)
      rw [hW13] at hBK13
      have HBK13 := hide hBK13
      have HW13 := hide hW13
      clear hBK11 hW11 hb10 hx11 HBK9 HST9 d9 hB10 hBK13 hW13
      go_wp2_with fail
      rw [unhide HW11]
      refine (unhide HFW11).mono ?_
      rintro e w12 ⟨rfl, hw12⟩
      subst hw12
      go_wp2_with fail
      rw [unhide HW13]
      go_loopw [24] (fun iv wr => ∃ i : Nat, i ≤ tN ∧ iv = .int .i64 ((i : Int) + 1) ∧ BK W2 q p c s1 G2 w7.heap.size (.cells [.int .i64 1, .int .i64 0, .int .i64 1, .int .i64 0, .int .i64 1, .int .i64 ((k : Int) + 1), .int .i64 0, .int .i64 pN, .bool true, .string (str bd)].toArray 41 (0, 0)) wr) (fun iv _ => tN + 1 - (intOf iv).toNat)
      case atStart => exact ⟨0, by omega, rfl, unhide HBK13⟩
      case round =>
        obtain ⟨i, hi, rfl, hBK⟩ := hrel
        have d0 := hBK.both.cells.a0
        by_cases hlt : i < tN
        · have HSI := hide ((unhide HSW) hlt hBK.both)
          have hln : (i : Int) + 1 < 1 + (tN : Int) := by omega
          have HBK := hide hBK
          clear hBK
          go_wp2_with fail
          refine (unhide HSI).mono ?_
          rintro e w14 ⟨rfl, hb14⟩
          have HBK14 := hide ((unhide HBK).still hb14)
          clear hb14 HSI HBK d0
          go_wp2_with fail
          refine ((unhide HO2) _).mono ?_
          rintro e w15 ⟨rfl, hb15⟩
          obtain ⟨W16, hW16⟩ : ∃ W16, w15.alloc (.cells #[.int .i64 1, .int .i64 0, .int .i64 1, .int .i64 0, .int .i64 1, .int .i64 ((k : Int) + 1), .int .i64 0, .int .i64 pN, .bool true, .string (str bd)] 41) = W16 := ⟨_, rfl⟩
          have hBK15 := (unhide HBK14).still hb15
          have hBK16 := hBK15.still (show Below w15.heap.size w15 W16 by rw [← hW16]; exact (Below.refl _ _).alloc (Nat.le_refl _) _)
          have r0 : w15.cell? ⟨w7.heap.size, 0, none⟩ = some (.int .i64 1) := cell_of hBK15.obj 0 _ rfl
          have r1 : w15.cell? ⟨w7.heap.size, 1, none⟩ = some (.int .i64 0) := cell_of hBK15.obj 1 _ rfl
          have r2 : w15.cell? ⟨w7.heap.size, 2, none⟩ = some (.int .i64 1) := cell_of hBK15.obj 2 _ rfl
          have r3 : w15.cell? ⟨w7.heap.size, 3, none⟩ = some (.int .i64 0) := cell_of hBK15.obj 3 _ rfl
          have r4 : w15.cell? ⟨w7.heap.size, 4, none⟩ = some (.int .i64 1) := cell_of hBK15.obj 4 _ rfl
          have r5 : w15.cell? ⟨w7.heap.size, 5, none⟩ = some (.int .i64 ((k : Int) + 1)) := cell_of hBK15.obj 5 _ rfl
          have r6 : w15.cell? ⟨w7.heap.size, 6, none⟩ = some (.int .i64 0) := cell_of hBK15.obj 6 _ rfl
          have r7 : w15.cell? ⟨w7.heap.size, 7, none⟩ = some (.int .i64 pN) := cell_of hBK15.obj 7 _ rfl
          have r8 : w15.cell? ⟨w7.heap.size, 8, none⟩ = some (.bool true) := cell_of hBK15.obj 8 _ rfl
          have r9 : w15.cell? ⟨w7.heap.size, 9, none⟩ = some (.string (str bd)) := cell_of hBK15.obj 9 _ rfl
          have l15 := lt_of_block hBK15.obj
          have HW16 := hide hW16
          have HBK16 := hide hBK16
          clear hBK16 hBK15 hW16 hb15 HBK14
          go_wp2_with fail
          rw [unhide HW16]
          go_roundw
          case rel => exact ⟨i + 1, by omega, by go_num, unhide HBK16⟩
          case measure => simp [intOf]; omega
        · obtain rfl : i = tN := by omega
          have hln : ¬ (i : Int) + 1 < 1 + (i : Int) := by omega
          have hti := hBK.tick (by rw [unhide HSTILL]; exact (unhide HK2).sn)
          rw [unhide HSTILL] at hti
          have HTI3 := hide hti
          clear hBK hti
          go_wp2_with fail
          refine (unhide HTI3).mono ?_
          rintro e w14 ⟨rfl, hBK14⟩
          have d14 := hBK14.both.cells.a0
          have HFW14 := hide ((unhide HFW) hBK14.both)
          obtain ⟨x2, l2, hR2⟩ := ready_again (s := s1) (unhide HTE) (unhide HK2) (unhide HBD) (unhide HKS) (unhide HS1) (unhide HS2) (unhide HS3) (by rw [unhide HS4]; omega)
          have HC2 := hide (callR_any W2 q p c s1 G2 w14 k b a x2 l2 hBK14.both hR2 hk (unhide HS5) (unhide HS6) (unhide HS3) (unhide HB) (unhide HA))
          clear hBK14 hR2 HTI3 d0
          go_wp2_with fail
          refine (unhide HFW14).mono ?_
          rintro e w15 ⟨rfl, hw15⟩
          subst hw15
          go_wp2_with fail
          refine (unhide HC2).mono ?_
          rintro e w16 ⟨rfl, m2, M2, -, -, hB16⟩
          have HB16 := hide hB16
          clear hB16 HC2
          go_wp2_with fail
          go_returns
          exact ⟨rfl, (unhide HB2).trans ((unhide HB16).below.mono (unhide HB2).size)⟩
end Go.Proofs.YtblomippkddgiaaGreatDoor
