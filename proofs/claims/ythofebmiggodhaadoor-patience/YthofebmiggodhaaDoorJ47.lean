/-
  Joined: Pat2.
-/
import Derived.Test.YthofebmiggodhaaDoorJ44
import Derived.Test.YthofebmiggodhaaDoorJ46
/-
  Patience: the two calls that it makes.
-/
namespace Go.Proofs.YthofebmiggodhaaDoor
open Go.RowKit

theorem callR_any (w0 : World) (q : RP) (p : Pl) (c : R.Cf) (s : RS) (G : R.Wd) (w : World) (k : Nat) (a b : Int) (cl : R.Cl) (l : R.Ln) (h : Both w0 q p c s G w) (hR : Ready s G k cl l) (hk : k < 3) (hul : s.uid.length = 3) (hsl : 1 ≤ s.seq.length) (hll : 1 ≤ s.life.length) (ha : In64 a) (hb : In64 b) :
    Calls Tryd.prog 11 #[ptr q.r, .int .i64 0, .int .i64 0, .int .i64 (k : Int), .int .i64 a, .int .i64 b] w fun e w' => e = .returned (.bool true) ∧ ∃ m M, 2 ≤ m.length ∧ m.length ≤ 72 ∧ Both w0 q p c { s with seq := s.seq.set 0 (l.seq + 1), M := M, nm := s.nm + 1 } (calledG G l k m) w' := by
  obtain ⟨pr0, hpr0, H10⟩ := pick_same b 2 hb (by omega) (by omega)
  by_cases h2 : k = 2
  · obtain ⟨v, hF, hE, H22⟩ := arg_any k 0 hk (by omega) (fun _ => rfl) a b ha hb
    exact callR_walk w0 q p c s G w k pr0 a b 0 cl l v h hR hk hul hsl hll (hide H10) (Or.inl ⟨by subst h2; rfl, rfl⟩) (by omega) hF hE (hide H22)
  · obtain ⟨v, hF, hE, H22⟩ := arg_any k pr0 hk hpr0 (fun e => absurd e h2) a b ha hb
    exact callR_walk w0 q p c s G w k pr0 a b (pr0 : Int) cl l v h hR hk hul hsl hll (hide H10) (Or.inr ⟨by simp; omega, rfl⟩) (by omega) hF hE (hide H22)

/- the same, what was kept beside it named -/
theorem callR_kept (w0 : World) (q : RP) (p : Pl) (c : R.Cf) (s : RS) (G : R.Wd) (w : World) (k : Nat) (a b : Int) (cl : R.Cl) (l : R.Ln) (h : Both w0 q p c s G w) (hR : Ready s G k cl l) (hk : k < 3) (hul : s.uid.length = 3) (hsl : 1 ≤ s.seq.length) (hll : 1 ≤ s.life.length) (ha : In64 a) (hb : In64 b) :
    Calls Tryd.prog 11 #[ptr q.r, .int .i64 0, .int .i64 0, .int .i64 (k : Int), .int .i64 a, .int .i64 b] w fun e w' => e = .returned (.bool true) ∧ ∃ m s1, 2 ≤ m.length ∧ m.length ≤ 72 ∧ Both w0 q p c s1 (calledG G l k m) w' ∧ s1.seq = s.seq.set 0 (l.seq + 1) ∧ s1.uid = s.uid ∧ s1.life = s.life ∧ s1.nm = s.nm + 1 := by
  refine (callR_any w0 q p c s G w k a b cl l h hR hk hul hsl hll ha hb).mono ?_
  rintro e w' ⟨rfl, m, M, h1, h2, h3⟩
  exact ⟨rfl, m, _, h1, h2, h3, rfl, rfl, rfl, rfl⟩

theorem ready_first {c : R.Cf} (hc : R.okCf c) {L : List Int} (hL : L.length = c.clients.toNat) (D K : Value) {k : Nat} (hk : k < 3) : ∃ x, Ready ⟨L, List.replicate (3 * c.clients.toNat) 0, uidK 3, 3, .slice none 0 0, D, K, 0, 3, 3⟩ (bndG c c.clients.toNat) k x R.ln0 ∧ Alone (bndG c c.clients.toNat) c x R.ln0 ∧ (bndG c c.clients.toNat).flying = [] ∧ ∃ S B, Kp S B (bndG c c.clients.toNat) ∧ ((k : Int) + 1) ∈ B ∧ ((S[k]?).map (·.kind)).getD 0 = (k : Int) := by
  have hc' := hc
  unfold R.okCf at hc'
  obtain ⟨N, hN⟩ : ∃ N, c.clients.toNat = N + 1 := ⟨c.clients.toNat - 1, by omega⟩
  rw [hN] at hL ⊢
  obtain ⟨x, hx, b1, b2, b3⟩ := bnd_first hc N
  have hp := plain_bnd c (N + 1)
  have ha := plain_alone hc hp hx
  have hkd : kindOf (bndG c (N + 1)) ((k : Int) + 1) = (k : Int) := by rw [bndG_kind]; exact expG_kind c hk
  have hbd : ((k : Int) + 1) ∈ x.bound := by
    have h3 : k = 0 ∨ k = 1 ∨ k = 2 := by omega
    rcases h3 with rfl | rfl | rfl
    · exact b1
    · exact b2
    · exact b3
  refine ⟨x, ⟨ha.gcl, ha.gln, by decide, by decide, by decide, ?_, ?_, hbd, hkd, ⟨_, List.getElem?_eq_getElem (by simp only; omega)⟩, by simp only; omega⟩, ha, hp.fly, _, _, ⟨rfl, x, hx, rfl⟩, hbd, ?_⟩
  · simp only [List.getElem?_replicate]
    rw [if_pos (by omega)]
    rfl
  · have h3 : k = 0 ∨ k = 1 ∨ k = 2 := by omega
    rcases h3 with rfl | rfl | rfl <;> rfl
  · unfold kindOf at hkd
    rw [show ((k : Int) + 1 - 1).toNat = k by omega] at hkd
    exact hkd

theorem ready_again {c : R.Cf} {s : RS} {G : R.Wd} {k : Nat} {m : List UInt8} {uid : Int} {f0 : R.Fl} {S : List R.Sv} {B : List Int} (ht : Tend c m 1 uid f0 G) (hk : Kp S B G) (hb : ((k : Int) + 1) ∈ B) (hkd : ((S[k]?).map (·.kind)).getD 0 = (k : Int)) (hs : s.seq[0]? = some 1) (hu : s.uid[k]? = some ((k : Int) + 1)) (hl : 1 ≤ s.life.length) (hn : s.nm + 1 ≤ 10) : ∃ x l, Ready s G k x l := by
  obtain ⟨x, l, ha, h3, hq⟩ := ht.al
  obtain ⟨y, hy, hyb⟩ := hk.bd
  obtain rfl := Option.some.inj (ha.gcl.symm.trans hy)
  refine ⟨x, l, ha.gcl, ha.gln, by omega, by omega, by omega, by rw [hq]; exact hs, hu, by rw [hyb]; exact hb, ?_, ⟨_, List.getElem?_eq_getElem (by omega)⟩, hn⟩
  unfold kindOf
  rw [show ((k : Int) + 1 - 1).toNat = k by omega, hk.sv]
  exact hkd
end Go.Proofs.YthofebmiggodhaaDoor
