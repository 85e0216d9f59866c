/-
  Joined: VDepth VMath2.
-/
import Derived.Test.YtblomippkddgiaaGreatDoorJ09
import Derived.Test.YtblomippkddgiaaGreatDoorJ02
/-
  The landed code's depth, over a type as it lies in memory.
-/
namespace Go.Proofs.YtblomippkddgiaaGreatDoor.V
open Go.RowKit

theorem top_le {l : List Nat} {m : Nat} (h : ∀ x ∈ l, x ≤ m) : Pt.top l ≤ m := by
  induction l with
  | nil => simp [Pt.top]
  | cons x l ih =>
    have h1 := h x (by simp)
    have h2 := ih (fun y hy => h y (by simp [hy]))
    simp only [Pt.top]
    omega
theorem dep_le (g : Nat → Nat) : ∀ f p, Pt.dep g f p ≤ f := by
  intro f
  induction f with
  | zero => intro p; simp [Pt.dep]
  | succ f ih =>
    intro p
    simp only [Pt.dep]
    have := top_le (l := (Pt.kids g f p).map (Pt.dep g f)) (m := f) (by intro x hx; simp at hx; obtain ⟨a, _, rfl⟩ := hx; exact ih a)
    omega
theorem top_snoc (l : List Nat) (x : Nat) : Pt.top (l ++ [x]) = max (Pt.top l) x := by
  induction l with
  | nil => simp [Pt.top]
  | cons y l ih => simp only [List.cons_append, Pt.top, ih]; omega

theorem top_take {ks : List Nat} {d : Nat → Nat} {k q : Nat} (h : ks[k]? = some q) : Pt.top ((ks.take (k + 1)).map d) = max (Pt.top ((ks.take k).map d)) (d q) := by
  rw [List.take_add_one, h]
  simp only [Option.toList_some, List.map_append, List.map_cons, List.map_nil]
  exact top_snoc _ _
theorem lkids_len (T : Nat → Bool × Nat) (g : Nat → Nat) : ∀ j p, (Pt.lkids T g j p).length ≤ j := by
  intro j
  induction j with
  | zero => intro p; simp [Pt.lkids]
  | succ j ih =>
    intro p
    unfold Pt.lkids
    split
    · simp
    · have := ih (T p).2
      simp
      omega
theorem kids_len (g : Nat → Nat) (f p : Nat) : (Pt.kids g f p).length ≤ 6 := by
  unfold Pt.kids
  split
  · simp
  · split
    · have := lkids_len (Pt.ty g f) g 5 (Pt.ty g f (p + 2)).2
      simp
      omega
    · simp

def DepthSaid (g : Nat → Nat) (f : Nat) : Prop := ∀ (p : Nat) (S : Nat → Prop) (c0 c1 c2 : Value) (w : World), Rep w S g f p c0 c1 c2 → Calls Tryz.prog 130 #[.agg #[c0, c1, c2]] w fun e w' => e = .returned (.int .i64 (Pt.dep g f p)) ∧ Below w.heap.size w w'

set_option maxRecDepth 100000 in
set_option maxHeartbeats 400000 in
theorem depth_step (g : Nat → Nat) (f : Nat) (hf : f ≤ 41) (ih : DepthSaid g f) : DepthSaid g (f + 1) := by
  intro p S c0 c1 c2 w h
  obtain ⟨rfl, rfl, xs, ho, hi⟩ := h
  obtain ⟨va, vn, vc, rfl, hvn⟩ : ∃ a n c, c2 = .slice a n c ∧ n = (Pt.kids g f p).length := by
    rcases ho.1.2 with ⟨rfl, h0⟩ | ⟨gb, cap, cur, rfl, _⟩
    · exact ⟨_, _, _, rfl, h0.symm⟩
    · exact ⟨_, _, _, rfl, rfl⟩
  have HO := (show Hid (Owns w S (.slice va vn vc) (Pt.kids g f p).length xs) from ho)
  have HI := hide hi
  have HIH := hide ih
  have HN := hide hvn
  have hvl : vn ≤ 6 := by rw [hvn]; exact kids_len g f p
  clear ho hi ih hvn
  go_enter Tryz.func130, Tryz.ntmps130
  go_wp2
  go_loopw [3, 9] (fun gr i wr => ∃ k : Nat, k ≤ vn ∧ i = .int .i64 k ∧ gr = .int .i64 (Pt.top (((Pt.kids g f p).take k).map (Pt.dep g f))) ∧ Below w.heap.size w wr) (fun _ i _ => vn - (intOf i).toNat)
  case atStart => exact ⟨0, Nat.zero_le _, rfl, rfl, (Below.refl _ _).alloc (Nat.le_refl _) _⟩
  case round =>
    obtain ⟨k, hk, rfl, rfl, hb⟩ := hrel
    obtain ⟨tk, htk⟩ : ∃ tk, tk = Pt.top (((Pt.kids g f p).take k).map (Pt.dep g f)) := ⟨_, rfl⟩
    have htl : tk ≤ f := by
      rw [htk]
      exact top_le (fun x hx => by
        obtain ⟨a, _, rfl⟩ := List.mem_map.1 hx
        exact dep_le g f a)
    rw [← htk]
    have HTK := hide htk
    clear htk
    by_cases hlt : k < vn
    · obtain ⟨q, hq⟩ : ∃ q, (Pt.kids g f p)[k]? = some q := ⟨_, List.getElem?_eq_getElem (by have := unhide HN; omega)⟩
      obtain ⟨d0, d1, d2, a0, a1, a2, hr⟩ := (unhide HI) k q hq
      obtain ⟨gb, rfl, hgb⟩ : ∃ gb, va = some ⟨gb, 0, none⟩ ∧ gb < w.heap.size := by
        rcases (unhide HO).1.2 with ⟨hv, h0⟩ | ⟨gb, cap, cur, hv, _, hh, _⟩
        · have := unhide HN; omega
        · cases hv; exact ⟨gb, rfl, lt_of_block hh⟩
      have hcl := (unhide HO).1.cells (g := gb) rfl
      have ad : ∀ o, (⟨gb, 0, none⟩ : Addr).add o = ⟨gb, o, none⟩ := fun o => by simp [Addr.add]; omega
      have f0 : wr.cell? ⟨gb, k * 3, none⟩ = some d0 := by
        rw [hb.cell (p := ⟨gb, k * 3, none⟩) hgb, ← ad, Nat.mul_comm]; exact hcl _ _ a0
      have f1 : wr.cell? ⟨gb, k * 3 + 1, none⟩ = some d1 := by
        rw [hb.cell (p := ⟨gb, k * 3 + 1, none⟩) hgb, ← ad, Nat.mul_comm]; exact hcl _ _ a1
      have f2 : wr.cell? ⟨gb, k * 3 + 2, none⟩ = some d2 := by
        rw [hb.cell (p := ⟨gb, k * 3 + 2, none⟩) hgb, ← ad, Nat.mul_comm]; exact hcl _ _ a2
      obtain ⟨⟨x0, rfl⟩, ⟨x1, rfl⟩, ⟨ea, en, ec, rfl⟩⟩ := rep_shape hr
      have hr' : ∀ o, Rep (wr.alloc o) S g f q (.int .u8 x0) (.int .i64 x1) (.slice ea en ec) := fun o => rep_above ((show Above S w wr from ⟨hb.size, fun k' _ hl => hb.block k' hl⟩).alloc o) hr
      have HR := hide hr'
      have HQ := hide hq
      clear hq hr hr' a0 a1 a2 hcl ad
      go_wp2_with fail
      refine ((unhide HIH) q S _ _ _ _ (unhide HR _)).mono ?_
      rintro e w2 ⟨rfl, hb2⟩
      obtain ⟨dq, hdq⟩ : ∃ dq, dq = Pt.dep g f q := ⟨_, rfl⟩
      have hdl : dq ≤ f := by rw [hdq]; exact dep_le g f q
      rw [← hdq]
      have HDQ := hide hdq
      have hb' : Below w.heap.size w w2 := (hb.alloc hb.size _).trans (hb2.mono (by have := hb.size; simp; omega))
      clear hdq hb2 hb f0 f1 f2
      go_wp2
      go_roundw
      case rel =>
        refine ⟨k + 1, by omega, by go_num, ?_, hb'⟩
        rw [top_take (unhide HQ), ← unhide HTK, ← unhide HDQ]
        by_cases hx : tk < dq
        · rw [if_pos hx, show max tk dq = dq by omega]
        · rw [if_neg hx, show max tk dq = tk by omega]
      case measure => simp [intOf]; omega
    · go_wp2
      go_ret
      refine ⟨?_, hb⟩
      have e1 : Pt.dep g (f + 1) p = tk + 1 := by
        rw [unhide HTK, List.take_of_length_le (by have := unhide HN; omega)]
        rfl
      rw [e1]
      rfl

theorem depth_any (g : Nat → Nat) : ∀ f, f ≤ 42 → DepthSaid g f := by
  intro f
  induction f with
  | zero => intro _ p S c0 c1 c2 w h; exact h.elim
  | succ f ih => intro hf; exact depth_step g f (by omega) (ih (by omega))
end Go.Proofs.YtblomippkddgiaaGreatDoor.V
/-
  Plain mathematics, without a program: where a type ends (the stack looked over until it is empty), the chain of the types of a list, and what a value of a type is: which items it takes, which of them are strings.
-/
namespace Go.Proofs.YtblomippkddgiaaGreatDoor.V.Pt

def bh (g : Nat → Nat) : Nat → List (Nat × Nat × Nat) → Nat → Nat
  | 0, _, p => p
  | m + 1, S, p => match goes S (g p) with
    | none => p
    | some S' => bh g m S' (p + 1)

def endsB (g : Nat → Nat) (n : Nat) (S : List (Nat × Nat × Nat)) (r : Bool × Nat) : Nat := if r.1 then bh g (n - r.2) S r.2 else r.2

theorem bh_step {g : Nat → Nat} {n p : Nat} {S S' : List (Nat × Nat × Nat)} (hp : p < n) (h : goes S (g p) = some S') : bh g (n - p) S p = bh g (n - (p + 1)) S' (p + 1) := by
  obtain ⟨m, hm⟩ : ∃ m, n - p = m + 1 := ⟨n - p - 1, by omega⟩
  rw [hm, bh, h, show n - (p + 1) = m by omega]
theorem bh_stop {g : Nat → Nat} {n p : Nat} {S : List (Nat × Nat × Nat)} (hp : p < n) (h : goes S (g p) = none) : bh g (n - p) S p = p := by
  obtain ⟨m, hm⟩ : ∃ m, n - p = m + 1 := ⟨n - p - 1, by omega⟩
  rw [hm, bh, h]
theorem bh_out {g : Nat → Nat} {n : Nat} {S : List (Nat × Nat × Nat)} : bh g (n - n) S n = n := by
  rw [Nat.sub_self, bh]
theorem bh_nil {g : Nat → Nat} {n p : Nat} : bh g (n - p) [] p = p := by
  cases h : n - p with
  | zero => rfl
  | succ m => rfl

theorem bh_dig {g : Nat → Nat} {n p h least : Nat} {S : List (Nat × Nat × Nat)} (hg : ∀ p, n ≤ p → g p = 0) (hp : p ≤ n) (hh : (h = 2 ∧ least = 1) ∨ (h = 3 ∧ least = 0)) :
    bh g (n - p) ((h, 0, 0) :: S) p = endsB g n S (dig g least p) := by
  by_cases hn : p = n
  · subst hn
    have h0 := hg p (Nat.le_refl _)
    have hd : dig g least p = (false, p) := by unfold dig; rw [if_neg (by omega)]
    rw [hd, bh_out]
    simp [endsB]
  · have hlt : p < n := by omega
    by_cases hc : 48 + least ≤ g p ∧ g p ≤ 57
    · have hd : dig g least p = (true, p + 1) := by unfold dig; rw [if_pos hc]
      have hgo : goes ((h, 0, 0) :: S) (g p) = some S := by
        rcases hh with ⟨rfl, rfl⟩ | ⟨rfl, rfl⟩
        · simp [goes]; omega
        · simp [goes]; omega
      rw [hd, bh_step hlt hgo]
      simp [endsB]
    · have hd : dig g least p = (false, p) := by unfold dig; rw [if_neg hc]
      have hgo : goes ((h, 0, 0) :: S) (g p) = none := by
        rcases hh with ⟨rfl, rfl⟩ | ⟨rfl, rfl⟩
        · simp [goes]; omega
        · simp [goes]; omega
      rw [hd, bh_stop hlt hgo]
      simp [endsB]

theorem bh_list {g : Nat → Nat} {n p k L : Nat} {S : List (Nat × Nat × Nat)} (hp : p ≤ n) (h : k = 0 ∨ (g p ≠ 41 ∧ k ≠ 6)) :
    bh g (n - p) ((5, k, L) :: S) p = bh g (n - p) ((1, 0, L) :: (5, k + 1, L) :: S) p := by
  by_cases hn : p = n
  · subst hn
    rw [bh_out, bh_out]
  · have hlt : p < n := by omega
    have hgo := goes_list (S := S) (L := L) h
    cases hx : goes ((5, k, L) :: S) (g p) with
    | none => rw [bh_stop hlt hx, bh_stop hlt (hgo ▸ hx)]
    | some S' => rw [bh_step hlt hx, bh_step hlt (hgo ▸ hx)]

def AgreeB (g : Nat → Nat) (n f : Nat) : Prop := ∀ (p k L : Nat) (S : List (Nat × Nat × Nat)), p ≤ n → n - p < f → bh g (n - p) ((1, k, L) :: S) p = endsB g n S (ty g f p)

theorem lst_mainB {g : Nat → Nat} {n f : Nat} (hg : ∀ p, n ≤ p → g p = 0) (hA : Agree g n f) (hT : AgreeB g n f) : ∀ (j p k L : Nat) (S : List (Nat × Nat × Nat)), k + j = 6 → 1 ≤ k → p ≤ n → n - p < f →
    bh g (n - p) ((5, k, L) :: S) p = endsB g n S (lst (ty g f) g j p) := by
  have close : ∀ (p k L : Nat) (S : List (Nat × Nat × Nat)), 1 ≤ k → p ≤ n → g p = 41 → bh g (n - p) ((5, k, L) :: S) p = endsB g n S (true, p + 1) := by
    intro p k L S hk hp hc
    have hlt : p < n := by
      rcases Nat.lt_or_ge p n with h | h
      · exact h
      · have := hg p h
        omega
    have hgo : goes ((5, k, L) :: S) (g p) = some S := by
      have : 0 < k := by omega
      simp [goes, hc, this]
    rw [bh_step hlt hgo]
    simp [endsB]
  intro j
  induction j with
  | zero =>
    intro p k L S hk h1 hp _
    obtain rfl : k = 6 := by omega
    by_cases hc : g p = 41
    · rw [close p 6 L S h1 hp hc]
      simp [lst, hc]
    · have e : lst (ty g f) g 0 p = (false, p) := by simp [lst, hc]
      rw [e]
      by_cases hn : p = n
      · subst hn
        rw [bh_out]
        simp [endsB]
      · rw [bh_stop (by omega) (by simp [goes, hc])]
        simp [endsB]
  | succ j ih =>
    intro p k L S hk h1 hp hf
    by_cases hc : g p = 41
    · rw [close p k L S h1 hp hc]
      simp [lst, hc]
    · rw [bh_list hp (Or.inr ⟨hc, by omega⟩), hT p 0 L ((5, k + 1, L) :: S) hp hf]
      obtain ⟨_, hb, _⟩ := hA p 0 L 0 [] hp hf
      cases hx : (ty g f p).1 with
      | false =>
        have e : lst (ty g f) g (j + 1) p = (false, (ty g f p).2) := by simp [lst, hc, hx]
        rw [e]
        simp [endsB, hx]
      | true =>
        obtain ⟨q1, q2⟩ := hb hx
        have e : lst (ty g f) g (j + 1) p = lst (ty g f) g j (ty g f p).2 := by simp [lst, hc, hx]
        rw [e, ← ih (ty g f p).2 (k + 1) L S (by omega) (by omega) q2 (by omega)]
        simp [endsB, hx]

theorem agreeB {g : Nat → Nat} {n : Nat} (hg : ∀ p, n ≤ p → g p = 0) : ∀ f, AgreeB g n f := by
  intro f
  induction f with
  | zero => intro p k L S hp hf; omega
  | succ f ih =>
    intro p k L S hp hf
    by_cases hn : p = n
    · subst hn
      have h0 := hg p (Nat.le_refl _)
      have e : ty g (f + 1) p = (false, p) := by simp [ty, h0, isLeaf]
      rw [e, bh_out]
      simp [endsB]
    have hlt : p < n := by omega
    cases hl : isLeaf (g p) with
    | true =>
      have e : ty g (f + 1) p = (true, p + 1) := by simp [ty, hl]
      have hgo : goes ((1, k, L) :: S) (g p) = some S := by rw [goes_type]; simp [begins, hl]
      rw [e, bh_step hlt hgo]
      simp [endsB]
    | false =>
    by_cases he : g p = 101
    · have e : ty g (f + 1) p = dig g 1 (p + 1) := by simp [ty, he, isLeaf]
      have hgo : goes ((1, k, L) :: S) (g p) = some ((2, 0, 0) :: S) := by rw [goes_type]; simp [begins, he, isLeaf]
      rw [e, bh_step hlt hgo, bh_dig hg (show p + 1 ≤ n by omega) (Or.inl ⟨rfl, rfl⟩)]
    by_cases ha : g p = 97 ∨ g p = 113
    · obtain ⟨h, least, hh, hgo, hty⟩ : ∃ h least, ((h = 2 ∧ least = 1) ∨ (h = 3 ∧ least = 0)) ∧ goes ((1, k, L) :: S) (g p) = some ((h, 0, 0) :: (1, 0, L + 1) :: S) ∧ ty g (f + 1) p = (if (dig g least (p + 1)).1 then ty g f (p + 2) else (false, p + 1)) := by
        rcases ha with ha | ha
        · exact ⟨2, 1, Or.inl ⟨rfl, rfl⟩, by rw [goes_type]; simp [begins, ha, isLeaf], by simp [ty, ha, isLeaf]⟩
        · exact ⟨3, 0, Or.inr ⟨rfl, rfl⟩, by rw [goes_type]; simp [begins, ha, isLeaf], by simp [ty, ha, isLeaf]⟩
      obtain ⟨_, d2, d3⟩ := run_dig (S := S) (D := 0) hg (show p + 1 ≤ n by omega) hh
      rw [bh_step hlt hgo, bh_dig hg (show p + 1 ≤ n by omega) hh, hty]
      cases hx : (dig g least (p + 1)).1 with
      | false =>
        have hq := d3 hx
        rw [if_neg (by simp)]
        simp [endsB, hx, hq]
      | true =>
        obtain ⟨hq, hlt2⟩ := d2 hx
        rw [if_pos rfl, ← ih (p + 2) 0 (L + 1) S (by omega) (by omega)]
        simp [endsB, hx, hq]
    by_cases hr : g p = 114 ∨ g p = 117
    · have n1 : ¬ g p = 97 := by omega
      have n2 : ¬ g p = 113 := by omega
      have hgo : goes ((1, k, L) :: S) (g p) = some ((4, 0, 0) :: (5, 0, L + 1) :: S) := by
        rw [goes_type]; simp [begins, hl, he, n1, n2, hr]
      have hty : ty g (f + 1) p = (if g (p + 1) = 40 then (if (ty g f (p + 2)).1 then lst (ty g f) g 5 (ty g f (p + 2)).2 else (false, (ty g f (p + 2)).2)) else (false, p + 1)) := by
        simp [ty, hl, he, n1, n2, hr]
      rw [bh_step hlt hgo, hty]
      by_cases hb : g (p + 1) = 40
      · have hlt2 : p + 1 < n := by
          rcases Nat.lt_or_ge (p + 1) n with h | h
          · exact h
          · have := hg _ h
            omega
        rw [if_pos hb, bh_step hlt2 (show goes ((4, 0, 0) :: (5, 0, L + 1) :: S) (g (p + 1)) = some ((5, 0, L + 1) :: S) by simp [goes, hb]), show p + 1 + 1 = p + 2 from rfl, bh_list (by omega) (Or.inl rfl), ih (p + 2) 0 (L + 1) _ (by omega) (by omega)]
        obtain ⟨_, ib, _⟩ := agree hg f (p + 2) 0 1 0 [] (by omega) (by omega)
        cases hx : (ty g f (p + 2)).1 with
        | false =>
          rw [if_neg (by simp)]
          simp [endsB, hx]
        | true =>
          obtain ⟨q1, q2⟩ := ib hx
          rw [if_pos rfl, ← lst_mainB hg (agree hg f) ih 5 (ty g f (p + 2)).2 1 (L + 1) S (by omega) (by omega) q2 (by omega)]
          simp [endsB, hx]
      · rw [if_neg hb]
        by_cases hn2 : p + 1 = n
        · rw [hn2, bh_out]
          simp [endsB]
        · rw [bh_stop (by omega) (by simp [goes, hb])]
          simp [endsB]
    · have n1 : ¬ g p = 97 := by omega
      have n2 : ¬ g p = 113 := by omega
      have e : ty g (f + 1) p = (false, p) := by simp [ty, hl, he, n1, n2, hr]
      have hgo : goes ((1, k, L) :: S) (g p) = none := by rw [goes_type]; simp [begins, hl, he, n1, n2, hr]
      rw [e, bh_stop hlt hgo]
      simp [endsB]

theorem behind_ty {g : Nat → Nat} {n f p : Nat} (hg : ∀ p, n ≤ p → g p = 0) (hp : p ≤ n) (hf : n - p < f) : bh g (n - p) [(1, 0, 1)] p = (ty g f p).2 := by
  rw [agreeB hg f p 0 1 [] hp hf]
  unfold endsB
  split
  · exact bh_nil
  · rfl

/- the types at the places ks follow one another from 'start' on, and a ')' behind them at c -/
def chain (T : Nat → Bool × Nat) (g : Nat → Nat) : Nat → List Nat → Nat → Prop
  | start, [], c => start = c ∧ g c = 41
  | start, k :: r, c => start = k ∧ g k ≠ 41 ∧ (T k).1 = true ∧ chain T g (T k).2 r c

theorem chain_lkids {T : Nat → Bool × Nat} {g : Nat → Nat} : ∀ (j p : Nat), (lst T g j p).1 = true → chain T g p (lkids T g j p) ((lst T g j p).2 - 1) ∧ 1 ≤ (lst T g j p).2 := by
  intro j
  induction j with
  | zero =>
    intro p h
    by_cases hc : g p = 41
    · simp [lst, hc, lkids, chain]
    · simp [lst, hc] at h
  | succ j ih =>
    intro p h
    by_cases hc : g p = 41
    · simp [lst, hc, lkids, chain]
    · cases hx : (T p).1 with
      | false => simp [lst, hc, hx] at h
      | true =>
        have e : lst T g (j + 1) p = lst T g j (T p).2 := by simp [lst, hc, hx]
        rw [e] at h ⊢
        obtain ⟨h1, h2⟩ := ih (T p).2 h
        refine ⟨?_, h2⟩
        simp only [lkids, hc, if_false]
        exact ⟨rfl, hc, hx, h1⟩

end Go.Proofs.YtblomippkddgiaaGreatDoor.V.Pt
