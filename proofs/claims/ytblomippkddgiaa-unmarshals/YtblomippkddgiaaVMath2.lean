/-
  Plain mathematics, without a program: where a type ends (the stack looked over until it is empty), the chain of the types of a list, and what a value of a type is: which items it takes, which of them are strings.
-/
import Derived.Test.YtblomippkddgiaaVMath
namespace Go.Proofs.Ytblomippkddgiaa.V.Pt

def bh (g : Nat → Nat) : Nat → List (Nat × Nat × Nat) → Nat → Nat
  | 0, _, p => p
  | m + 1, S, p => match goes S (g p) with
    | none => p
    | some S' => bh g m S' (p + 1)

def endsB (g : Nat → Nat) (n : Nat) (S : List (Nat × Nat × Nat)) (r : Bool × Nat) : Nat := if r.1 then bh g (n - r.2) S r.2 else r.2

theorem bh_step {g : Nat → Nat} {n p : Nat} {S S' : List (Nat × Nat × Nat)} (hp : p < n) (h : goes S (g p) = some S') : bh g (n - p) S p = bh g (n - (p + 1)) S' (p + 1) := by
  obtain ⟨m, hm⟩ : ∃ m, n - p = m + 1 := ⟨n - p - 1, by omega⟩
  rw [hm, bh, h, show n - (p + 1) = m by omega]
theorem bh_stop {g : Nat → Nat} {n p : Nat} {S : List (Nat × Nat × Nat)} (hp : p < n) (h : goes S (g p) = none) : bh g (n - p) S p = p := by
  obtain ⟨m, hm⟩ : ∃ m, n - p = m + 1 := ⟨n - p - 1, by omega⟩
  rw [hm, bh, h]
theorem bh_out {g : Nat → Nat} {n : Nat} {S : List (Nat × Nat × Nat)} : bh g (n - n) S n = n := by
  rw [Nat.sub_self, bh]
theorem bh_nil {g : Nat → Nat} {n p : Nat} : bh g (n - p) [] p = p := by
  cases h : n - p with
  | zero => rfl
  | succ m => rfl

theorem bh_dig {g : Nat → Nat} {n p h least : Nat} {S : List (Nat × Nat × Nat)} (hg : ∀ p, n ≤ p → g p = 0) (hp : p ≤ n) (hh : (h = 2 ∧ least = 1) ∨ (h = 3 ∧ least = 0)) :
    bh g (n - p) ((h, 0, 0) :: S) p = endsB g n S (dig g least p) := by
  by_cases hn : p = n
  · subst hn
    have h0 := hg p (Nat.le_refl _)
    have hd : dig g least p = (false, p) := by unfold dig; rw [if_neg (by omega)]
    rw [hd, bh_out]
    simp [endsB]
  · have hlt : p < n := by omega
    by_cases hc : 48 + least ≤ g p ∧ g p ≤ 57
    · have hd : dig g least p = (true, p + 1) := by unfold dig; rw [if_pos hc]
      have hgo : goes ((h, 0, 0) :: S) (g p) = some S := by
        rcases hh with ⟨rfl, rfl⟩ | ⟨rfl, rfl⟩
        · simp [goes]; omega
        · simp [goes]; omega
      rw [hd, bh_step hlt hgo]
      simp [endsB]
    · have hd : dig g least p = (false, p) := by unfold dig; rw [if_neg hc]
      have hgo : goes ((h, 0, 0) :: S) (g p) = none := by
        rcases hh with ⟨rfl, rfl⟩ | ⟨rfl, rfl⟩
        · simp [goes]; omega
        · simp [goes]; omega
      rw [hd, bh_stop hlt hgo]
      simp [endsB]

theorem bh_list {g : Nat → Nat} {n p k L : Nat} {S : List (Nat × Nat × Nat)} (hp : p ≤ n) (h : k = 0 ∨ (g p ≠ 41 ∧ k ≠ 6)) :
    bh g (n - p) ((5, k, L) :: S) p = bh g (n - p) ((1, 0, L) :: (5, k + 1, L) :: S) p := by
  by_cases hn : p = n
  · subst hn
    rw [bh_out, bh_out]
  · have hlt : p < n := by omega
    have hgo := goes_list (S := S) (L := L) h
    cases hx : goes ((5, k, L) :: S) (g p) with
    | none => rw [bh_stop hlt hx, bh_stop hlt (hgo ▸ hx)]
    | some S' => rw [bh_step hlt hx, bh_step hlt (hgo ▸ hx)]

def AgreeB (g : Nat → Nat) (n f : Nat) : Prop := ∀ (p k L : Nat) (S : List (Nat × Nat × Nat)), p ≤ n → n - p < f → bh g (n - p) ((1, k, L) :: S) p = endsB g n S (ty g f p)

theorem lst_mainB {g : Nat → Nat} {n f : Nat} (hg : ∀ p, n ≤ p → g p = 0) (hA : Agree g n f) (hT : AgreeB g n f) : ∀ (j p k L : Nat) (S : List (Nat × Nat × Nat)), k + j = 6 → 1 ≤ k → p ≤ n → n - p < f →
    bh g (n - p) ((5, k, L) :: S) p = endsB g n S (lst (ty g f) g j p) := by
  have close : ∀ (p k L : Nat) (S : List (Nat × Nat × Nat)), 1 ≤ k → p ≤ n → g p = 41 → bh g (n - p) ((5, k, L) :: S) p = endsB g n S (true, p + 1) := by
    intro p k L S hk hp hc
    have hlt : p < n := by
      rcases Nat.lt_or_ge p n with h | h
      · exact h
      · have := hg p h
        omega
    have hgo : goes ((5, k, L) :: S) (g p) = some S := by
      have : 0 < k := by omega
      simp [goes, hc, this]
    rw [bh_step hlt hgo]
    simp [endsB]
  intro j
  induction j with
  | zero =>
    intro p k L S hk h1 hp _
    obtain rfl : k = 6 := by omega
    by_cases hc : g p = 41
    · rw [close p 6 L S h1 hp hc]
      simp [lst, hc]
    · have e : lst (ty g f) g 0 p = (false, p) := by simp [lst, hc]
      rw [e]
      by_cases hn : p = n
      · subst hn
        rw [bh_out]
        simp [endsB]
      · rw [bh_stop (by omega) (by simp [goes, hc])]
        simp [endsB]
  | succ j ih =>
    intro p k L S hk h1 hp hf
    by_cases hc : g p = 41
    · rw [close p k L S h1 hp hc]
      simp [lst, hc]
    · rw [bh_list hp (Or.inr ⟨hc, by omega⟩), hT p 0 L ((5, k + 1, L) :: S) hp hf]
      obtain ⟨_, hb, _⟩ := hA p 0 L 0 [] hp hf
      cases hx : (ty g f p).1 with
      | false =>
        have e : lst (ty g f) g (j + 1) p = (false, (ty g f p).2) := by simp [lst, hc, hx]
        rw [e]
        simp [endsB, hx]
      | true =>
        obtain ⟨q1, q2⟩ := hb hx
        have e : lst (ty g f) g (j + 1) p = lst (ty g f) g j (ty g f p).2 := by simp [lst, hc, hx]
        rw [e, ← ih (ty g f p).2 (k + 1) L S (by omega) (by omega) q2 (by omega)]
        simp [endsB, hx]

theorem agreeB {g : Nat → Nat} {n : Nat} (hg : ∀ p, n ≤ p → g p = 0) : ∀ f, AgreeB g n f := by
  intro f
  induction f with
  | zero => intro p k L S hp hf; omega
  | succ f ih =>
    intro p k L S hp hf
    by_cases hn : p = n
    · subst hn
      have h0 := hg p (Nat.le_refl _)
      have e : ty g (f + 1) p = (false, p) := by simp [ty, h0, isLeaf]
      rw [e, bh_out]
      simp [endsB]
    have hlt : p < n := by omega
    cases hl : isLeaf (g p) with
    | true =>
      have e : ty g (f + 1) p = (true, p + 1) := by simp [ty, hl]
      have hgo : goes ((1, k, L) :: S) (g p) = some S := by rw [goes_type]; simp [begins, hl]
      rw [e, bh_step hlt hgo]
      simp [endsB]
    | false =>
    by_cases he : g p = 101
    · have e : ty g (f + 1) p = dig g 1 (p + 1) := by simp [ty, he, isLeaf]
      have hgo : goes ((1, k, L) :: S) (g p) = some ((2, 0, 0) :: S) := by rw [goes_type]; simp [begins, he, isLeaf]
      rw [e, bh_step hlt hgo, bh_dig hg (show p + 1 ≤ n by omega) (Or.inl ⟨rfl, rfl⟩)]
    by_cases ha : g p = 97 ∨ g p = 113
    · obtain ⟨h, least, hh, hgo, hty⟩ : ∃ h least, ((h = 2 ∧ least = 1) ∨ (h = 3 ∧ least = 0)) ∧ goes ((1, k, L) :: S) (g p) = some ((h, 0, 0) :: (1, 0, L + 1) :: S) ∧ ty g (f + 1) p = (if (dig g least (p + 1)).1 then ty g f (p + 2) else (false, p + 1)) := by
        rcases ha with ha | ha
        · exact ⟨2, 1, Or.inl ⟨rfl, rfl⟩, by rw [goes_type]; simp [begins, ha, isLeaf], by simp [ty, ha, isLeaf]⟩
        · exact ⟨3, 0, Or.inr ⟨rfl, rfl⟩, by rw [goes_type]; simp [begins, ha, isLeaf], by simp [ty, ha, isLeaf]⟩
      obtain ⟨_, d2, d3⟩ := run_dig (S := S) (D := 0) hg (show p + 1 ≤ n by omega) hh
      rw [bh_step hlt hgo, bh_dig hg (show p + 1 ≤ n by omega) hh, hty]
      cases hx : (dig g least (p + 1)).1 with
      | false =>
        have hq := d3 hx
        rw [if_neg (by simp)]
        simp [endsB, hx, hq]
      | true =>
        obtain ⟨hq, hlt2⟩ := d2 hx
        rw [if_pos rfl, ← ih (p + 2) 0 (L + 1) S (by omega) (by omega)]
        simp [endsB, hx, hq]
    by_cases hr : g p = 114 ∨ g p = 117
    · have n1 : ¬ g p = 97 := by omega
      have n2 : ¬ g p = 113 := by omega
      have hgo : goes ((1, k, L) :: S) (g p) = some ((4, 0, 0) :: (5, 0, L + 1) :: S) := by
        rw [goes_type]; simp [begins, hl, he, n1, n2, hr]
      have hty : ty g (f + 1) p = (if g (p + 1) = 40 then (if (ty g f (p + 2)).1 then lst (ty g f) g 5 (ty g f (p + 2)).2 else (false, (ty g f (p + 2)).2)) else (false, p + 1)) := by
        simp [ty, hl, he, n1, n2, hr]
      rw [bh_step hlt hgo, hty]
      by_cases hb : g (p + 1) = 40
      · have hlt2 : p + 1 < n := by
          rcases Nat.lt_or_ge (p + 1) n with h | h
          · exact h
          · have := hg _ h
            omega
        rw [if_pos hb, bh_step hlt2 (show goes ((4, 0, 0) :: (5, 0, L + 1) :: S) (g (p + 1)) = some ((5, 0, L + 1) :: S) by simp [goes, hb]), show p + 1 + 1 = p + 2 from rfl, bh_list (by omega) (Or.inl rfl), ih (p + 2) 0 (L + 1) _ (by omega) (by omega)]
        obtain ⟨_, ib, _⟩ := agree hg f (p + 2) 0 1 0 [] (by omega) (by omega)
        cases hx : (ty g f (p + 2)).1 with
        | false =>
          rw [if_neg (by simp)]
          simp [endsB, hx]
        | true =>
          obtain ⟨q1, q2⟩ := ib hx
          rw [if_pos rfl, ← lst_mainB hg (agree hg f) ih 5 (ty g f (p + 2)).2 1 (L + 1) S (by omega) (by omega) q2 (by omega)]
          simp [endsB, hx]
      · rw [if_neg hb]
        by_cases hn2 : p + 1 = n
        · rw [hn2, bh_out]
          simp [endsB]
        · rw [bh_stop (by omega) (by simp [goes, hb])]
          simp [endsB]
    · have n1 : ¬ g p = 97 := by omega
      have n2 : ¬ g p = 113 := by omega
      have e : ty g (f + 1) p = (false, p) := by simp [ty, hl, he, n1, n2, hr]
      have hgo : goes ((1, k, L) :: S) (g p) = none := by rw [goes_type]; simp [begins, hl, he, n1, n2, hr]
      rw [e, bh_stop hlt hgo]
      simp [endsB]

theorem behind_ty {g : Nat → Nat} {n f p : Nat} (hg : ∀ p, n ≤ p → g p = 0) (hp : p ≤ n) (hf : n - p < f) : bh g (n - p) [(1, 0, 1)] p = (ty g f p).2 := by
  rw [agreeB hg f p 0 1 [] hp hf]
  unfold endsB
  split
  · exact bh_nil
  · rfl

/- the types at the places ks follow one another from 'start' on, and a ')' behind them at c -/
def chain (T : Nat → Bool × Nat) (g : Nat → Nat) : Nat → List Nat → Nat → Prop
  | start, [], c => start = c ∧ g c = 41
  | start, k :: r, c => start = k ∧ g k ≠ 41 ∧ (T k).1 = true ∧ chain T g (T k).2 r c

theorem chain_lkids {T : Nat → Bool × Nat} {g : Nat → Nat} : ∀ (j p : Nat), (lst T g j p).1 = true → chain T g p (lkids T g j p) ((lst T g j p).2 - 1) ∧ 1 ≤ (lst T g j p).2 := by
  intro j
  induction j with
  | zero =>
    intro p h
    by_cases hc : g p = 41
    · simp [lst, hc, lkids, chain]
    · simp [lst, hc] at h
  | succ j ih =>
    intro p h
    by_cases hc : g p = 41
    · simp [lst, hc, lkids, chain]
    · cases hx : (T p).1 with
      | false => simp [lst, hc, hx] at h
      | true =>
        have e : lst T g (j + 1) p = lst T g j (T p).2 := by simp [lst, hc, hx]
        rw [e] at h ⊢
        obtain ⟨h1, h2⟩ := ih (T p).2 h
        refine ⟨?_, h2⟩
        simp only [lkids, hc, if_false]
        exact ⟨rfl, hc, hx, h1⟩

end Go.Proofs.Ytblomippkddgiaa.V.Pt
