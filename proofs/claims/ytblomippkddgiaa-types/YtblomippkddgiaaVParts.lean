/-
  The landed code's partsInBrackets and, by one induction, oneType: for every text of at most 40 bytes and every place in it.
-/
import Derived.Test.YtblomippkddgiaaVOne
import Derived.Maps.AppendAt
namespace Go.Proofs.Ytblomippkddgiaa.V
open Go.RowKit

theorem info63 : (Try.prog.info? 75).map (fun i => (i.zero, i.size, i.bytes)) = some (some (.agg #[.int .u8 0, .int .i64 0, .slice none 0 0]), 3, 40) := by kernel_rfl

/- the contract of oneType at fuel f -/
def OneSaid (b : Nat) (s : ByteArray) (f : Nat) : Prop := ∀ (p : Nat) (w : World), At w b s p → p ≤ s.size → s.size - p < f → Calls Try.prog 51 #[.pointer (some ⟨b, 0, none⟩)] w (TyPost b s f p w)

/- the types read so far lie in v, none of them in v's own row -/
def Inside (w : World) (B : Nat) (s : ByteArray) (f : Nat) (ks : List Nat) (v : Value) (xs : List Value) : Prop :=
  ∀ (i q : Nat), ks[i]? = some q → ∃ d0 d1 d2, xs[3 * i]? = some d0 ∧ xs[3 * i + 1]? = some d1 ∧ xs[3 * i + 2]? = some d2 ∧ Rep w (fun k => B ≤ k ∧ v.ownBlock ≠ some k) (nx s) f q d0 d1 d2

structure PInv (b f p : Nat) (s : ByteArray) (w : World) (j k q : Nat) (ks : List Nat) (v : Value) (xs : List Value) (wr : World) : Prop where
  sum : k + j = 6
  some : 1 ≤ k
  len : ks.length = k
  le : q ≤ s.size
  fuel : s.size - q < f
  reader : At wr b s q
  keeps : Keeps b w wr
  owns : wr.ownsRow w.heap.size 75 3 v k xs
  inside : Inside wr w.heap.size s f ks v xs
  rest : Pt.lst (Pt.ty (nx s) f) (nx s) 5 (Pt.ty (nx s) f (p + 1)).2 = Pt.lst (Pt.ty (nx s) f) (nx s) j q
  kids : (p + 1) :: Pt.lkids (Pt.ty (nx s) f) (nx s) 5 (Pt.ty (nx s) f (p + 1)).2 = ks ++ Pt.lkids (Pt.ty (nx s) f) (nx s) j q

def lenOf : Value → Nat | .slice _ n _ => n | _ => 0

theorem rep_shape {w : World} {S : Nat → Prop} {g : Nat → Nat} {f p : Nat} {c0 c1 c2 : Value} (h : Rep w S g f p c0 c1 c2) : (∃ x, c0 = .int .u8 x) ∧ (∃ x, c1 = .int .i64 x) ∧ (∃ a n c, c2 = .slice a n c) := by
  cases f with
  | zero => exact h.elim
  | succ f =>
    obtain ⟨h0, h1, xs, ⟨⟨_, ho⟩, _⟩, _⟩ := h
    refine ⟨⟨_, h0⟩, ⟨_, h1⟩, ?_⟩
    rcases ho with ⟨hv, _⟩ | ⟨g, cap, cur, hv, _⟩
    · exact ⟨_, _, _, hv⟩
    · exact ⟨_, _, _, hv⟩

theorem owns_cons {w : World} {B n : Nat} {v : Value} {xs : List Value} (h : w.ownsRow B 75 3 v n xs) (hn : 1 ≤ n) : ∃ g cap, v = .slice (some ⟨g, 0, none⟩) n cap ∧ B ≤ g ∧ g < w.heap.size := by
  obtain ⟨_, h⟩ := h
  rcases h with ⟨_, h0⟩ | ⟨g, cap, cur, hv, hg, hh, _⟩
  · omega
  · exact ⟨g, cap, hv, hg, lt_of_block hh⟩

theorem owns_keeps {w w' : World} {b B n : Nat} {v : Value} {xs : List Value} (h : w.ownsRow B 75 3 v n xs) (hk : Keeps b w w') (hb : b < B) : w'.ownsRow B 75 3 v n xs := by
  obtain ⟨hl, h⟩ := h
  refine ⟨hl, ?_⟩
  rcases h with h | ⟨g, cap, cur, hv, hg, hh, r⟩
  · exact Or.inl h
  · refine Or.inr ⟨g, cap, cur, hv, hg, ?_, r⟩
    rw [hk.block g (lt_of_block hh) (by omega)]
    exact hh

theorem inv_start {b f p q0 : Nat} {s : ByteArray} {w w1 w2 : World} {d0 d1 d2 : Value} (hk1 : Keeps b w w1) (hk2 : Keeps b w1 w2) (ha : At w2 b s q0) (hq : (Pt.ty (nx s) f (p + 1)).2 = q0) (hle : q0 ≤ s.size) (hf : s.size - q0 < f)
    (hr : Rep w2 (fun k => w1.heap.size ≤ k) (nx s) f (p + 1) d0 d1 d2) :
    PInv b f p s w 5 1 q0 [p + 1] (.slice (some ⟨w2.heap.size, 0, none⟩) 1 1) [d0, d1, d2] (w2.alloc (.cells #[d0, d1, d2] 75)) := by
  have hs1 := hk1.size
  have hs2 := hk2.size
  refine ⟨rfl, Nat.le_refl _, rfl, hle, hf, ha.alloc _, (hk1.trans hk2).alloc _, ?_, ?_, by rw [hq], by rw [hq]; rfl⟩
  · obtain ⟨⟨hl, ho⟩, hS⟩ := owns_new (d0 := d0) (d1 := d1) (d2 := d2) w2 rfl
    refine ⟨hl, ?_⟩
    rcases ho with ⟨h1, _⟩ | ⟨g, cap, cur, hv, hg, r⟩
    · cases h1
    · cases hv
      exact Or.inr ⟨_, _, cur, rfl, by omega, r⟩
  · intro i q hq'
    match i, hq' with
    | 0, hq' =>
      simp at hq'
      subst hq'
      refine ⟨d0, d1, d2, rfl, rfl, rfl, rep_above ((Above.refl _ _).alloc _) (rep_mono (fun k hk hlt => ⟨by omega, ?_⟩) hr)⟩
      simp only [Value.ownBlock, ne_eq, Option.some.injEq]
      omega

theorem inv_push {b f p j k q : Nat} {s : ByteArray} {w wr w2 w3 : World} {ks : List Nat} {v v' d0 d1 d2 : Value} {xs : List Value} (hbw : b < w.heap.size) (I : PInv b f p s w (j + 1) k q ks v xs wr) (hk : Keeps b wr w2)
    (ha : At w2 b s (Pt.ty (nx s) f q).2) (hT : (Pt.ty (nx s) f q).1 = true) (hb : Pt.Agree (nx s) s.size f) (hc : ¬ nx s q = 41) (hr : Rep w2 (fun k => wr.heap.size ≤ k) (nx s) f q d0 d1 d2)
    (hown : w3.ownsRow w.heap.size 75 3 v' (k + 1) (xs ++ [d0, d1, d2])) (hg : (w2.alloc (.cells #[d0, d1, d2] 75)).grownBy w3 v.ownBlock) (hat : v'.ownBlock = v.ownBlock ∨ v'.ownBlock = some (w2.alloc (.cells #[d0, d1, d2] 75)).heap.size) :
    PInv b f p s w j (k + 1) (Pt.ty (nx s) f q).2 (ks ++ [q]) v' (xs ++ [d0, d1, d2]) w3 := by
  obtain ⟨hsum, hsome, hlen, hle, hfuel, hrd, hkp, how, hin, hrest, hkids⟩ := I
  obtain ⟨g, cap, hv, hBg, hgl⟩ := owns_cons how hsome
  have hvb : v.ownBlock = some g := by rw [hv]; rfl
  obtain ⟨_, hpos, _⟩ := hb q 0 1 0 [] hle hfuel
  obtain ⟨q1, q2⟩ := hpos hT
  have hs1 := hkp.size
  have hs2 := hk.size
  have hxl : xs.length = 3 * k := by have := how.1; omega
  have hgs : (w2.alloc (.cells #[d0, d1, d2] 75)).heap.size = w2.heap.size + 1 := by simp
  have hsz3 : w2.heap.size + 1 ≤ w3.heap.size := by have := hg.size; omega
  have keep3 : ∀ k', k' < w2.heap.size → ¬ k' = g → w3.heap[k']? = w2.heap[k']? := by
    intro k' hl hn
    rw [hg.block k' (by omega) (by rw [hvb]; intro e; cases e; exact hn rfl)]
    exact Below.heap_alloc _ _ _ hl
  refine ⟨by omega, by omega, by simp [hlen], q2, by omega, ?_, ?_, hown, ?_, ?_, ?_⟩
  · unfold At at ha ⊢
    rw [keep3 b (lt_of_block ha) (by omega)]
    exact ha
  · refine ⟨?_, ?_, ?_, by omega, ?_⟩
    · exact hg.os.trans (hk.os.trans hkp.os)
    · exact hg.tape.trans (hk.tape.trans hkp.tape)
    · exact hg.output.trans (hk.output.trans hkp.output)
    · intro k' hl hn
      rw [keep3 k' (by omega) (by omega), hk.block k' (by omega) hn, hkp.block k' hl hn]
  · have ab : ∀ (S : Nat → Prop), ¬ S g → Above S w2 w3 := fun S hS => ⟨by omega, fun k' hk' hl => keep3 k' hl (fun e => hS (e ▸ hk'))⟩
    have fresh : ∀ k', k' < w2.heap.size → ¬ k' = g → v'.ownBlock ≠ some k' := by
      intro k' hl hn e
      rcases hat with h | h
      · rw [h, hvb] at e; cases e; exact hn rfl
      · rw [h, hgs] at e; cases e; omega
    intro i q' hq'
    by_cases hi : i < ks.length
    · rw [List.getElem?_append_left hi] at hq'
      obtain ⟨e0, e1, e2, a0, a1, a2, hre⟩ := hin i q' hq'
      refine ⟨e0, e1, e2, ?_, ?_, ?_, ?_⟩
      · rw [List.getElem?_append_left (by omega)]; exact a0
      · rw [List.getElem?_append_left (by omega)]; exact a1
      · rw [List.getElem?_append_left (by omega)]; exact a2
      · have h1 := rep_above (hk.above (S := fun k => w.heap.size ≤ k ∧ v.ownBlock ≠ some k) (by omega)) hre
        have h2 := rep_mono (S' := fun k => w.heap.size ≤ k ∧ v.ownBlock ≠ some k ∧ v'.ownBlock ≠ some k) (fun k' hk' hl => ⟨hk'.1, hk'.2, fresh k' hl (fun e => hk'.2 (by rw [e]; exact hvb))⟩) h1
        exact rep_mono (fun k' hk' _ => ⟨hk'.1, hk'.2.2⟩) (rep_above (ab _ (fun h => h.2.1 hvb)) h2)
    · have hi' : i = ks.length := by
        rcases Nat.lt_or_ge i (ks.length + 1) with h | h
        · omega
        · rw [List.getElem?_eq_none (by simpa using h)] at hq'
          cases hq'
      subst hi'
      rw [List.getElem?_append_right (Nat.le_refl _)] at hq'
      simp at hq'
      subst hq'
      refine ⟨d0, d1, d2, ?_, ?_, ?_, ?_⟩
      · rw [List.getElem?_append_right (by omega), show 3 * ks.length - xs.length = 0 by omega]; rfl
      · rw [List.getElem?_append_right (by omega), show 3 * ks.length + 1 - xs.length = 1 by omega]; rfl
      · rw [List.getElem?_append_right (by omega), show 3 * ks.length + 2 - xs.length = 2 by omega]; rfl
      · have h2 := rep_mono (S' := fun k => w.heap.size ≤ k ∧ ¬ k = g ∧ v'.ownBlock ≠ some k) (fun k' hk' hl => ⟨by omega, by omega, fresh k' hl (by omega)⟩) hr
        exact rep_mono (fun k' hk' _ => ⟨hk'.1, hk'.2.2⟩) (rep_above (ab _ (fun h => h.2.1 rfl)) h2)
  · rw [hrest]
    simp [Pt.lst, hc, hT]
  · rw [hkids]
    simp [Pt.lkids, hc]

def PartsPost (b : Nat) (s : ByteArray) (f p : Nat) (w : World) (e : Ending) (w' : World) : Prop :=
  if (Pt.lst (Pt.ty (nx s) f) (nx s) 5 (Pt.ty (nx s) f (p + 1)).2).1 then ∃ v, e = .returned v ∧ Keeps b w w' ∧ At w' b s (Pt.lst (Pt.ty (nx s) f) (nx s) 5 (Pt.ty (nx s) f (p + 1)).2).2 ∧ Kids w' (fun k => w.heap.size ≤ k) (nx s) f ((p + 1) :: Pt.lkids (Pt.ty (nx s) f) (nx s) 5 (Pt.ty (nx s) f (p + 1)).2) v
  else e = wrongAt (Pt.lst (Pt.ty (nx s) f) (nx s) 5 (Pt.ty (nx s) f (p + 1)).2).2 ∧ Keeps b w w'

theorem inv_end_ok {b f p j k q : Nat} {s : ByteArray} {w wr w' : World} {ks : List Nat} {v : Value} {xs : List Value} (hbw : b < w.heap.size) (I : PInv b f p s w j k q ks v xs wr) (hq : nx s q = 41) (hk : Keeps b wr w') (ha : At w' b s (q + 1)) :
    PartsPost b s f p w (.returned v) w' := by
  have e1 : Pt.lst (Pt.ty (nx s) f) (nx s) j q = (true, q + 1) := by cases j <;> simp [Pt.lst, hq]
  have e2 : Pt.lkids (Pt.ty (nx s) f) (nx s) j q = [] := by cases j <;> simp [Pt.lkids, hq]
  unfold PartsPost
  rw [I.rest, e1, I.kids, e2, List.append_nil, if_pos rfl]
  refine ⟨v, rfl, I.keeps.trans hk, ha, xs, ⟨?_, ?_⟩, ?_⟩
  · obtain ⟨hl, h⟩ := owns_keeps I.owns hk hbw
    rw [I.len]
    refine ⟨hl, ?_⟩
    rcases h with h | ⟨g, cap, cur, hv, hg, r⟩
    · exact Or.inl h
    · exact Or.inr ⟨g, cap, cur, hv, Nat.zero_le _, r⟩
  · intro k' hk'
    obtain ⟨g, cap, hv, hBg, hgl⟩ := owns_cons I.owns I.some
    rw [hv] at hk'
    cases hk'
    exact hBg
  · intro i q' hq'
    obtain ⟨d0, d1, d2, a0, a1, a2, hr⟩ := I.inside i q' hq'
    refine ⟨d0, d1, d2, a0, a1, a2, rep_mono (fun k' hk' _ => hk'.1) (rep_above (hk.above ?_) hr)⟩
    intro h
    have := h.1
    omega

theorem inv_end_no {b f p k q : Nat} {s : ByteArray} {w wr w' : World} {ks : List Nat} {v : Value} {xs : List Value} (I : PInv b f p s w 0 k q ks v xs wr) (hq : ¬ nx s q = 41) (hk : Keeps b wr w') :
    PartsPost b s f p w (wrongAt q) w' := by
  have e1 : Pt.lst (Pt.ty (nx s) f) (nx s) 0 q = (false, q) := by simp [Pt.lst, hq]
  unfold PartsPost
  rw [I.rest, e1, if_neg (by simp)]
  exact ⟨rfl, I.keeps.trans hk⟩

theorem inv_bad {b f p j k q : Nat} {s : ByteArray} {w wr w' : World} {ks : List Nat} {v : Value} {xs : List Value} (I : PInv b f p s w (j + 1) k q ks v xs wr) (hq : ¬ nx s q = 41) (hT : (Pt.ty (nx s) f q).1 = false) (hk : Keeps b wr w') :
    PartsPost b s f p w (wrongAt (Pt.ty (nx s) f q).2) w' := by
  have e1 : Pt.lst (Pt.ty (nx s) f) (nx s) (j + 1) q = (false, (Pt.ty (nx s) f q).2) := by simp [Pt.lst, hq, hT]
  unfold PartsPost
  rw [I.rest, e1, if_neg (by simp)]
  exact ⟨rfl, I.keeps.trans hk⟩

end Go.Proofs.Ytblomippkddgiaa.V
