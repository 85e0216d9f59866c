/-
  The landed code's depth, over a type as it lies in memory.
-/
import Derived.Test.YtblomippkddgiaaVPartsWalk
namespace Go.Proofs.Ytblomippkddgiaa.V
open Go.RowKit

theorem top_le {l : List Nat} {m : Nat} (h : ∀ x ∈ l, x ≤ m) : Pt.top l ≤ m := by
  induction l with
  | nil => simp [Pt.top]
  | cons x l ih =>
    have h1 := h x (by simp)
    have h2 := ih (fun y hy => h y (by simp [hy]))
    simp only [Pt.top]
    omega
theorem dep_le (g : Nat → Nat) : ∀ f p, Pt.dep g f p ≤ f := by
  intro f
  induction f with
  | zero => intro p; simp [Pt.dep]
  | succ f ih =>
    intro p
    simp only [Pt.dep]
    have := top_le (l := (Pt.kids g f p).map (Pt.dep g f)) (m := f) (by intro x hx; simp at hx; obtain ⟨a, _, rfl⟩ := hx; exact ih a)
    omega
theorem top_snoc (l : List Nat) (x : Nat) : Pt.top (l ++ [x]) = max (Pt.top l) x := by
  induction l with
  | nil => simp [Pt.top]
  | cons y l ih => simp only [List.cons_append, Pt.top, ih]; omega

theorem top_take {ks : List Nat} {d : Nat → Nat} {k q : Nat} (h : ks[k]? = some q) : Pt.top ((ks.take (k + 1)).map d) = max (Pt.top ((ks.take k).map d)) (d q) := by
  rw [List.take_add_one, h]
  simp only [Option.toList_some, List.map_append, List.map_cons, List.map_nil]
  exact top_snoc _ _
theorem lkids_len (T : Nat → Bool × Nat) (g : Nat → Nat) : ∀ j p, (Pt.lkids T g j p).length ≤ j := by
  intro j
  induction j with
  | zero => intro p; simp [Pt.lkids]
  | succ j ih =>
    intro p
    unfold Pt.lkids
    split
    · simp
    · have := ih (T p).2
      simp
      omega
theorem kids_len (g : Nat → Nat) (f p : Nat) : (Pt.kids g f p).length ≤ 6 := by
  unfold Pt.kids
  split
  · simp
  · split
    · have := lkids_len (Pt.ty g f) g 5 (Pt.ty g f (p + 2)).2
      simp
      omega
    · simp

def DepthSaid (g : Nat → Nat) (f : Nat) : Prop := ∀ (p : Nat) (S : Nat → Prop) (c0 c1 c2 : Value) (w : World), Rep w S g f p c0 c1 c2 → Calls Try.prog 53 #[.agg #[c0, c1, c2]] w fun e w' => e = .returned (.int .i64 (Pt.dep g f p)) ∧ Below w.heap.size w w'

set_option maxRecDepth 100000 in
set_option maxHeartbeats 400000 in
theorem depth_step (g : Nat → Nat) (f : Nat) (hf : f ≤ 41) (ih : DepthSaid g f) : DepthSaid g (f + 1) := by
  intro p S c0 c1 c2 w h
  obtain ⟨rfl, rfl, xs, ho, hi⟩ := h
  obtain ⟨va, vn, vc, rfl, hvn⟩ : ∃ a n c, c2 = .slice a n c ∧ n = (Pt.kids g f p).length := by
    rcases ho.1.2 with ⟨rfl, h0⟩ | ⟨gb, cap, cur, rfl, _⟩
    · exact ⟨_, _, _, rfl, h0.symm⟩
    · exact ⟨_, _, _, rfl, rfl⟩
  have HO := (show Hid (Owns w S (.slice va vn vc) (Pt.kids g f p).length xs) from ho)
  have HI := hide hi
  have HIH := hide ih
  have HN := hide hvn
  have hvl : vn ≤ 6 := by rw [hvn]; exact kids_len g f p
  clear ho hi ih hvn
  go_enter Try.func53, Try.ntmps53
  go_wp2
  go_loopw [3, 9] (fun gr i wr => ∃ k : Nat, k ≤ vn ∧ i = .int .i64 k ∧ gr = .int .i64 (Pt.top (((Pt.kids g f p).take k).map (Pt.dep g f))) ∧ Below w.heap.size w wr) (fun _ i _ => vn - (intOf i).toNat)
  case atStart => exact ⟨0, Nat.zero_le _, rfl, rfl, (Below.refl _ _).alloc (Nat.le_refl _) _⟩
  case round =>
    obtain ⟨k, hk, rfl, rfl, hb⟩ := hrel
    obtain ⟨tk, htk⟩ : ∃ tk, tk = Pt.top (((Pt.kids g f p).take k).map (Pt.dep g f)) := ⟨_, rfl⟩
    have htl : tk ≤ f := by
      rw [htk]
      exact top_le (fun x hx => by
        obtain ⟨a, _, rfl⟩ := List.mem_map.1 hx
        exact dep_le g f a)
    rw [← htk]
    have HTK := hide htk
    clear htk
    by_cases hlt : k < vn
    · obtain ⟨q, hq⟩ : ∃ q, (Pt.kids g f p)[k]? = some q := ⟨_, List.getElem?_eq_getElem (by have := unhide HN; omega)⟩
      obtain ⟨d0, d1, d2, a0, a1, a2, hr⟩ := (unhide HI) k q hq
      obtain ⟨gb, rfl, hgb⟩ : ∃ gb, va = some ⟨gb, 0, none⟩ ∧ gb < w.heap.size := by
        rcases (unhide HO).1.2 with ⟨hv, h0⟩ | ⟨gb, cap, cur, hv, _, hh, _⟩
        · have := unhide HN; omega
        · cases hv; exact ⟨gb, rfl, lt_of_block hh⟩
      have hcl := (unhide HO).1.cells (g := gb) rfl
      have ad : ∀ o, (⟨gb, 0, none⟩ : Addr).add o = ⟨gb, o, none⟩ := fun o => by simp [Addr.add]; omega
      have f0 : wr.cell? ⟨gb, k * 3, none⟩ = some d0 := by
        rw [hb.cell (p := ⟨gb, k * 3, none⟩) hgb, ← ad, Nat.mul_comm]; exact hcl _ _ a0
      have f1 : wr.cell? ⟨gb, k * 3 + 1, none⟩ = some d1 := by
        rw [hb.cell (p := ⟨gb, k * 3 + 1, none⟩) hgb, ← ad, Nat.mul_comm]; exact hcl _ _ a1
      have f2 : wr.cell? ⟨gb, k * 3 + 2, none⟩ = some d2 := by
        rw [hb.cell (p := ⟨gb, k * 3 + 2, none⟩) hgb, ← ad, Nat.mul_comm]; exact hcl _ _ a2
      obtain ⟨⟨x0, rfl⟩, ⟨x1, rfl⟩, ⟨ea, en, ec, rfl⟩⟩ := rep_shape hr
      have hr' : ∀ o, Rep (wr.alloc o) S g f q (.int .u8 x0) (.int .i64 x1) (.slice ea en ec) := fun o => rep_above ((show Above S w wr from ⟨hb.size, fun k' _ hl => hb.block k' hl⟩).alloc o) hr
      have HR := hide hr'
      have HQ := hide hq
      clear hq hr hr' a0 a1 a2 hcl ad
      go_wp2_with fail
      refine ((unhide HIH) q S _ _ _ _ (unhide HR _)).mono ?_
      rintro e w2 ⟨rfl, hb2⟩
      obtain ⟨dq, hdq⟩ : ∃ dq, dq = Pt.dep g f q := ⟨_, rfl⟩
      have hdl : dq ≤ f := by rw [hdq]; exact dep_le g f q
      rw [← hdq]
      have HDQ := hide hdq
      have hb' : Below w.heap.size w w2 := (hb.alloc hb.size _).trans (hb2.mono (by have := hb.size; simp; omega))
      clear hdq hb2 hb f0 f1 f2
      go_wp2
      go_roundw
      case rel =>
        refine ⟨k + 1, by omega, by go_num, ?_, hb'⟩
        rw [top_take (unhide HQ), ← unhide HTK, ← unhide HDQ]
        by_cases hx : tk < dq
        · rw [if_pos hx, show max tk dq = dq by omega]
        · rw [if_neg hx, show max tk dq = tk by omega]
      case measure => simp [intOf]; omega
    · go_wp2
      go_ret
      refine ⟨?_, hb⟩
      have e1 : Pt.dep g (f + 1) p = tk + 1 := by
        rw [unhide HTK, List.take_of_length_le (by have := unhide HN; omega)]
        rfl
      rw [e1]
      rfl

theorem depth_any (g : Nat → Nat) : ∀ f, f ≤ 42 → DepthSaid g f := by
  intro f
  induction f with
  | zero => intro _ p S c0 c1 c2 w h; exact h.elim
  | succ f ih => intro hf; exact depth_step g f (by omega) (ih (by omega))
end Go.Proofs.Ytblomippkddgiaa.V
