/-
  The document's own look whether a packet is right: its body, and the whole.
-/
import Derived.Test.YtblomippkddgiaaRefRight
namespace Go.Proofs.Ytblomippkddgiaa
open Go.RowKit

structure InR (k c li ln sq u pa o : Int) : Prop where
  h0 : ¬ k < 1
  h1 : ¬ 7 < k
  h2 : ¬ c < 0
  h3 : ¬ 2 < c
  h4 : ¬ li < 1
  h5 : ¬ 255 < li
  h6 : ¬ ln < 0
  h7 : ¬ 2 < ln
  h8 : ¬ sq < 1
  h9 : ¬ 999 < sq
  h10 : ¬ u < 1
  h11 : ¬ 255 < u
  h12 : ¬ o < 1
  h13 : ¬ 9 < o
  h14 : ¬ pa < 0
  h15 : ¬ o ≤ pa

set_option maxRecDepth 100000 in
set_option maxHeartbeats 1000000 in
theorem refRight_a (k c li ln sq u pa o : Int) (pl : Bool) (S : ByteArray) (w : World) (h : InR k c li ln sq u pa o) (k1 : (k != 1) = true) (k5 : (k != 5) = true) (b : Bool) (hb : S.toList.isEmpty = b) : Calls Try.prog 69 #[pvs k c li ln sq u pa o pl S] w (saysR b w) := by
  have HB := hide (boxW_below w k c li ln sq u pa o pl S)
  obtain ⟨h0, h1, h2, h3, h4, h5, h6, h7, h8, h9, h10, h11, h12, h13, h14, h15⟩ := h
  go_enter Try.func69, Try.ntmps69
  go_wp2
  go_ret
  exact ⟨rfl, unhide HB⟩

set_option maxRecDepth 100000 in
set_option maxHeartbeats 1000000 in
theorem refRight_b (k c li ln sq u pa o : Int) (pl : Bool) (S : ByteArray) (w : World) (h : InR k c li ln sq u pa o) (hk : k = 1 ∨ k = 5) (hs : (S.size : Int) = 8) : Calls Try.prog 69 #[pvs k c li ln sq u pa o pl S] w (saysR true w) := by
  have HB := hide (boxW_below w k c li ln sq u pa o pl S)
  obtain ⟨h0, h1, h2, h3, h4, h5, h6, h7, h8, h9, h10, h11, h12, h13, h14, h15⟩ := h
  rcases hk with rfl | rfl
  all_goals
    go_enter Try.func69, Try.ntmps69
    go_wp2
    go_ret
    exact ⟨rfl, unhide HB⟩

set_option maxRecDepth 100000 in
set_option maxHeartbeats 1000000 in
theorem refRight_c (k c li ln sq u pa o : Int) (pl : Bool) (S : ByteArray) (w : World) (h : InR k c li ln sq u pa o) (hk : k = 1 ∨ k = 5) (hs : ((S.size : Int) == 8) = false) (hp : ¬ pa = o - 1) : Calls Try.prog 69 #[pvs k c li ln sq u pa o pl S] w (saysR false w) := by
  have HB := hide (boxW_below w k c li ln sq u pa o pl S)
  obtain ⟨h0, h1, h2, h3, h4, h5, h6, h7, h8, h9, h10, h11, h12, h13, h14, h15⟩ := h
  rcases hk with rfl | rfl
  all_goals
    go_enter Try.func69, Try.ntmps69
    go_wp2
    go_ret
    exact ⟨rfl, unhide HB⟩

set_option maxRecDepth 100000 in
set_option maxHeartbeats 1000000 in
theorem refRight_d (k c li ln sq u pa o : Int) (pl : Bool) (S : ByteArray) (w : World) (h : InR k c li ln sq u pa o) (hk : k = 1 ∨ k = 5) (hs : ((S.size : Int) == 8) = false) (hp : pa = o - 1) (b : Bool) (hb : decide ((S.size : Int) < 8) = b) : Calls Try.prog 69 #[pvs k c li ln sq u pa o pl S] w (saysR b w) := by
  have HB := hide (boxW_below w k c li ln sq u pa o pl S)
  obtain ⟨h0, h1, h2, h3, h4, h5, h6, h7, h8, h9, h10, h11, h12, h13, h14, h15⟩ := h
  subst hp
  rcases hk with rfl | rfl
  all_goals
    go_enter Try.func69, Try.ntmps69
    go_wp2
    go_ret
    exact ⟨rfl, unhide HB⟩

theorem refRight_any (p : Pk) (w : World) : Calls Try.prog 69 #[pv p] w (saysR (decide (RightP p)) w) := by
  obtain ⟨k, c, li, ln, sq, u, pa, o, pl, body⟩ := p
  have no : ∀ x : Bool, ¬ RightP ⟨k, c, li, ln, sq, u, pa, o, pl, body⟩ → x = false → decide (RightP ⟨k, c, li, ln, sq, u, pa, o, pl, body⟩) = x := fun x h hx => by rw [hx]; simpa using h
  have out : ∀ (P : Prop), (P → Calls Try.prog 69 #[pvs k c li ln sq u pa o pl (str body)] w (saysR false w)) → (RightP ⟨k, c, li, ln, sq, u, pa, o, pl, body⟩ → ¬ P) → P → Calls Try.prog 69 #[pv ⟨k, c, li, ln, sq, u, pa, o, pl, body⟩] w (saysR (decide (RightP ⟨k, c, li, ln, sq, u, pa, o, pl, body⟩)) w) := fun P h hn hp => by
    rw [no false (fun hr => hn hr hp) rfl]
    exact h hp
  by_cases h0 : k < 1
  · exact out _ (refRight_no0 k c li ln sq u pa o pl _ w) (fun hr => by have := hr.1; simp only at this; omega) h0
  by_cases h1 : 7 < k
  · exact out _ (refRight_no1 k c li ln sq u pa o pl _ w h0) (fun hr => by have := hr.1; simp only at this; omega) h1
  by_cases h2 : c < 0
  · exact out _ (refRight_no2 k c li ln sq u pa o pl _ w h0 h1) (fun hr => by have := hr.2.1; simp only at this; omega) h2
  by_cases h3 : 2 < c
  · exact out _ (refRight_no3 k c li ln sq u pa o pl _ w h0 h1 h2) (fun hr => by have := hr.2.1; simp only at this; omega) h3
  by_cases h4 : li < 1
  · exact out _ (refRight_no4 k c li ln sq u pa o pl _ w h0 h1 h2 h3) (fun hr => by have := hr.2.2.1; simp only at this; omega) h4
  by_cases h5 : 255 < li
  · exact out _ (refRight_no5 k c li ln sq u pa o pl _ w h0 h1 h2 h3 h4) (fun hr => by have := hr.2.2.1; simp only at this; omega) h5
  by_cases h6 : ln < 0
  · exact out _ (refRight_no6 k c li ln sq u pa o pl _ w h0 h1 h2 h3 h4 h5) (fun hr => by have := hr.2.2.2.1; simp only at this; omega) h6
  by_cases h7 : 2 < ln
  · exact out _ (refRight_no7 k c li ln sq u pa o pl _ w h0 h1 h2 h3 h4 h5 h6) (fun hr => by have := hr.2.2.2.1; simp only at this; omega) h7
  by_cases h8 : sq < 1
  · exact out _ (refRight_no8 k c li ln sq u pa o pl _ w h0 h1 h2 h3 h4 h5 h6 h7) (fun hr => by have := hr.2.2.2.2.1; simp only at this; omega) h8
  by_cases h9 : 999 < sq
  · exact out _ (refRight_no9 k c li ln sq u pa o pl _ w h0 h1 h2 h3 h4 h5 h6 h7 h8) (fun hr => by have := hr.2.2.2.2.1; simp only at this; omega) h9
  by_cases h10 : u < 1
  · exact out _ (refRight_no10 k c li ln sq u pa o pl _ w h0 h1 h2 h3 h4 h5 h6 h7 h8 h9) (fun hr => by have := hr.2.2.2.2.2.1; simp only at this; omega) h10
  by_cases h11 : 255 < u
  · exact out _ (refRight_no11 k c li ln sq u pa o pl _ w h0 h1 h2 h3 h4 h5 h6 h7 h8 h9 h10) (fun hr => by have := hr.2.2.2.2.2.1; simp only at this; omega) h11
  by_cases h12 : o < 1
  · exact out _ (refRight_no12 k c li ln sq u pa o pl _ w h0 h1 h2 h3 h4 h5 h6 h7 h8 h9 h10 h11) (fun hr => by have := hr.2.2.2.2.2.2.1; simp only at this; omega) h12
  by_cases h13 : 9 < o
  · exact out _ (refRight_no13 k c li ln sq u pa o pl _ w h0 h1 h2 h3 h4 h5 h6 h7 h8 h9 h10 h11 h12) (fun hr => by have := hr.2.2.2.2.2.2.1; simp only at this; omega) h13
  by_cases h14 : pa < 0
  · exact out _ (refRight_no14 k c li ln sq u pa o pl _ w h0 h1 h2 h3 h4 h5 h6 h7 h8 h9 h10 h11 h12 h13) (fun hr => by have := hr.2.2.2.2.2.2.2.1; simp only at this; omega) h14
  by_cases h15 : o ≤ pa
  · exact out _ (refRight_no15 k c li ln sq u pa o pl _ w h0 h1 h2 h3 h4 h5 h6 h7 h8 h9 h10 h11 h12 h13 h14) (fun hr => by have := hr.2.2.2.2.2.2.2.1; simp only at this; omega) h15
  have hin : InR k c li ln sq u pa o := ⟨h0, h1, h2, h3, h4, h5, h6, h7, h8, h9, h10, h11, h12, h13, h14, h15⟩
  have hiff : RightP ⟨k, c, li, ln, sq, u, pa, o, pl, body⟩ ↔ bodyOk ⟨k, c, li, ln, sq, u, pa, o, pl, body⟩ := by
    unfold RightP
    simp only
    exact ⟨fun h => h.2.2.2.2.2.2.2.2, fun h => ⟨by omega, by omega, by omega, by omega, by omega, by omega, by omega, by omega, h⟩⟩
  have hd : decide (RightP ⟨k, c, li, ln, sq, u, pa, o, pl, body⟩) = decide (bodyOk ⟨k, c, li, ln, sq, u, pa, o, pl, body⟩) := decide_eq_decide.2 hiff
  rw [hd]
  have hsz : ((str body).size : Int) = (body.length : Int) := by rw [str_size]
  show Calls Try.prog 69 #[pvs k c li ln sq u pa o pl (str body)] w _
  unfold bodyOk
  simp only
  by_cases hk : k = 1 ∨ k = 5
  · by_cases h8 : (body.length : Int) = 8
    · have e : decide (if k = 1 ∨ k = 5 then (if pa < o - 1 then body.length = 8 else body.length ≤ 8) else body.length = 0) = true := by
        rw [decide_eq_true_iff, if_pos hk]
        split <;> omega
      rw [e]
      exact refRight_b k c li ln sq u pa o pl _ w hin hk (by omega)
    · by_cases hp : pa = o - 1
      · refine refRight_d k c li ln sq u pa o pl _ w hin hk (by simp; omega) hp _ ?_
        apply decide_eq_decide.2
        rw [if_pos hk, if_neg (by omega)]
        omega
      · have e : decide (if k = 1 ∨ k = 5 then (if pa < o - 1 then body.length = 8 else body.length ≤ 8) else body.length = 0) = false := by
          rw [decide_eq_false_iff_not, if_pos hk, if_pos (by omega)]
          omega
        rw [e]
        exact refRight_c k c li ln sq u pa o pl _ w hin hk (by simp; omega) hp
  · refine refRight_a k c li ln sq u pa o pl _ w hin (by simp; omega) (by simp; omega) _ ?_
    have e : decide (if k = 1 ∨ k = 5 then (if pa < o - 1 then body.length = 8 else body.length ≤ 8) else body.length = 0) = decide (body.length = 0) := by
      apply decide_eq_decide.2
      rw [if_neg hk]
    rw [e]
    have hl : (str body).toList = body := by rw [ByteArray.toList_eq]
    rw [hl]
    cases body with
    | nil => rfl
    | cons a l => simp
end Go.Proofs.Ytblomippkddgiaa
