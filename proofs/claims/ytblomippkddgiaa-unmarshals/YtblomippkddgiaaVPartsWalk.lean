/-
  The walk of the landed code's partsInBrackets, over the contract of oneType at one fuel less.
-/
import Derived.Test.YtblomippkddgiaaVParts
namespace Go.Proofs.Ytblomippkddgiaa.V
open Go.RowKit

set_option maxHeartbeats 1000000 in
theorem parts_open (b p : Nat) (s : ByteArray) (w : World) (h : At w b s p) (hp : p ≤ s.size) (hs : s.size ≤ 40) (hc : ¬ nx s p = 40) :
    Calls Try.prog 73 #[.pointer (some ⟨b, 0, none⟩)] w fun e w' => e = wrongAt p ∧ Keeps b w w' := by
  have HB := bracket_no b p s w (nx s p) 40 h hp hs rfl hc
  clear hc h
  go_enter Try.func73, Try.ntmps73
  go_wp2_with fail
  refine HB.mono ?_
  rintro e w1 ⟨rfl, hk⟩
  go_wp2
  exact ⟨rfl, rfl, hk⟩

set_option maxHeartbeats 1000000 in
theorem parts_first (b f p : Nat) (s : ByteArray) (w : World) (h : At w b s p) (hp : p < s.size) (hs : s.size ≤ 40) (hf : s.size - (p + 1) < f) (hc : nx s p = 40) (H : OneSaid b s f) (hT : (Pt.ty (nx s) f (p + 1)).1 = false) :
    Calls Try.prog 73 #[.pointer (some ⟨b, 0, none⟩)] w fun e w' => e = wrongAt (Pt.ty (nx s) f (p + 1)).2 ∧ Keeps b w w' := by
  have HB := bracket_ok b p s w 40 h (by omega) hs hc
  have HO : ∀ w, At w b s (p + 1) → Calls Try.prog 51 #[.pointer (some ⟨b, 0, none⟩)] w fun e w' => e = wrongAt (Pt.ty (nx s) f (p + 1)).2 ∧ Keeps b w w' := by
    intro w1 ha
    refine (H (p + 1) w1 ha (by omega) hf).mono ?_
    intro e w' hp'
    unfold TyPost at hp'
    rw [hT, if_neg (by simp)] at hp'
    exact hp'
  have HO := hide HO
  clear hc h H hT
  go_enter Try.func73, Try.ntmps73
  go_wp2_with fail
  refine HB.mono ?_
  rintro e w1 ⟨rfl, hk, ha⟩
  clear HB
  go_wp2_with fail
  refine ((unhide HO) _ ha).mono ?_
  rintro e w2 ⟨rfl, hk2⟩
  go_wp2
  exact ⟨rfl, rfl, hk.trans hk2⟩

set_option maxHeartbeats 2000000 in
theorem parts_rest (b f p : Nat) (s : ByteArray) (w : World) (h : At w b s p) (hp : p < s.size) (hs : s.size ≤ 40) (hf : s.size - (p + 1) < f) (hc : nx s p = 40) (H : OneSaid b s f) (hA : Pt.Agree (nx s) s.size f) (hT : (Pt.ty (nx s) f (p + 1)).1 = true) :
    Calls Try.prog 73 #[.pointer (some ⟨b, 0, none⟩)] w (PartsPost b s f p w) := by
  have hbw := h.lt
  have HB := bracket_ok b p s w 40 h (by omega) hs hc
  have HA := hide hA
  have HT := hide hT
  have HO := hide H
  clear hc h H hT hA
  obtain ⟨i0, hi, hz0, hz1, hz2⟩ := info_parts info63
  go_enter Try.func73, Try.ntmps73
  go_wp2_with fail
  refine HB.mono ?_
  rintro e w1 ⟨rfl, hk, ha⟩
  clear HB
  go_wp2_with fail
  refine ((unhide HO) (p + 1) _ ha (by omega) hf).mono ?_
  intro e w2 hpo
  unfold TyPost at hpo
  rw [unhide HT, if_pos rfl] at hpo
  obtain ⟨d0, d1, d2, rfl, hk2, ha2, hr2⟩ := hpo
  obtain ⟨_, hpos, _⟩ := (unhide HA) (p + 1) 0 1 0 [] (by omega) hf
  obtain ⟨q1, q2⟩ := hpos (unhide HT)
  have I := inv_start hk hk2 ha2 rfl q2 (by omega) hr2
  have I0 := hide I
  clear I hpos hk hk2 ha ha2 hr2
  go_wp2
  go_loopw [3] (fun v wr => ∃ (j k q : Nat) (ks : List Nat) (xs : List Value), PInv b f p s w j k q ks v xs wr) (fun v _ => 6 - lenOf v)
  case atStart => exact ⟨_, _, _, _, _, unhide I0⟩
  case round =>
    obtain ⟨j, k, q, ks, xs, I⟩ := hrel
    clear I0
    obtain ⟨g, cap, hv, hBg, hgl⟩ := owns_cons I.owns I.some
    subst hv
    have HI := hide I
    have hsum := I.sum
    have hsome := I.some
    have har := I.reader
    have hle := I.le
    have hfuel := I.fuel
    clear I
    by_cases h6 : k = 6
    · subst h6
      obtain rfl : j = 0 := by omega
      by_cases h41 : nx s q = 41
      · have H41 := hide h41
        clear h41
        go_wp2_with fail
        refine (bracket_ok b q s _ 41 har hle hs (unhide H41)).mono ?_
        rintro e w3 ⟨rfl, hk3, ha3⟩
        go_wp2
        go_ret
        exact inv_end_ok hbw (unhide HI) (unhide H41) hk3 ha3
      · have H41 := hide h41
        clear h41
        go_wp2_with fail
        refine (bracket_no b q s _ _ 41 har hle hs rfl (unhide H41)).mono ?_
        rintro e w3 ⟨rfl, hk3⟩
        go_wp2
        exact ⟨rfl, inv_end_no (unhide HI) (unhide H41) hk3⟩
    · obtain ⟨j', rfl⟩ : ∃ j', j = j' + 1 := ⟨j - 1, by omega⟩
      have hk6 : (k : Int) < 6 := by omega
      by_cases h41 : nx s q = 41
      · have H41 := hide h41
        have HN := next_any b q s wr har hle hs
        rw [h41] at HN
        clear h41
        go_wp2_with fail
        refine HN.mono ?_
        rintro e w3 ⟨rfl, hk3, ha3⟩
        clear HN
        go_wp2_with fail
        refine (bracket_ok b q s _ 41 ha3 hle hs (unhide H41)).mono ?_
        rintro e w4 ⟨rfl, hk4, ha4⟩
        go_wp2
        go_ret
        exact inv_end_ok hbw (unhide HI) (unhide H41) (hk3.trans hk4) ha4
      · have H41 := hide h41
        have HN := next_any b q s wr har hle hs
        obtain ⟨c, hcc⟩ : ∃ c, c = nx s q := ⟨_, rfl⟩
        rw [← hcc] at HN
        have hne41 : ((c : Int) != 41) = true := by simp; omega
        clear h41 hcc
        go_wp2_with fail
        refine HN.mono ?_
        rintro e w3 ⟨rfl, hk3, ha3⟩
        clear HN
        go_wp2_with fail
        refine ((unhide HO) q _ ha3 hle hfuel).mono ?_
        intro e w4 hpo
        unfold TyPost at hpo
        cases hTq : (Pt.ty (nx s) f q).1 with
        | false =>
          rw [hTq, if_neg (by simp)] at hpo
          obtain ⟨rfl, hk4⟩ := hpo
          have HTq := hide hTq
          clear hTq
          go_wp2
          exact ⟨rfl, inv_bad (unhide HI) (unhide H41) (unhide HTq) (hk3.trans hk4)⟩
        | true =>
          rw [hTq, if_pos rfl] at hpo
          obtain ⟨e0, e1, e2, rfl, hk4, ha4, hr4⟩ := hpo
          have HTq := hide hTq
          clear hTq
          obtain ⟨⟨x0, rfl⟩, ⟨x1, rfl⟩, ⟨ea, en, ec, rfl⟩⟩ := rep_shape hr4
          have hk34 := hk3.trans hk4
          have how := owns_keeps (unhide HI).owns hk34 hbw
          have hsz := (unhide HI).keeps.size
          have hsz4 := hk34.size
          have HR := hide hr4
          have HA4 := hide ha4
          have HK34 := hide hk34
          have hb3 : wr.heap.size ≤ w3.heap.size := hk3.size
          clear hr4 ha4 hk34 hk3 hk4 ha3 har
          go_wp2_with (at_builtin; refine wpList_append_own_at _ rfl _ _ 73 rfl w.heap.size 75 i0 (.agg #[.int .u8 0, .int .i64 0, .slice none 0 0]) 3 40 Try.underlying73 hi hz0 hz1 hz2 rfl (by decide) _ k xs rfl (how.alloc _) ⟨w4.heap.size, 0, none⟩ 1 1 [.int .u8 x0, .int .i64 x1, .slice ea en ec] rfl rfl ?c1 ?c2 ?c3 ?c4 ?c5 ?_)
          case c1 =>
            intro i u hu
            obtain ⟨t0, t1, t2, _⟩ := (Tri.new w4 (.int .u8 x0) (.int .i64 x1) (.slice ea en ec)).facts
            match i, hu with
            | 0, hu => simp at hu; subst hu; exact t0
            | 1, hu => simp at hu; subst hu; exact t1
            | 2, hu => simp at hu; subst hu; exact t2
          case c2 =>
            intro u hu
            simp at hu
            rcases hu with rfl | rfl | rfl <;> rfl
          case c3 => unfold maxLen; omega
          case c4 => omega
          case c5 => simp; omega
          intro v' w5 hown' hgrow _ hat
          have R := inv_push hbw (unhide HI) (unhide HK34) (unhide HA4) (unhide HTq) (unhide HA) (unhide H41) (rep_mono (fun k' hk' _ => by omega) (unhide HR)) hown' hgrow (by simpa using hat)
          have hl5 : lenOf v' = k + 1 := by
            obtain ⟨g', cap', hv', _⟩ := owns_cons hown' (by omega)
            rw [hv']
            rfl
          have R := hide R
          have hl5 := hide hl5
          clear hown' hgrow hat how
          go_wp2
          go_roundw
          case rel => exact ⟨_, _, _, _, _, unhide R⟩
          case measure => rw [unhide hl5]; simp only [lenOf]; omega

theorem parts_any (b f p : Nat) (s : ByteArray) (w : World) (h : At w b s p) (hp : p ≤ s.size) (hs : s.size ≤ 40) (hf : p < s.size → s.size - (p + 1) < f) (H : OneSaid b s f) (hA : Pt.Agree (nx s) s.size f) :
    Calls Try.prog 73 #[.pointer (some ⟨b, 0, none⟩)] w fun e w' =>
      if nx s p = 40 then (if (Pt.ty (nx s) f (p + 1)).1 then PartsPost b s f p w e w' else e = wrongAt (Pt.ty (nx s) f (p + 1)).2 ∧ Keeps b w w') else e = wrongAt p ∧ Keeps b w w' := by
  by_cases hc : nx s p = 40
  · have hlt : p < s.size := by
      rcases Nat.lt_or_ge p s.size with h' | h'
      · exact h'
      · rw [nx_out h'] at hc
        omega
    simp only [hc, if_true]
    cases hT : (Pt.ty (nx s) f (p + 1)).1 with
    | false => simpa using parts_first b f p s w h hlt hs (hf hlt) hc H hT
    | true => simpa using parts_rest b f p s w h hlt hs (hf hlt) hc H hA hT
  · simp only [hc, if_false]
    exact parts_open b p s w h hp hs hc

theorem nx_pos {s : ByteArray} {p c : Nat} (h : nx s p = c) (hc : c ≠ 0) : p < s.size := by
  rcases Nat.lt_or_ge p s.size with h' | h'
  · exact h'
  · rw [nx_out h'] at h
    omega

theorem one_any (b : Nat) (s : ByteArray) (hs : s.size ≤ 40) : ∀ f, OneSaid b s f := by
  have hA := fun f => Pt.agree (g := nx s) (n := s.size) (fun p hp => nx_out hp) f
  intro f
  induction f with
  | zero => intro p w _ _ hf; omega
  | succ f ih =>
    intro p w h hp hf
    obtain ⟨c, hc⟩ : ∃ c, nx s p = c := ⟨_, rfl⟩
    by_cases hl : c = 98 ∨ c = 99 ∨ c = 105 ∨ c = 115
    · have hlf : Pt.isLeaf c = true := by simp [Pt.isLeaf]; omega
      refine (one_leaf b p s w c h hp hs hc hl).mono ?_
      rintro e w' ⟨rfl, hk, ha⟩
      have e1 : Pt.ty (nx s) (f + 1) p = (true, p + 1) := by simp [Pt.ty, hc, hlf]
      unfold TyPost
      rw [e1, if_pos rfl]
      refine ⟨_, _, _, rfl, hk, ha, rep_none ?_ (by rw [hc]) ?_⟩
      · have n1 : ¬ c = 97 := by omega
        have n2 : ¬ c = 113 := by omega
        have n3 : ¬ c = 114 := by omega
        have n4 : ¬ c = 117 := by omega
        simp [Pt.kids, hc, n1, n2, n3, n4]
      · unfold nodeDigit
        rw [if_neg (by rw [hc]; omega)]
    have hlf : Pt.isLeaf c = false := by simp [Pt.isLeaf]; omega
    by_cases he : c = 101
    · subst he
      have hlt := nx_pos hc (by omega)
      by_cases hd : 48 + 1 ≤ nx s (p + 1) ∧ nx s (p + 1) ≤ 57
      · refine (one_e b p s w h hlt hs hc hd).mono ?_
        rintro e w' ⟨rfl, hk, ha⟩
        have e1 : Pt.ty (nx s) (f + 1) p = (true, p + 2) := by simp [Pt.ty, hc, hlf, Pt.dig]; omega
        unfold TyPost
        rw [e1, if_pos rfl]
        refine ⟨_, _, _, rfl, hk, ha, rep_none (by simp [Pt.kids, hc]) (by rw [hc]; rfl) ?_⟩
        unfold nodeDigit
        rw [if_pos (by omega)]
      · refine (one_e_no b p s w h hlt hs hc hd).mono ?_
        rintro e w' ⟨rfl, hk⟩
        have e1 : Pt.ty (nx s) (f + 1) p = (false, p + 1) := by
          simp only [Pt.ty, hc, hlf, Pt.dig]
          simp
          omega
        unfold TyPost
        rw [e1, if_neg (by simp)]
        exact ⟨rfl, hk⟩
    by_cases ha' : c = 97
    · subst ha'
      have hlt := nx_pos hc (by omega)
      by_cases hd : 48 + 1 ≤ nx s (p + 1) ∧ nx s (p + 1) ≤ 57
      · have hlt2 := nx_pos (s := s) (p := p + 1) rfl (by omega)
        have hdg : Pt.dig (nx s) 1 (p + 1) = (true, p + 2) := by unfold Pt.dig; rw [if_pos hd]
        have e1 : Pt.ty (nx s) (f + 1) p = Pt.ty (nx s) f (p + 2) := by simp [Pt.ty, hc, hlf, hdg]
        have hch := fun w' (ha : At w' b s (p + 2)) => ih (p + 2) w' ha (by omega) (by omega)
        unfold TyPost at hch ⊢
        rw [e1]
        cases hT : (Pt.ty (nx s) f (p + 2)).1 with
        | false =>
          simp only [hT, Bool.false_eq_true, if_false] at hch ⊢
          exact one_a_in b p s w _ h hlt hs hc hd hch
        | true =>
          simp only [hT, if_true] at hch ⊢
          exact one_a_ok b p f s w _ h hlt hs hc hd hch
      · refine (one_a_no b p s w h hlt hs hc hd).mono ?_
        rintro e w' ⟨rfl, hk⟩
        have hdg : Pt.dig (nx s) 1 (p + 1) = (false, p + 1) := by unfold Pt.dig; rw [if_neg hd]
        have e1 : Pt.ty (nx s) (f + 1) p = (false, p + 1) := by simp [Pt.ty, hc, hlf, hdg]
        unfold TyPost
        rw [e1, if_neg (by simp)]
        exact ⟨rfl, hk⟩
    by_cases hq' : c = 113
    · subst hq'
      have hlt := nx_pos hc (by omega)
      by_cases hd : 48 + 0 ≤ nx s (p + 1) ∧ nx s (p + 1) ≤ 57
      · have hlt2 := nx_pos (s := s) (p := p + 1) rfl (by omega)
        have hdg : Pt.dig (nx s) 0 (p + 1) = (true, p + 2) := by unfold Pt.dig; rw [if_pos hd]
        have e1 : Pt.ty (nx s) (f + 1) p = Pt.ty (nx s) f (p + 2) := by simp [Pt.ty, hc, hlf, hdg]
        have hch := fun w' (ha : At w' b s (p + 2)) => ih (p + 2) w' ha (by omega) (by omega)
        unfold TyPost at hch ⊢
        rw [e1]
        cases hT : (Pt.ty (nx s) f (p + 2)).1 with
        | false =>
          simp only [hT, Bool.false_eq_true, if_false] at hch ⊢
          exact one_q_in b p s w _ h hlt hs hc hd hch
        | true =>
          simp only [hT, if_true] at hch ⊢
          exact one_q_ok b p f s w _ h hlt hs hc hd hch
      · refine (one_q_no b p s w h hlt hs hc hd).mono ?_
        rintro e w' ⟨rfl, hk⟩
        have hdg : Pt.dig (nx s) 0 (p + 1) = (false, p + 1) := by unfold Pt.dig; rw [if_neg hd]
        have e1 : Pt.ty (nx s) (f + 1) p = (false, p + 1) := by simp [Pt.ty, hc, hlf, hdg]
        unfold TyPost
        rw [e1, if_neg (by simp)]
        exact ⟨rfl, hk⟩
    by_cases hr : c = 114 ∨ c = 117
    · have hlt := nx_pos hc (by omega)
      have e1 : Pt.ty (nx s) (f + 1) p = (if nx s (p + 1) = 40 then (if (Pt.ty (nx s) f (p + 2)).1 then Pt.lst (Pt.ty (nx s) f) (nx s) 5 (Pt.ty (nx s) f (p + 2)).2 else (false, (Pt.ty (nx s) f (p + 2)).2)) else (false, p + 1)) := by
        simp [Pt.ty, hc, hlf, he, ha', hq', hr]
      have ek : Pt.kids (nx s) f p = (p + 2) :: Pt.lkids (Pt.ty (nx s) f) (nx s) 5 (Pt.ty (nx s) f (p + 2)).2 := by simp [Pt.kids, hc, ha', hq', hr]
      have hch := fun w' (ha : At w' b s (p + 1)) => parts_any b f (p + 1) s w' ha (by omega) hs (fun _ => by omega) ih (hA f)
      by_cases h40 : nx s (p + 1) = 40
      · cases hT : (Pt.ty (nx s) f (p + 2)).1 with
        | false =>
          simp only [h40, if_true, show p + 1 + 1 = p + 2 from rfl, hT, Bool.false_eq_true, if_false] at hch
          unfold TyPost
          rw [e1]
          simp only [h40, if_true, hT, Bool.false_eq_true, if_false]
          rcases hr with rfl | rfl
          · exact one_r_in b p s w _ h hlt hs hc hch
          · exact one_u_in b p s w _ h hlt hs hc hch
        | true =>
          unfold PartsPost at hch
          simp only [h40, if_true, show p + 1 + 1 = p + 2 from rfl, hT] at hch
          unfold TyPost
          rw [e1]
          simp only [h40, if_true, hT]
          cases hL : (Pt.lst (Pt.ty (nx s) f) (nx s) 5 (Pt.ty (nx s) f (p + 2)).2).1 with
          | false =>
            simp only [hL, Bool.false_eq_true, if_false] at hch ⊢
            rcases hr with rfl | rfl
            · exact one_r_in b p s w _ h hlt hs hc hch
            · exact one_u_in b p s w _ h hlt hs hc hch
          | true =>
            simp only [hL, if_true, ← ek] at hch ⊢
            rcases hr with rfl | rfl
            · exact one_r_ok b p f s w _ h hlt hs hc hch
            · exact one_u_ok b p f s w _ h hlt hs hc hch
      · simp only [h40, if_false] at hch
        unfold TyPost
        rw [e1]
        simp only [h40, if_false, Bool.false_eq_true]
        rcases hr with rfl | rfl
        · exact one_r_in b p s w _ h hlt hs hc hch
        · exact one_u_in b p s w _ h hlt hs hc hch
    · refine (one_bad b p s w c h hp hs hc (by omega)).mono ?_
      rintro e w' ⟨rfl, hk⟩
      have e1 : Pt.ty (nx s) (f + 1) p = (false, p) := by simp [Pt.ty, hc, hlf, he, ha', hq', hr]
      unfold TyPost
      rw [e1, if_neg (by simp)]
      exact ⟨rfl, hk⟩
end Go.Proofs.Ytblomippkddgiaa.V
