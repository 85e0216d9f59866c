/-
  The document's own Unmarshal: its walk.
-/
import Derived.Test.YtblomippkddgiaaVRefRead6
import Derived.Test.YtblomippkddgiaaVSame
namespace Go.Proofs.Ytblomippkddgiaa.V
open Go.RowKit

abbrev uEnd (O : Value) (n : Nat) : Ending := .returned (.tuple #[O, .int .i64 n])

set_option maxRecDepth 100000 in
set_option maxHeartbeats 400000 in
theorem un_bad (s S : ByteArray) (w : World) (n q : Nat) (hn : ¬ n = 0) (H : Calls Try.prog 32 #[.string s] w fun e w' => e = chkTuple (n, q) ∧ Below w.heap.size w w') :
    Calls Try.prog 40 #[.string s, .string S] w fun e w' => e = uEnd (.slice none 0 0) n ∧ Below w.heap.size w w' := by
  have HH := hide H
  have hnn : ((n : Int) != 0) = true := by simp; omega
  clear H
  go_enter Try.func40, Try.ntmps40
  go_wp2_with fail
  refine (unhide HH).mono ?_
  rintro e w1 ⟨rfl, hb⟩
  go_wp2
  go_ret2
  exact ⟨rfl, hb⟩

set_option maxRecDepth 100000 in
set_option maxHeartbeats 400000 in
theorem un_big (s S : ByteArray) (w : World) (hbig : 70 < S.size) (H : Calls Try.prog 32 #[.string s] w fun e w' => e = chkTuple (0, 0) ∧ Below w.heap.size w w') :
    Calls Try.prog 40 #[.string s, .string S] w fun e w' => e = uEnd (.slice none 0 0) 5 ∧ Below w.heap.size w w' := by
  have HH := hide H
  have hb' : (70 : Int) < (S.size : Int) := by omega
  clear H hbig
  go_enter Try.func40, Try.ntmps40
  go_wp2_with fail
  refine (unhide HH).mono ?_
  rintro e w1 ⟨rfl, hb⟩
  go_wp2
  go_ret2
  exact ⟨rfl, hb⟩

set_option maxRecDepth 100000 in
set_option maxHeartbeats 400000 in
theorem un_none (s S : ByteArray) (w : World) (hbig : ¬ 70 < S.size) (H : Calls Try.prog 32 #[.string s] w fun e w' => e = chkTuple (0, 0) ∧ Below w.heap.size w w')
    (HR : ∀ w1, Below w.heap.size w w1 → Calls Try.prog 62 #[.string s, .int .i64 0, .string S, .slice none 0 0] w1 fun e w' => (∃ O S', e = triple O S' false) ∧ Below w1.heap.size w1 w') :
    Calls Try.prog 40 #[.string s, .string S] w fun e w' => e = uEnd (.slice none 0 0) 6 ∧ Below w.heap.size w w' := by
  have HH := hide H
  have HRR := hide HR
  have hb' : ¬ (70 : Int) < (S.size : Int) := by omega
  clear H hbig HR
  go_enter Try.func40, Try.ntmps40
  go_wp2_with fail
  refine (unhide HH).mono ?_
  rintro e w1 ⟨rfl, hb⟩
  have HG := hide ((unhide HRR) w1 hb)
  go_wp2_with fail
  refine (unhide HG).mono ?_
  rintro e w2 ⟨⟨O, S', rfl⟩, hb2⟩
  go_wp2
  go_ret2
  exact ⟨rfl, hb.trans (hb2.mono hb.size)⟩

set_option maxRecDepth 100000 in
set_option maxHeartbeats 400000 in
theorem un_left (s S S' : ByteArray) (w : World) (hbig : ¬ 70 < S.size) (hl : ¬ S'.size = 0) (H : Calls Try.prog 32 #[.string s] w fun e w' => e = chkTuple (0, 0) ∧ Below w.heap.size w w')
    (HR : ∀ w1, Below w.heap.size w w1 → Calls Try.prog 62 #[.string s, .int .i64 0, .string S, .slice none 0 0] w1 fun e w' => (∃ oa on oc, e = triple (.slice oa on oc) S' true) ∧ Below w1.heap.size w1 w') :
    Calls Try.prog 40 #[.string s, .string S] w fun e w' => e = uEnd (.slice none 0 0) 6 ∧ Below w.heap.size w w' := by
  have HH := hide H
  have HRR := hide HR
  have hb' : ¬ (70 : Int) < (S.size : Int) := by omega
  have hne : (!S'.toList.isEmpty) = true := by
    cases h : S'.toList with
    | nil => exact absurd (toList_nil.1 h) hl
    | cons x r => rfl
  clear H hbig HR hl
  go_enter Try.func40, Try.ntmps40
  go_wp2_with fail
  refine (unhide HH).mono ?_
  rintro e w1 ⟨rfl, hb⟩
  have HG := hide ((unhide HRR) w1 hb)
  go_wp2_with fail
  refine (unhide HG).mono ?_
  rintro e w2 ⟨⟨oa, on, oc, rfl⟩, hb2⟩
  go_wp2
  go_ret2
  exact ⟨rfl, hb.trans (hb2.mono hb.size)⟩

theorem toList_inj {a b : ByteArray} (h : a.toList = b.toList) : a = b := by
  rw [ByteArray.toList_eq, ByteArray.toList_eq] at h
  exact ByteArray.ext (by simpa using h)

set_option maxRecDepth 100000 in
set_option maxHeartbeats 400000 in
theorem un_yes (s S B : ByteArray) (w : World) (P : World → Value → World → Prop) (hbig : ¬ 70 < S.size) (H : Calls Try.prog 32 #[.string s] w fun e w' => e = chkTuple (0, 0) ∧ Below w.heap.size w w')
    (HR : ∀ w1, Below w.heap.size w w1 → Calls Try.prog 62 #[.string s, .int .i64 0, .string S, .slice none 0 0] w1 fun e w' => (∃ oa on oc, e = triple (.slice oa on oc) ⟨#[]⟩ true ∧ P w1 (.slice oa on oc) w') ∧ Below w1.heap.size w1 w')
    (HF : ∀ w1 O w2, P w1 O w2 → Calls Try.prog 59 #[.string s, O] w2 fun e w' => e = .returned (.bool true) ∧ Below w2.heap.size w2 w')
    (HB : ∀ w1 O w2 w3, P w1 O w2 → Below w2.heap.size w2 w3 → Calls Try.prog 60 #[.string s, O] w3 fun e w' => e = .returned (.string B) ∧ Below w3.heap.size w3 w') :
    Calls Try.prog 40 #[.string s, .string S] w fun e w' => (if B = S then ∃ O w1 w2, e = uEnd O 0 ∧ Below w.heap.size w w1 ∧ P w1 O w2 ∧ Below w2.heap.size w2 w' else e = uEnd (.slice none 0 0) 6) ∧ Below w.heap.size w w' := by
  have HH := hide H
  have HRR := hide HR
  have HFF := hide HF
  have HBB := hide HB
  have hb' : ¬ (70 : Int) < (S.size : Int) := by omega
  clear H hbig HR HF HB
  by_cases hq : B = S
  · have hc : (!B.toList == S.toList) = false := by rw [hq]; simp
    simp only [if_pos hq]
    clear hq
    go_enter Try.func40, Try.ntmps40
    go_wp2_with fail
    refine (unhide HH).mono ?_
    rintro e w1 ⟨rfl, hb⟩
    have HG := hide ((unhide HRR) w1 hb)
    go_wp2_with fail
    refine (unhide HG).mono ?_
    rintro e w2 ⟨⟨oa, on, oc, rfl, hP⟩, hb2⟩
    have HG2 := hide ((unhide HFF) _ _ _ hP)
    have HPP := hide hP
    clear hP
    go_wp2_with fail
    refine (unhide HG2).mono ?_
    rintro e w3 ⟨rfl, hb3⟩
    have HG3 := hide ((unhide HBB) _ _ _ _ (unhide HPP) hb3)
    go_wp2_with fail
    refine (unhide HG3).mono ?_
    rintro e w4 ⟨rfl, hb4⟩
    have b4 := hb3.trans (hb4.mono hb3.size)
    have b1 := hb.trans (hb2.mono hb.size)
    have HE := hide (b1.trans (b4.mono b1.size))
    have HE1 := hide hb
    have HE4 := hide b4
    clear hb hb2 hb3 hb4 b1 b4
    go_wp2
    go_ret2
    exact ⟨⟨_, _, _, rfl, unhide HE1, unhide HPP, unhide HE4⟩, unhide HE⟩
  · have hc : (!B.toList == S.toList) = true := by
      simp only [Bool.not_eq_true', beq_eq_false_iff_ne]
      exact fun h => hq (toList_inj h)
    simp only [if_neg hq]
    clear hq
    go_enter Try.func40, Try.ntmps40
    go_wp2_with fail
    refine (unhide HH).mono ?_
    rintro e w1 ⟨rfl, hb⟩
    have HG := hide ((unhide HRR) w1 hb)
    go_wp2_with fail
    refine (unhide HG).mono ?_
    rintro e w2 ⟨⟨oa, on, oc, rfl, hP⟩, hb2⟩
    have HG2 := hide ((unhide HFF) _ _ _ hP)
    have HPP := hide hP
    clear hP
    go_wp2_with fail
    refine (unhide HG2).mono ?_
    rintro e w3 ⟨rfl, hb3⟩
    have HG3 := hide ((unhide HBB) _ _ _ _ (unhide HPP) hb3)
    go_wp2_with fail
    refine (unhide HG3).mono ?_
    rintro e w4 ⟨rfl, hb4⟩
    have b4 := hb3.trans (hb4.mono hb3.size)
    have b1 := hb.trans (hb2.mono hb.size)
    have HE := hide (b1.trans (b4.mono b1.size))
    have HE1 := hide hb
    have HE4 := hide b4
    clear hb hb2 hb3 hb4 b1 b4
    go_wp2
    go_ret2
    exact ⟨rfl, unhide HE⟩

theorem chk_zero {s : ByteArray} (hc : (Pt.chk (nx s) s.size).1 = 0) : Pt.chk (nx s) s.size = (0, 0) := by
  unfold Pt.chk at hc ⊢
  split at hc
  · cases hc
  · rename_i h1
    rw [if_neg h1]
    split at hc
    · rename_i h2
      rw [if_pos h2]
      split at hc
      · cases hc
      · rename_i h3
        rw [if_neg h3]
        split at hc
        · cases hc
        · rename_i h4
          rw [if_neg h4]
    · cases hc

theorem str_inj {a b : List UInt8} (h : str a = str b) : a = b := by
  have := congrArg (fun x : ByteArray => x.data.toList) h
  simpa using this

theorem refUn_any (s : ByteArray) (l : List UInt8) (w : World) :
    Calls Try.prog 40 #[.string s, .string (str l)] w fun e w' => ∃ O, e = uEnd O (uFull s l).1 ∧ Row w' w.heap.size O (uFull s l).2 ∧ Below w.heap.size w w' := by
  have H := ref_any s w
  by_cases hc : (Pt.chk (nx s) s.size).1 = 0
  · have hg := good_of hc
    rw [chk_zero hc] at H
    have hur : uFull s l = uRes (carryP rNum rTxt (nx s) (s.size + 1) 0 (l, [])) l := by simp [uFull, hc]
    rw [hur]
    by_cases hbig : 70 < l.length
    · have hr : uRes (carryP rNum rTxt (nx s) (s.size + 1) 0 (l, [])) l = (5, []) := by simp [uRes, hbig]
      rw [hr]
      refine (un_big s (str l) w (by rw [str_size]; exact hbig) H).mono ?_
      rintro e w' ⟨rfl, hb⟩
      exact ⟨_, rfl, row_nil _ _, hb⟩
    · have hsz : ¬ 70 < (str l).size := by rw [str_size]; exact hbig
      have HR : ∀ w1 : World, Calls Try.prog 62 #[.string s, .int .i64 0, .string (str l), .slice none 0 0] w1 (Or47 (RA w1 (carryP rNum qTxt (nx s) (s.size + 1) 0 (l, []))) (RB w1 (carryP rNum qTxt (nx s) (s.size + 1) 0 (l, [])))) :=
        fun w1 => rread_any s w1 hg.size (s.size + 1) 0 l [] _ w1 hg.ok ⟨World.ownsRow_nil _ _ _ _, Below.refl _ _, by simp only [List.length_nil]; omega⟩
      have hm := mate_any (nx s) (s.size + 1) 0 l []
      cases hq : carryP rNum qTxt (nx s) (s.size + 1) 0 (l, []) with
      | none =>
        have hr : uRes (carryP rNum rTxt (nx s) (s.size + 1) 0 (l, [])) l = (6, []) := by simp [uRes, hbig, hm.1 hq]
        rw [hr]
        rw [hq] at HR
        refine (un_none s (str l) w hsz H fun w1 _ => (HR w1).mono ?_).mono ?_
        · rintro e w' (⟨O, S', rfl, _, hb⟩ | ⟨O, S', rfl, l', v', h, _⟩)
          · exact ⟨⟨O, S', rfl⟩, hb⟩
          · cases h
        · rintro e w' ⟨rfl, hb⟩
          exact ⟨_, rfl, row_nil _ _, hb⟩
      | some x =>
        obtain ⟨l', v⟩ := x
        obtain ⟨v', ks, pre, T⟩ := hm.2 l' v hq
        have hv : v = v' := by have := T.items; simpa using this
        subst hv
        rw [hq] at HR
        by_cases h0 : l' = []
        · subst h0
          have hpre : l = pre := by have := T.bytes; simpa using this
          subst hpre
          have he := T.eaten []
          rw [List.append_nil] at he
          obtain ⟨_, s2⟩ := eat_small s _ _ hg.ok _ _ _ he
          have hK := kinds_of s2 T.same
          have hbk := T.back
          have hres : uRes (carryP rNum rTxt (nx s) (s.size + 1) 0 (l, [])) l = if str (bytesOf ks v) = str l then (0, v) else (6, []) := by
            rw [hbk]
            by_cases hE : l = bytesOf ks v
            · rw [if_pos hE, if_pos (by rw [← hE])]
              simp [uRes, hbig]
            · rw [if_neg hE, if_neg (fun h => hE (str_inj h).symm)]
              simp [uRes, hbig]
          have hvl : ∀ w1 O w2, IR w1 v [] O w2 → v.length ≤ 500 := by
            intro w1 O w2 h
            have := h.len
            simp only [List.length_nil] at this
            omega
          refine (un_yes s (str l) (str (bytesOf ks v)) w (fun w1 O w2 => IR w1 v [] O w2) hsz H (fun w1 _ => (HR w1).mono ?_) (fun w1 O w2 hP => ?_) (fun w1 O w2 w3 hP hb => ?_)).mono ?_
          · rintro e w' (⟨O, S', rfl, h, _⟩ | ⟨O, S', rfl, l', v', h, hS, hI⟩)
            · cases h
            · cases h
              obtain ⟨oa, on, oc, hsh⟩ := row_shape hI.own
              subst hsh
              subst hS
              exact ⟨⟨oa, on, oc, rfl, hI⟩, hI.below⟩
          · have hI := row_items hP.own
            obtain ⟨a, cap, hV, _, _⟩ := id hI
            have hlen := hvl _ _ _ hP
            have hv := value_any s O v hg.size (by omega) (s.size + 1) 0 0 w2 hg.ok (Nat.zero_le _) hI
            have hf := fits_any s O a cap v w2 hV _ hv
            rw [List.drop_zero, fits_eq, he] at hf
            exact hf
          · have hI := (row_items hP.own).below hb
            have hlen := hvl _ _ _ hP
            have ht := texts_any s O v w3 hg.size (by omega) hI (s.size + 1) 0 (.slice none 0 0) [] ks [] w3 hg.ok ⟨World.ownsRow_nil _ _ _ _, Below.refl _ _⟩ he
            exact bytes_any s O v ks w3 hI (by omega) hK ht
          · rw [hres]
            rintro e w' ⟨h, hb⟩
            by_cases hE : str (bytesOf ks v) = str l
            · rw [if_pos hE] at h ⊢
              obtain ⟨O, w1, w2, rfl, hb1, hI, hb2⟩ := h
              exact ⟨O, rfl, row_base (row_below' hI.own hb2) hb1.size, hb⟩
            · rw [if_neg hE] at h ⊢
              subst h
              exact ⟨_, rfl, row_nil _ _, hb⟩
        · have hr : uRes (carryP rNum rTxt (nx s) (s.size + 1) 0 (l, [])) l = (6, []) := by
            rw [T.back]
            by_cases hE : pre = bytesOf ks v
            · rw [if_pos hE]
              simp [uRes, hbig, h0]
            · rw [if_neg hE]
              simp [uRes, hbig]
          rw [hr]
          refine (un_left s (str l) (str l') w hsz (by rw [str_size]; exact fun h => h0 (List.eq_nil_of_length_eq_zero h)) H fun w1 _ => (HR w1).mono ?_).mono ?_
          · rintro e w' (⟨O, S', rfl, h, _⟩ | ⟨O, S', rfl, l'', v'', h, hS, hI⟩)
            · cases h
            · cases h
              obtain ⟨oa, on, oc, hsh⟩ := row_shape hI.own
              subst hsh
              subst hS
              exact ⟨⟨oa, on, oc, rfl⟩, hI.below⟩
          · rintro e w' ⟨rfl, hb⟩
            exact ⟨_, rfl, row_nil _ _, hb⟩
  · have hur : uFull s l = ((Pt.chk (nx s) s.size).1, []) := by simp [uFull, hc]
    rw [hur]
    refine (un_bad s (str l) w _ _ hc H).mono ?_
    rintro e w' ⟨rfl, hb⟩
    exact ⟨_, rfl, row_nil _ _, hb⟩

end Go.Proofs.Ytblomippkddgiaa.V
