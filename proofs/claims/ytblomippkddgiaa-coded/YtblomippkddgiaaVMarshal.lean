/-
  Marshal, the landed code's and the document's: the same bytes, the same error.
-/
import Derived.Test.YtblomippkddgiaaVMarshalFace
import Derived.Test.YtblomippkddgiaaVTypes
namespace Go.Proofs.Ytblomippkddgiaa.V
open Go.RowKit

/- a text that is a type -/
structure Good (s : ByteArray) : Prop where
  size : s.size ≤ 40
  ok : Okp s (s.size + 1) 0
  dep : Pt.dep (nx s) (s.size + 1) 0 ≤ 4

theorem good_of {s : ByteArray} (h : (Pt.chk (nx s) s.size).1 = 0) : Good s := by
  unfold Pt.chk at h
  split at h
  · cases h
  · split at h
    · rename_i h1 h2
      split at h
      · cases h
      · split at h
        · cases h
        · exact ⟨by omega, ⟨Nat.zero_le _, by omega, h2⟩, by omega⟩
    · cases h

def ReadPost (s : ByteArray) (w : World) (e : Ending) (w' : World) : Prop :=
  (if (Pt.chk (nx s) s.size).1 = 0 then ∃ c0 c1 c2, e = .returned (.agg #[c0, c1, c2]) ∧ Rep w' (fun k => w.heap.size ≤ k) (nx s) (s.size + 1) 0 c0 c1 c2 else e = gaveUp (Pt.chk (nx s) s.size).1 (Pt.chk (nx s) s.size).2) ∧ Below w.heap.size w w'
theorem shape_any (s : ByteArray) (w : World) : Calls Try.prog 31 #[.string s] w (ReadPost s w) := by
  unfold ReadPost
  by_cases hs : s.size ≤ 40
  · have hn : ¬ 40 < s.size := by omega
    cases hT : (Pt.ty (nx s) (s.size + 1) 0).1 with
    | false =>
      have e1 : Pt.chk (nx s) s.size = (2, (Pt.ty (nx s) (s.size + 1) 0).2) := by simp [Pt.chk, hn, hT]
      rw [e1]
      exact read_wrong s w hs hT
    | true =>
      obtain ⟨_, hb, _⟩ := Pt.agree (g := nx s) (n := s.size) (fun p hp => nx_out hp) (s.size + 1) 0 0 1 0 [] (by omega) (by omega)
      obtain ⟨q1, q2⟩ := hb hT
      by_cases hq : (Pt.ty (nx s) (s.size + 1) 0).2 < s.size
      · have e1 : Pt.chk (nx s) s.size = (2, (Pt.ty (nx s) (s.size + 1) 0).2) := by simp [Pt.chk, hn, hT, hq]
        rw [e1]
        exact read_more s w hs hT hq
      · have H := read_end s w hs hT (by omega)
        by_cases h4 : 4 < Pt.dep (nx s) (s.size + 1) 0
        · have e1 : Pt.chk (nx s) s.size = (3, 0) := by simp [Pt.chk, hn, hT, hq, h4]
          rw [e1]
          simp only [h4, if_true] at H
          exact H
        · have e1 : Pt.chk (nx s) s.size = (0, 0) := by simp [Pt.chk, hn, hT, hq, h4]
          rw [e1]
          simp only [h4, if_false] at H
          exact H
  · have e1 : Pt.chk (nx s) s.size = (1, 0) := by
      have : 40 < s.size := by omega
      simp [Pt.chk, this]
    rw [e1]
    exact read_long s w hs

/- Marshal's answer: the error, the bytes -/
def mRes (s : ByteArray) (v : List It) : Nat × List UInt8 := if (Pt.chk (nx s) s.size).1 = 0 then wRes (eat (nx s) (s.size + 1) 0 v) v else ((Pt.chk (nx s) s.size).1, [])
abbrev mEnd (r : Nat × List UInt8) : Ending := .returned (.tuple #[.string ⟨r.2.toArray⟩, .int .i64 r.1])

theorem wRes_no {e : Eaten} {v : List It} (h : ¬ (wRes e v).1 = 0) : (wRes e v).2 = [] := by
  unfold wRes at h ⊢
  split
  · rfl
  · rename_i ks r
    simp only at h ⊢
    split
    · rename_i hr
      split
      · rfl
      · rename_i hb
        rw [if_pos hr, if_neg hb] at h
        exact absurd rfl h
    · rfl

theorem marshal_any (s : ByteArray) (V : Value) (v : List It) (w : World) (hI : Items w V v) (hn : v.length ≤ 9000000000000) :
    Calls Try.prog 12 #[.string s, V] w fun e w' => e = mEnd (mRes s v) ∧ Below w.heap.size w w' := by
  have hm : Below w.heap.size w (mface w) := ((Below.refl _ _).alloc (Nat.le_refl _) _).alloc (by simp) _
  have H := shape_any s (mface w)
  unfold ReadPost at H
  by_cases hc : (Pt.chk (nx s) s.size).1 = 0
  · have hg := good_of hc
    simp only [hc, if_true] at H
    have hmr : mRes s v = wRes (eat (nx s) (s.size + 1) 0 v) v := by simp [mRes, hc]
    rw [hmr]
    have H1 : Calls Try.prog 31 #[.string s] (mface w) fun e w' => ∃ T, e = .returned T ∧ (∃ c0 c1 c2, T = .agg #[c0, c1, c2] ∧ Rep w' (fun k => (mface w).heap.size ≤ k) (nx s) (s.size + 1) 0 c0 c1 c2) ∧ Below (mface w).heap.size (mface w) w' := by
      refine H.mono ?_
      rintro e w' ⟨⟨c0, c1, c2, rfl, hr⟩, hb⟩
      exact ⟨_, rfl, ⟨c0, c1, c2, rfl, hr⟩, hb⟩
    have H2 : ∀ T w', (∃ c0 c1 c2, T = .agg #[c0, c1, c2] ∧ Rep w' (fun k => (mface w).heap.size ≤ k) (nx s) (s.size + 1) 0 c0 c1 c2) → Below (mface w).heap.size (mface w) w' → Calls Try.prog 34 #[T, V] w' fun e w'' => WPost (wRes (eat (nx s) (s.size + 1) 0 v) v) e ∧ Below w'.heap.size w' w'' := by
      rintro T w' ⟨c0, c1, c2, rfl, hr⟩ hb
      exact write_any s _ c0 c1 c2 V v w' hr hg.ok hg.dep ((hI.below hm).below hb) hn
    generalize hres : wRes (eat (nx s) (s.size + 1) 0 v) v = res at *
    have hno : ¬ res.1 = 0 → res.2 = [] := by rw [← hres]; exact wRes_no
    obtain ⟨n, bs⟩ := res
    simp only at hno
    by_cases h0 : n = 0
    · subst h0
      simp only [WPost, if_true] at H2
      exact marshal_good s V w _ _ H1 H2
    · have := hno h0
      subst this
      simp only [WPost, if_neg h0] at H2
      exact marshal_worse s V w n 0 _ H1 H2
  · simp only [hc, if_false] at H
    have hmr : mRes s v = ((Pt.chk (nx s) s.size).1, []) := by simp [mRes, hc]
    rw [hmr]
    exact marshal_bad s V w _ _ H

theorem fits_eq {g : Nat → Nat} {f p : Nat} {v : List It} : (vI 0 (eat g f p v) == (v.length : Int)) = (match eat g f p v with | none => false | some (_, r) => r.isEmpty) := by
  cases he : eat g f p v with
  | none => simp [vI]
  | some a =>
    obtain ⟨ks, r⟩ := a
    obtain ⟨h1, h2⟩ := eat_heads g f p v ks r he
    have hl : r.length = v.length - ks.length := by rw [h1, List.length_drop]
    simp only [vI]
    cases r with
    | nil => simp at hl ⊢; omega
    | cons y r => simp at hl ⊢; omega

theorem kinds_of {ks : List Bool} {v : List It} (h : KindsIn ks v) (hl : ks.length = v.length) : Kinds ks v := ⟨hl, h⟩

set_option maxRecDepth 100000 in
set_option maxHeartbeats 400000 in
theorem ref_walk_bad (s : ByteArray) (V : Value) (w : World) (n q : Nat) (hn : ¬ n = 0) (H : Calls Try.prog 32 #[.string s] w fun e w' => e = chkTuple (n, q) ∧ Below w.heap.size w w') :
    Calls Try.prog 36 #[.string s, V] w fun e w' => e = mEnd (n, []) ∧ Below w.heap.size w w' := by
  have HH := hide H
  have hnn : ((n : Int) != 0) = true := by simp; omega
  clear H
  go_enter Try.func36, Try.ntmps36
  go_wp2_with fail
  refine (unhide HH).mono ?_
  rintro e w1 ⟨rfl, hb⟩
  go_wp2
  go_ret2
  exact ⟨rfl, hb⟩

set_option maxRecDepth 100000 in
set_option maxHeartbeats 400000 in
theorem ref_walk_no (s : ByteArray) (V : Value) (w : World) (H : Calls Try.prog 32 #[.string s] w fun e w' => e = chkTuple (0, 0) ∧ Below w.heap.size w w')
    (HF : ∀ w1, Below w.heap.size w w1 → Calls Try.prog 59 #[.string s, V] w1 fun e w' => e = .returned (.bool false) ∧ Below w1.heap.size w1 w') :
    Calls Try.prog 36 #[.string s, V] w fun e w' => e = mEnd (4, []) ∧ Below w.heap.size w w' := by
  have HH := hide H
  have HHF := hide HF
  clear H HF
  go_enter Try.func36, Try.ntmps36
  go_wp2_with fail
  refine (unhide HH).mono ?_
  rintro e w1 ⟨rfl, hb⟩
  have HG := hide ((unhide HHF) w1 hb)
  go_wp2_with fail
  refine (unhide HG).mono ?_
  rintro e w2 ⟨rfl, hb2⟩
  go_wp2
  go_ret2
  exact ⟨rfl, hb.trans (hb2.mono hb.size)⟩

set_option maxRecDepth 100000 in
set_option maxHeartbeats 400000 in
theorem ref_walk_yes (s : ByteArray) (V : Value) (w : World) (out : List UInt8) (hol : out.length ≤ 1000000) (H : Calls Try.prog 32 #[.string s] w fun e w' => e = chkTuple (0, 0) ∧ Below w.heap.size w w')
    (HF : ∀ w1, Below w.heap.size w w1 → Calls Try.prog 59 #[.string s, V] w1 fun e w' => e = .returned (.bool true) ∧ Below w1.heap.size w1 w')
    (HB : ∀ w1, Below w.heap.size w w1 → Calls Try.prog 60 #[.string s, V] w1 fun e w' => e = .returned (.string ⟨out.toArray⟩) ∧ Below w1.heap.size w1 w') :
    Calls Try.prog 36 #[.string s, V] w fun e w' => e = mEnd (if 70 < out.length then (5, []) else (0, out)) ∧ Below w.heap.size w w' := by
  have HH := hide H
  have HHF := hide HF
  have HHB := hide HB
  obtain ⟨S, hS⟩ : ∃ S : ByteArray, S = ⟨out.toArray⟩ := ⟨_, rfl⟩
  have hsz : S.size = out.length := by rw [hS]; simp [ByteArray.size]
  rw [← hS] at HHB
  have HS := hide hS
  clear H HF HB hS
  by_cases hb : 70 < out.length
  · rw [if_pos hb]
    have hb' : (70 : Int) < (S.size : Int) := by omega
    go_enter Try.func36, Try.ntmps36
    go_wp2_with fail
    refine (unhide HH).mono ?_
    rintro e w1 ⟨rfl, hb1⟩
    have HG := hide ((unhide HHF) w1 hb1)
    go_wp2_with fail
    refine (unhide HG).mono ?_
    rintro e w2 ⟨rfl, hb2⟩
    have hb3 := hb1.trans (hb2.mono hb1.size)
    have HG2 := hide ((unhide HHB) w2 hb3)
    go_wp2_with fail
    refine (unhide HG2).mono ?_
    rintro e w3 ⟨rfl, hb4⟩
    go_wp2
    go_ret2
    exact ⟨rfl, hb3.trans (hb4.mono hb3.size)⟩
  · rw [if_neg hb]
    have hb' : ¬ (70 : Int) < (S.size : Int) := by omega
    go_enter Try.func36, Try.ntmps36
    go_wp2_with fail
    refine (unhide HH).mono ?_
    rintro e w1 ⟨rfl, hb1⟩
    have HG := hide ((unhide HHF) w1 hb1)
    go_wp2_with fail
    refine (unhide HG).mono ?_
    rintro e w2 ⟨rfl, hb2⟩
    have hb3 := hb1.trans (hb2.mono hb1.size)
    have HG2 := hide ((unhide HHB) w2 hb3)
    go_wp2_with fail
    refine (unhide HG2).mono ?_
    rintro e w3 ⟨rfl, hb4⟩
    go_wp2
    go_ret2
    refine ⟨?_, hb3.trans (hb4.mono hb3.size)⟩
    rw [unhide HS]
    rfl

theorem refMarshal_any (s : ByteArray) (V : Value) (v : List It) (w : World) (hI : Items w V v) (hn : v.length ≤ 9000000000000) :
    Calls Try.prog 36 #[.string s, V] w fun e w' => e = mEnd (mRes s v) ∧ Below w.heap.size w w' := by
  have H := ref_any s w
  by_cases hc : (Pt.chk (nx s) s.size).1 = 0
  · have hg := good_of hc
    have hc2 : Pt.chk (nx s) s.size = (0, 0) := by
      unfold Pt.chk at hc ⊢
      split at hc
      · cases hc
      · rename_i h1
        rw [if_neg h1]
        split at hc
        · rename_i h2
          rw [if_pos h2]
          split at hc
          · cases hc
          · rename_i h3
            rw [if_neg h3]
            split at hc
            · cases hc
            · rename_i h4
              rw [if_neg h4]
        · cases hc
    rw [hc2] at H
    have hmr : mRes s v = wRes (eat (nx s) (s.size + 1) 0 v) v := by simp [mRes, hc]
    rw [hmr]
    obtain ⟨a, cap, hV, _, _⟩ := id hI
    have HF : ∀ w1, Below w.heap.size w w1 → Calls Try.prog 59 #[.string s, V] w1 fun e w' => e = .returned (.bool (vI 0 (eat (nx s) (s.size + 1) 0 v) == (v.length : Int))) ∧ Below w1.heap.size w1 w' := by
      intro w1 hb
      have hv := value_any s V v hg.size hn (s.size + 1) 0 0 w1 hg.ok (Nat.zero_le _) (hI.below hb)
      exact fits_any s V a cap v w1 hV _ hv
    rw [fits_eq] at HF
    cases he : eat (nx s) (s.size + 1) 0 v with
    | none =>
      simp only [he] at HF
      exact ref_walk_no s V w H HF
    | some x =>
      obtain ⟨ks, r⟩ := x
      simp only [he] at HF
      cases r with
      | cons y r => exact ref_walk_no s V w H HF
      | nil =>
        obtain ⟨h1, h2⟩ := eat_heads _ _ _ _ _ _ he
        obtain ⟨s1, s2⟩ := eat_small s _ _ hg.ok _ _ _ he
        have hl : ks.length = v.length := by
          have := congrArg List.length h1
          rw [List.length_drop] at this
          simp at this
          omega
        have hM : 10 ^ Pt.dep (nx s) (s.size + 1) 0 ≤ 10 ^ 4 := Nat.pow_le_pow_right (by decide) hg.dep
        have hK := kinds_of s2 hl
        have hbl := bytesOf_le hK v.length (Nat.le_refl _)
        rw [List.take_of_length_le (by omega), List.take_of_length_le (by omega)] at hbl
        refine (ref_walk_yes s V w (bytesOf ks v) (by omega) H HF fun w1 hb => ?_).mono ?_
        · have ht := texts_any s V v w1 hg.size hn (hI.below hb) (s.size + 1) 0 (.slice none 0 0) [] ks [] w1 hg.ok ⟨World.ownsRow_nil _ _ _ _, Below.refl _ _⟩ he
          exact bytes_any s V v ks w1 (hI.below hb) (by omega) hK ht
        · rintro e w' ⟨rfl, hb⟩
          exact ⟨rfl, hb⟩
  · have hmr : mRes s v = ((Pt.chk (nx s) s.size).1, []) := by simp [mRes, hc]
    rw [hmr]
    exact ref_walk_bad s V w _ _ hc H

end Go.Proofs.Ytblomippkddgiaa.V
