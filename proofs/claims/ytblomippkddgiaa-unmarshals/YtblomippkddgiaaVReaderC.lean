/-
  The landed code's reader carries.
-/
import Derived.Test.YtblomippkddgiaaVReads5
namespace Go.Proofs.Ytblomippkddgiaa.V
open Go.RowKit

abbrev RSt := List UInt8 × List It
def rNum (lo hi : Int) (x : RSt) : Option (Int × RSt) := match x.1 with
  | a :: c :: r => if turned lo hi (num2 a c) < lo ∨ hi < turned lo hi (num2 a c) then none else some (turned lo hi (num2 a c), (r, x.2 ++ [(turned lo hi (num2 a c), ⟨#[]⟩)]))
  | _ => none
def rTxt (x : RSt) : Option RSt := match x.1 with
  | a :: c :: r => if num2 a c ≤ 14 ∧ num2 a c ≤ r.length then
      (if num2 a c % 2 = 0 then some (r.drop (num2 a c), x.2 ++ [(0, str (r.take (num2 a c)))])
       else match r.drop (num2 a c) with
        | p :: r' => if p = 0 then some (r', x.2 ++ [(0, str (r.take (num2 a c)))]) else none
        | [] => none)
      else none
  | _ => none
def reader (w0 : World) : Carrier RSt where
  tid := 120
  fnum := 121
  ftxt := 122
  er := 6
  ptr := ⟨w0.heap.size, 0, none⟩
  w0 := w0
  St := fun w c x O => ∃ Ov, RS w0 w x.1 Ov x.2 ∧ O = wOwn w0 Ov ∧ x.1.length ≤ 490 ∧ x.2.length ≤ c
  num := rNum
  txt := rTxt

theorem no_two {w0 w : World} {l : List UInt8} {O : Value} {v : List It} (h : RS w0 w l O v) (hn : ¬ 2 ≤ l.length) : Calls Try.prog 88 #[.pointer (some ⟨w0.heap.size, 0, none⟩)] w fun e w' => e = gaveUp 6 0 ∧ Below w0.heap.size w0 w' := by
  refine (twoBytes_no w0.heap.size l O w h.rd hn).mono ?_
  rintro e w' ⟨rfl, hb⟩
  exact ⟨rfl, h.below.trans hb⟩

theorem rnum_said (w0 w : World) (c : Nat) (l : List UInt8) (v : List It) (Ov : Value) (lo hi : Int) (h : RS w0 w l Ov v) (hl : l.length ≤ 490) (hv : v.length ≤ c) (hc : c ≤ 40000) :
    Calls Try.prog 121 #[.pointer (some ⟨w0.heap.size, 0, none⟩), .int .i64 lo, .int .i64 hi] w
      (OrN 6 ((reader w0).No (rNum lo hi (l, v) = none)) (fun i w' => ∃ x', rNum lo hi (l, v) = some (i, x') ∧ (reader w0).Lv (wOwn w0 Ov) (c + 1) x' w w')) := by
  have bad : rNum lo hi (l, v) = none → ∀ e w', e = gaveUp 6 0 ∧ Below w0.heap.size w0 w' → OrN 6 ((reader w0).No (rNum lo hi (l, v) = none)) (fun i w' => ∃ x', rNum lo hi (l, v) = some (i, x') ∧ (reader w0).Lv (wOwn w0 Ov) (c + 1) x' w w') e w' := by
    rintro hno e w' ⟨rfl, hb⟩
    exact Or.inl ⟨rfl, hno, hb⟩
  match l, h, hl, bad with
  | [], h, _, bad => exact (rnumber_none w0 w lo hi (no_two h (by simp))).mono (bad rfl)
  | [a], h, _, bad => exact (rnumber_none w0 w lo hi (no_two h (by simp))).mono (bad rfl)
  | a :: b :: r, h, hl, bad =>
    simp only [List.length_cons] at hl
    have H := two_said w0 w a b r Ov v h (by omega)
    by_cases hb : turned lo hi (num2 a b) < lo ∨ hi < turned lo hi (num2 a b)
    · exact (rnumber_bad w0 w r Ov v lo hi _ (num2_lt a b) hb H).mono (bad (by simp only [rNum]; rw [if_pos hb]))
    · refine (rnumber_ok w0 w r Ov v lo hi _ _ (num2_lt a b) rfl ⟨fun h => hb (Or.inl h), fun h => hb (Or.inr h)⟩ (by omega) H).mono ?_
      rintro e w' ⟨rfl, O', hrs, hwk⟩
      refine Or.inr ⟨_, rfl, (r, v ++ [(turned lo hi (num2 a b), ⟨#[]⟩)]), by simp only [rNum]; rw [if_neg hb], c + 1, wOwn w0 O', Nat.le_refl _, ⟨O', hrs, rfl, by simp only; omega, ?_⟩, hwk.kept⟩
      simp only [List.length_append, List.length_cons, List.length_nil]
      omega

theorem rtxt_said (w0 w : World) (c : Nat) (l : List UInt8) (v : List It) (Ov : Value) (h : RS w0 w l Ov v) (hl : l.length ≤ 490) (hv : v.length ≤ c) (hc : c ≤ 40000) :
    Calls Try.prog 122 #[.pointer (some ⟨w0.heap.size, 0, none⟩)] w
      (Or2 6 ((reader w0).No (rTxt (l, v) = none)) (fun w' => ∃ x', rTxt (l, v) = some x' ∧ (reader w0).Lv (wOwn w0 Ov) (c + 1) x' w w')) := by
  have bad : rTxt (l, v) = none → ∀ e w', e = gaveUp 6 0 ∧ Below w0.heap.size w0 w' → Or2 6 ((reader w0).No (rTxt (l, v) = none)) (fun w' => ∃ x', rTxt (l, v) = some x' ∧ (reader w0).Lv (wOwn w0 Ov) (c + 1) x' w w') e w' := by
    rintro hno e w' ⟨rfl, hb⟩
    exact Or.inl ⟨rfl, hno, hb⟩
  have good : ∀ r' S, rTxt (l, v) = some (r', v ++ [(0, S)]) → r'.length ≤ 490 → ∀ e w', (e = .returned (.tuple #[]) ∧ ∃ O', RS w0 w' r' O' (v ++ [(0, S)]) ∧ Wk w0.heap.size Ov O' w w') → Or2 6 ((reader w0).No (rTxt (l, v) = none)) (fun w' => ∃ x', rTxt (l, v) = some x' ∧ (reader w0).Lv (wOwn w0 Ov) (c + 1) x' w w') e w' := by
    rintro r' S hr hrl e w' ⟨rfl, O', hrs, hwk⟩
    refine Or.inr ⟨rfl, _, hr, c + 1, wOwn w0 O', Nat.le_refl _, ⟨O', hrs, rfl, hrl, ?_⟩, hwk.kept⟩
    simp only [List.length_append, List.length_cons, List.length_nil]
    omega
  match l, h, hl, bad, good with
  | [], h, _, bad, _ => exact (rtext_none w0 w (no_two h (by simp))).mono (bad rfl)
  | [a], h, _, bad, _ => exact (rtext_none w0 w (no_two h (by simp))).mono (bad rfl)
  | a :: b :: r, h, hl, bad, good =>
    simp only [List.length_cons] at hl
    have H := two_said w0 w a b r Ov v h (by omega)
    have hT : rTxt (a :: b :: r, v) = if num2 a b ≤ 14 ∧ num2 a b ≤ r.length then
        (if num2 a b % 2 = 0 then some (r.drop (num2 a b), v ++ [(0, str (r.take (num2 a b)))])
         else match r.drop (num2 a b) with
          | p :: r' => if p = 0 then some (r', v ++ [(0, str (r.take (num2 a b)))]) else none
          | [] => none)
        else none := rfl
    generalize num2 a b = n at H hT
    by_cases h14 : n ≤ 14
    · by_cases hs : n ≤ r.length
      · rw [if_pos ⟨h14, hs⟩] at hT
        by_cases he : n % 2 = 0
        · rw [if_pos he] at hT
          exact (rtext_even w0 w r Ov v n h14 hs (by omega) (by omega) he H).mono (good _ _ hT (by rw [List.length_drop]; omega))
        · rw [if_neg he] at hT
          cases hd : r.drop n with
          | nil =>
            rw [hd] at hT
            have : r.length = n := by
              have := congrArg List.length hd
              rw [List.length_drop] at this
              simp at this
              omega
            exact (rtext_end w0 w r Ov v n h14 this.symm (by omega) (by omega) H).mono (bad hT)
          | cons p r' =>
            rw [hd] at hT
            simp only at hT
            by_cases hp : p = 0
            · subst hp
              rw [if_pos rfl] at hT
              refine (rtext_odd w0 w r r' Ov v n h14 hs hd (by omega) (by omega) (by omega) H).mono (good _ _ hT ?_)
              have := congrArg List.length hd
              rw [List.length_drop] at this
              simp at this
              omega
            · rw [if_neg hp] at hT
              exact (rtext_pad w0 w r r' p Ov v n h14 hs hd hp (by omega) (by omega) H).mono (bad hT)
      · exact (rtext_short w0 w r Ov v n h14 hs H).mono (bad (by rw [hT, if_neg (fun h => hs h.2)]))
    · exact (rtext_long w0 w r Ov v n h14 H).mono (bad (by rw [hT, if_neg (fun h => h14 h.1)]))

set_option maxRecDepth 100000 in
theorem reader_carries (w0 : World) : Carries (reader w0) where
  below := by
    rintro w c x O ⟨Ov, h, _⟩
    exact h.below
  fresh := by
    rintro w c x O ⟨Ov, h, rfl, _⟩ k (rfl | hk)
    · exact ⟨Nat.le_refl _, h.rd.lt⟩
    · have := h.row hk
      exact ⟨by simp only [reader]; omega, this.2⟩
  go := by
    rintro w c x O w' ⟨Ov, h, r⟩ hb
    exact ⟨Ov, h.go hb, r⟩
  range := by
    rintro lo hi ⟨l, v⟩ n x' h
    simp only [reader, rNum] at h
    split at h
    · split at h
      · cases h
      · rename_i hb
        cases h
        omega
    · cases h
  mnum := ⟨fun _ => by kernel_rfl, fun _ _ => rfl⟩
  mtxt := ⟨fun _ => by kernel_rfl, fun _ _ => rfl⟩
  number := by
    rintro w c ⟨l, v⟩ O lo hi ⟨Ov, h, rfl, hl, hv⟩ hc _
    exact rnum_said w0 w c l v Ov lo hi h hl hv hc
  text := by
    rintro w c ⟨l, v⟩ O ⟨Ov, h, rfl, hl, hv⟩ hc
    exact rtxt_said w0 w c l v Ov h hl hv hc

end Go.Proofs.Ytblomippkddgiaa.V
