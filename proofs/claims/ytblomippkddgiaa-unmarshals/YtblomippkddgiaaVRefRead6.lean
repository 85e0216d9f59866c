/-
  The document's own 'read': it does what 'carryP' says, with whatever byte behind an odd string.
-/
import Derived.Test.YtblomippkddgiaaVRefRead5
namespace Go.Proofs.Ytblomippkddgiaa.V
open Go.RowKit

def RA (w0 : World) (r : Option RSt) (w' : World) : Prop := r = none ∧ Below w0.heap.size w0 w'
def RB (w0 : World) (r : Option RSt) (O' : Value) (S' : ByteArray) (w' : World) : Prop := ∃ l' v', r = some (l', v') ∧ S' = str l' ∧ IR w0 v' l' O' w'
def ReadSaid (s : ByteArray) (w0 : World) (f : Nat) : Prop := ∀ (p : Nat) (l : List UInt8) (v : List It) (O : Value) (w : World), Okp s f p → IR w0 v l O w →
  Calls Try.prog 62 #[.string s, .int .i64 p, .string (str l), O] w (Or47 (RA w0 (carryP rNum qTxt (nx s) f p (l, v))) (RB w0 (carryP rNum qTxt (nx s) f p (l, v))))

theorem RB.go {w0 w w' : World} {r : Option RSt} {O : Value} {S : ByteArray} (h : RB w0 r O S w) (hb : Below w.heap.size w w') : RB w0 r O S w' := by
  obtain ⟨l', v', h1, h2, h3⟩ := h
  exact ⟨l', v', h1, h2, h3.go hb⟩

theorem seq_step {s : ByteArray} {w0 : World} {f : Nat} (ih : ReadSaid s w0 f) {qs : List Nat} {k q : Nat} (hq : qs[k]? = some q) (ho : Okp s f q) (x : RSt) (O : Value) (S : ByteArray) (w : World) (h : RB w0 (seqC (carryP rNum qTxt (nx s) f) (qs.take k) x) O S w) :
    Calls Try.prog 62 #[.string s, .int .i64 q, .string S, O] w (Or47 (RA w0 (seqC (carryP rNum qTxt (nx s) f) qs x)) (RB w0 (seqC (carryP rNum qTxt (nx s) f) (qs.take (k + 1)) x))) := by
  obtain ⟨l', v', h1, rfl, h3⟩ := h
  have hs : seqC (carryP rNum qTxt (nx s) f) (qs.take (k + 1)) x = carryP rNum qTxt (nx s) f q (l', v') := by rw [seqC_take hq, h1]; rfl
  refine (ih q l' v' O w ho h3).mono ?_
  rintro e w' (⟨O', S', rfl, hn, hb⟩ | ⟨O', S', rfl, hB⟩)
  · exact Or.inl ⟨O', S', rfl, seqC_none (k := k + 1) (hs.trans hn), hb⟩
  · exact Or.inr ⟨O', S', rfl, by rw [hs]; exact hB⟩

theorem or_end {w0 : World} {r r' : Option RSt} {r2 : Option RSt} (h : r = r2) (h' : r' = r2) : ∀ e w', Or47 (RA w0 r) (RB w0 r') e w' → Or47 (RA w0 r2) (RB w0 r2) e w' := by
  subst h
  subst h'
  exact fun _ _ h => h

theorem turn_eq (s : ByteArray) (f p n : Nat) (hn : n < 65536) : turned (loOf (nx s p)) (hiOf (nx s) f p) n = rturn (loOf (nx s p)) n ∧ ¬ rturn (loOf (nx s p)) n < loOf (nx s p) := by
  unfold turned rturn
  by_cases h : nx s p = 105
  · have h1 : loOf (nx s p) = -32768 := by simp [loOf, h]
    have h2 : hiOf (nx s) f p = 32767 := by simp [hiOf, h]
    rw [h1, h2]
    split <;> split <;> omega
  · have h1 : loOf (nx s p) = 0 := by simp [loOf, h]
    rw [h1]
    split <;> split <;> omega

theorem most_any (s : ByteArray) (f p : Nat) (ho : Okp s (f + 1) p) (hs : s.size ≤ 40) (h97 : ¬ nx s p = 97) (h114 : ¬ nx s p = 114) (h115 : ¬ nx s p = 115) :
    ∀ w, Calls Try.prog 82 #[.string s, .int .i64 p] w fun e w' => e = .returned (.tuple #[.int .i64 (loOf (nx s p)), .int .i64 (hiOf (nx s) f p)]) ∧ Below w.heap.size w w' := by
  intro w
  have hp := ho.lt
  rcases okp_cases ho with (h | h | h | h) | ⟨h, h1, h2, h3⟩ | ⟨h, _⟩ | ⟨h, h1, h2, h3, _⟩ | h
  · exact most_98 s f p w hp h
  · exact most_99 s f p w hp h
  · exact most_105 s f p w hp h
  · omega
  · exact most_101 s f p w h1 hs h (by omega)
  · omega
  · exact most_113 s f p w h1 hs h h2
  · exact most_u s f p w h hs (by have := h.here; omega)

theorem rread_any (s : ByteArray) (w0 : World) (hs : s.size ≤ 40) : ∀ f, ReadSaid s w0 f := by
  intro f
  induction f with
  | zero => intro p l v O w ho; have := ho.fuel; omega
  | succ f ih =>
    intro p l v O w ho hI
    have hp := ho.lt
    have hkl := kids_len (nx s) f p
    by_cases h97 : nx s p = 97
    · have hsub : p + 1 < s.size ∧ 49 ≤ nx s (p + 1) ∧ nx s (p + 1) ≤ 57 ∧ Okp s f (p + 2) := by
        rcases okp_cases ho with (h | h | h | h) | ⟨h, _⟩ | ⟨h, h1, h2, h3, h4⟩ | ⟨h, _⟩ | h
        · omega
        · omega
        · omega
        · omega
        · omega
        · exact ⟨h1, h2, h3, h4⟩
        · omega
        · have := h.here; omega
      obtain ⟨n, hn⟩ : ∃ n, n = nx s (p + 1) - 48 := ⟨_, rfl⟩
      have hE : carryP rNum qTxt (nx s) (f + 1) p (l, v) = seqC (carryP rNum qTxt (nx s) f) (List.replicate n (p + 2)) (l, v) := by simp [carryP, h97, hn]
      refine (rread_list s p n (str l) O w (RA w0 (seqC (carryP rNum qTxt (nx s) f) (List.replicate n (p + 2)) (l, v))) (fun k => RB w0 (seqC (carryP rNum qTxt (nx s) f) ((List.replicate n (p + 2)).take k) (l, v))) hp (Or.inl h97) (by omega) ⟨l, v, rfl, rfl, hI⟩ (fun k O S w w' h hb => h.go hb) (fun w' => ?_) (fun k hk => ⟨p + 2, fun w' => ?_, fun O S w h => seq_step ih (by rw [List.getElem?_replicate, if_pos hk]) hsub.2.2.2 _ _ _ _ h⟩)).mono (or_end hE.symm ?_)
      · have h := inner_a s p w' hsub.1 h97 (by omega) hs
        rw [show (n : Int) = (nx s (p + 1) : Int) - 48 by omega]
        exact h
      · exact within_a s p k w' hp h97 hs
      · rw [hE, List.take_of_length_le (by simp)]
    · by_cases h114 : nx s p = 114
      · have hl : Okl s f p := ⟨Or.inl h114, ho⟩
        have hE : carryP rNum qTxt (nx s) (f + 1) p (l, v) = seqC (carryP rNum qTxt (nx s) f) (Pt.kids (nx s) f p) (l, v) := by simp [carryP, h114]
        refine (rread_list s p (Pt.kids (nx s) f p).length (str l) O w (RA w0 (seqC (carryP rNum qTxt (nx s) f) (Pt.kids (nx s) f p) (l, v))) (fun k => RB w0 (seqC (carryP rNum qTxt (nx s) f) ((Pt.kids (nx s) f p).take k) (l, v))) hp (Or.inr h114) (by omega) ⟨l, v, rfl, rfl, hI⟩ (fun k O S w w' h hb => h.go hb) (fun w' => inner_r s f p w' hl hs) (fun k hk => ?_)).mono (or_end hE.symm ?_)
        · obtain ⟨q, hq⟩ : ∃ q, (Pt.kids (nx s) f p)[k]? = some q := ⟨_, List.getElem?_eq_getElem hk⟩
          refine ⟨q, fun w' => ?_, fun O S w h => seq_step ih hq (okl_kids hl q (List.mem_of_getElem? hq)).2 _ _ _ _ h⟩
          have h := within_r s f p k w' hl hs (by omega)
          have hpo : partOf (Pt.kids (nx s) f p) (k : Int) = q := by
            unfold partOf
            rw [if_pos (by omega), Int.toNat_natCast, hq]
            rfl
          rw [hpo] at h
          exact h
        · rw [hE, List.take_length]
      · by_cases hsh : 2 ≤ l.length
        · match l, hI, hsh with
          | a :: c :: r, hI, _ =>
            have hT := twos a c r
            have hn := num2_lt a c
            have hlen := hI.len
            simp only [List.length_cons] at hlen
            by_cases h115 : nx s p = 115
            · have hE : carryP rNum qTxt (nx s) (f + 1) p (a :: c :: r, v) = if num2 a c ≤ 14 ∧ num2 a c + num2 a c % 2 ≤ r.length then some (r.drop (num2 a c + num2 a c % 2), v ++ [(0, str (r.take (num2 a c)))]) else none := by simp [carryP, h115, qTxt]
              generalize num2 a c = n at hT hn hE
              by_cases hfit : n ≤ 14 ∧ n + n % 2 ≤ r.length
              · rw [if_pos hfit] at hE
                refine (rread_s_ok s p (str (a :: c :: r)) (str r) (str (r.take n)) (str (r.drop (n + n % 2))) n a c O w w0 v (a :: c :: r) (r.drop (n + n % 2)) hp h115 hT hfit.1 (by rw [str_size]; exact hfit.2) (by rw [str_extract]; simp) (by rw [str_extract, str_size, List.take_of_length_le (by rw [List.length_drop]; omega)]) hI (by rw [List.length_drop]; simp only [List.length_cons]; omega)).mono ?_
                rintro e w' ⟨O1, rfl, h⟩
                exact Or.inr ⟨_, _, rfl, _, _, hE, rfl, h⟩
              · rw [if_neg hfit] at hE
                refine (rread_s_no s p (str (a :: c :: r)) (str r) n a c O w hp h115 hT (by rw [str_size]; omega) hn).mono ?_
                rintro e w' ⟨rfl, q, rfl⟩
                exact Or.inl ⟨_, _, rfl, hE, below_drewN hI.below q⟩
            · have hE : carryP rNum qTxt (nx s) (f + 1) p (a :: c :: r, v) = (rNum (loOf (nx s p)) (hiOf (nx s) f p) (a :: c :: r, v)).bind fun x => seqC (carryP rNum qTxt (nx s) f) (behindOf (nx s) f p x.1) x.2 := by rw [carryP_num _ _ _ _ _ h115 h97 h114]
              obtain ⟨te, tl⟩ := turn_eq s f p (num2 a c) hn
              have hR : rNum (loOf (nx s p)) (hiOf (nx s) f p) (a :: c :: r, v) = if hiOf (nx s) f p < rturn (loOf (nx s p)) (num2 a c) then none else some (rturn (loOf (nx s p)) (num2 a c), (r, v ++ [(rturn (loOf (nx s p)) (num2 a c), ⟨#[]⟩)])) := by
                simp only [rNum]
                rw [te]
                by_cases hb : hiOf (nx s) f p < rturn (loOf (nx s p)) (num2 a c)
                · rw [if_pos (Or.inr hb), if_pos hb]
                · rw [if_neg (by omega), if_neg hb]
              rw [hR] at hE
              have HM := most_any s f p ho hs h97 h114 h115
              clear te hR
              generalize num2 a c = n at hT hn hE tl
              by_cases hno : hiOf (nx s) f p < rturn (loOf (nx s p)) n
              · rw [if_pos hno] at hE
                refine (rread_n_no s p (str (a :: c :: r)) (str r) n a c O w _ _ _ hp h97 h114 h115 hT hn rfl hno HM).mono ?_
                rintro e w' ⟨rfl, hb⟩
                exact Or.inl ⟨_, _, rfl, hE, hI.below.trans (hb.mono hI.below.size)⟩
              · rw [if_neg hno, Option.bind_some] at hE
                by_cases h117 : nx s p = 117
                · have hlo : loOf (nx s p) = 0 := by rw [h117]; rfl
                  have hrt : rturn (loOf (nx s p)) n = n := by rw [hlo]; simp [rturn]
                  have hl : Okl s f p := ⟨Or.inr h117, ho⟩
                  have hhi : hiOf (nx s) f p = ((Pt.kids (nx s) f p).length : Int) - 1 := by simp [hiOf, h117]
                  rw [hrt] at hE hno
                  rw [hlo] at HM
                  obtain ⟨q, hq⟩ : ∃ q, (Pt.kids (nx s) f p)[n]? = some q := ⟨_, List.getElem?_eq_getElem (by omega)⟩
                  have hpo : partOf (Pt.kids (nx s) f p) (n : Int) = q := by
                    unfold partOf
                    rw [if_pos (by omega), Int.toNat_natCast, hq]
                    rfl
                  have hqo := okl_kids hl q (List.mem_of_getElem? hq)
                  have hE2 : carryP rNum qTxt (nx s) (f + 1) p (a :: c :: r, v) = carryP rNum qTxt (nx s) f q (r, v ++ [((n : Int), ⟨#[]⟩)]) := by
                    rw [hE]
                    simp only [behindOf, if_pos h117, hpo, seqC]
                    cases carryP rNum qTxt (nx s) f q (r, v ++ [((n : Int), ⟨#[]⟩)]) <;> rfl
                  rw [hE2]
                  refine rread_u s p q (str (a :: c :: r)) (str r) n a c O w w0 v (a :: c :: r) r _ _ _ hp h117 hT hn hno hI (by simp only [List.length_cons]; omega) HM (fun w' => ?_) (fun O1 w1 h1 => ih q r _ O1 w1 hqo.2 h1)
                  rw [← hpo]
                  exact part_any s f p n w' hl hs (by omega) (by omega)
                · by_cases h113 : nx s p = 113
                  · have hlo : loOf (nx s p) = 0 := by rw [h113]; rfl
                    have hrt : rturn (loOf (nx s p)) n = n := by rw [hlo]; simp [rturn]
                    rw [hrt] at hE hno
                    rw [hlo] at HM
                    have hsub : Okp s f (p + 2) := by
                      rcases okp_cases ho with (h | h | h | h) | ⟨h, _⟩ | ⟨h, _⟩ | ⟨h, h1, h2, h3, h4⟩ | h
                      · omega
                      · omega
                      · omega
                      · omega
                      · omega
                      · omega
                      · exact h4
                      · have := h.here; omega
                    have hE2 : carryP rNum qTxt (nx s) (f + 1) p (a :: c :: r, v) = seqC (carryP rNum qTxt (nx s) f) (List.replicate n (p + 2)) (r, v ++ [((n : Int), ⟨#[]⟩)]) := by
                      rw [hE]
                      simp only [behindOf, if_neg h117, if_pos h113, Int.toNat_natCast]
                    refine (rread_q s p (str (a :: c :: r)) (str r) n a c O w w0 v (a :: c :: r) r _ (RA w0 (seqC (carryP rNum qTxt (nx s) f) (List.replicate n (p + 2)) (r, v ++ [((n : Int), (⟨#[]⟩ : ByteArray))]))) (fun k => RB w0 (seqC (carryP rNum qTxt (nx s) f) ((List.replicate n (p + 2)).take k) (r, v ++ [((n : Int), (⟨#[]⟩ : ByteArray))]))) hp hs h113 hT hn hno hI (by simp only [List.length_cons]; omega) HM (fun O1 w1 h1 => ⟨_, _, rfl, rfl, h1⟩) (fun k O S w hk h => ?_)).mono (or_end hE2.symm ?_)
                    · have h2 := seq_step ih (qs := List.replicate n (p + 2)) (q := p + 2) (by rw [List.getElem?_replicate, if_pos hk]) hsub (r, v ++ [((n : Int), ⟨#[]⟩)]) O S w h
                      rw [show ((p + 2 : Nat) : Int) = (p : Int) + 2 by omega] at h2
                      exact h2
                    · rw [hE2, List.take_of_length_le (by simp)]
                  · have hE2 : carryP rNum qTxt (nx s) (f + 1) p (a :: c :: r, v) = some (r, v ++ [(rturn (loOf (nx s p)) n, ⟨#[]⟩)]) := by
                      rw [hE]
                      simp only [behindOf, if_neg h117, if_neg h113, seqC]
                    refine (rread_leaf s p (str (a :: c :: r)) (str r) n a c O w w0 v (a :: c :: r) r _ _ _ hp h97 h114 h115 h117 h113 hT hn rfl hno hI (by simp only [List.length_cons]; omega) HM).mono ?_
                    rintro e w' ⟨O1, rfl, h⟩
                    exact Or.inr ⟨_, _, rfl, _, _, hE2, rfl, h⟩
        · have hno : carryP rNum qTxt (nx s) (f + 1) p (l, v) = none := by
            match l, hsh with
            | [], _ => by_cases h115 : nx s p = 115 <;> simp [carryP, h97, h114, h115, qTxt, rNum]
            | [a], _ => by_cases h115 : nx s p = 115 <;> simp [carryP, h97, h114, h115, qTxt, rNum]
            | a :: c :: r, h => simp at h
          refine (rread_short s p (str l) O w hp h97 h114 (by rw [str_size]; exact hsh)).mono ?_
          rintro e w' ⟨rfl, rfl⟩
          exact Or.inl ⟨_, _, rfl, hno, hI.below⟩

end Go.Proofs.Ytblomippkddgiaa.V
