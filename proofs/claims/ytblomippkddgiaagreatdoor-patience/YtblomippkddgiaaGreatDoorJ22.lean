/-
  Joined: VReturn RServ.
-/
import Derived.Test.YtblomippkddgiaaGreatDoorJ21
/-
  Plain mathematics: a value's bytes are read as this value; with a byte less or more they are no value's.
-/
namespace Go.Proofs.YtblomippkddgiaaGreatDoor.V
open Go.RowKit

def Ret (E : List It → Eaten) (G : RSt → Option RSt) : Prop := ∀ v ks r, E v = some (ks, r) → KindsIn ks v → ∀ e it, G (bytesOf ks v ++ e, it) = some (e, it ++ v.take ks.length)

theorem kinds_left {k1 k2 : List Bool} {v : List It} (h : KindsIn (k1 ++ k2) v) : KindsIn k1 v := fun i k x hk hx => h i k x (by rw [List.getElem?_append_left (List.getElem?_eq_some_iff.1 hk).1]; exact hk) hx
theorem kinds_right {k1 k2 : List Bool} {v : List It} (h : KindsIn (k1 ++ k2) v) : KindsIn k2 (v.drop k1.length) := fun i k x hk hx => h (k1.length + i) k x (by rw [List.getElem?_append_right (by omega), Nat.add_sub_cancel_left]; exact hk) (by rw [List.getElem?_drop] at hx; exact hx)

theorem ret_seq {E : Nat → List It → Eaten} {G : Nat → RSt → Option RSt} : ∀ qs : List Nat, (∀ q ∈ qs, Heads (E q)) → (∀ q ∈ qs, Ret (E q) (G q)) → Ret (seqE E qs) (seqC G qs) := by
  intro qs
  induction qs with
  | nil =>
    intro _ _ v ks r h _ e it
    simp only [seqE, Option.some.injEq, Prod.mk.injEq] at h
    obtain ⟨rfl, rfl⟩ := h
    simp [seqC, bytesOf]
  | cons q qs ih =>
    intro hH hR v ks r h hK e it
    simp only [seqE] at h
    cases hE : E q v with
    | none => rw [hE] at h; cases h
    | some a =>
      obtain ⟨k1, r1⟩ := a
      rw [hE] at h
      simp only at h
      cases hS : seqE E qs r1 with
      | none => rw [hS] at h; cases h
      | some a =>
        obtain ⟨k2, r2⟩ := a
        rw [hS] at h
        simp only [joinE, Option.some.injEq, Prod.mk.injEq] at h
        obtain ⟨rfl, rfl⟩ := h
        obtain ⟨h1, h2⟩ := hH q (List.mem_cons_self ..) v k1 r1 hE
        subst h1
        rw [bytesOf_append k1 k2 v h2, List.append_assoc]
        simp only [seqC]
        rw [hR q (List.mem_cons_self ..) v k1 _ hE (kinds_left hK)]
        show seqC G qs _ = _
        rw [ih (fun q' h' => hH q' (List.mem_cons_of_mem _ h')) (fun q' h' => hR q' (List.mem_cons_of_mem _ h')) _ k2 r2 hS (kinds_right hK)]
        rw [List.length_append, List.take_add, List.append_assoc]

theorem num2_two8 (n : Int) : ∃ a c : UInt8, two8 n = [a, c] ∧ (num2 a c : Int) = n % 65536 := by
  refine ⟨_, _, rfl, ?_⟩
  have h1 : (0 : Int) ≤ n % 65536 / 256 := by omega
  have h2 : n % 65536 / 256 ≤ 255 := by omega
  have h3 : (0 : Int) ≤ n % 256 := by omega
  have h4 : n % 256 ≤ 255 := by omega
  have b1 := b8_val h1 h2
  have b2 := b8_val h3 h4
  unfold num2
  omega

theorem ret_txt (E : List It → Eaten) (hE : ∀ v ks r, E v = some (ks, r) → ∃ x, v = x :: r ∧ ks = [true] ∧ x.1 = 0 ∧ x.2.size ≤ 14) : Ret E rTxt := by
  intro v ks r h _ e it
  obtain ⟨x, rfl, rfl, h0, h14⟩ := hE v ks r h
  obtain ⟨a, c, hac, hn⟩ := num2_two8 (x.2.size : Int)
  have hn' : num2 a c = x.2.size := by omega
  have hb : bytesOf [true] (x :: r) = a :: c :: (x.2.data.toList ++ (if x.2.size % 2 = 1 then [0] else [])) := by
    simp only [bytesOf, enc8, if_true, hac]
    simp
  have hl : x.2.data.toList.length = x.2.size := by simp
  have hx : (0, str x.2.data.toList) = x := by
    obtain ⟨x0, x1⟩ := x
    simp only at h0
    subst h0
    simp
  rw [hb]
  simp only [List.cons_append, rTxt, hn']
  rw [if_pos ⟨h14, by simp only [List.length_append, hl]; omega⟩]
  have htk : (x.2.data.toList ++ (if x.2.size % 2 = 1 then [0] else []) ++ e).take x.2.size = x.2.data.toList := by
    rw [List.append_assoc, ← hl, List.take_left]
  have hdr : (x.2.data.toList ++ (if x.2.size % 2 = 1 then [0] else []) ++ e).drop x.2.size = (if x.2.size % 2 = 1 then [0] else []) ++ e := by
    rw [List.append_assoc, ← hl, List.drop_left]
  rw [htk, hdr, hx]
  by_cases h2 : x.2.size % 2 = 0
  · rw [if_pos h2, if_neg (by omega)]
    simp
  · rw [if_neg h2, if_pos (by omega)]
    simp

theorem ret_num (lo hi : Int) (hlh : lo = 0 ∨ (lo = -32768 ∧ hi = 32767)) (E : List It → Eaten) (E' : Int → List It → Eaten) (G : Int → RSt → Option RSt)
    (hE : ∀ v ks r, E v = some (ks, r) → ∃ x r' k', v = x :: r' ∧ ks = false :: k' ∧ x.2.size = 0 ∧ lo ≤ x.1 ∧ x.1 ≤ hi ∧ E' x.1 r' = some (k', r)) (h : ∀ t, Ret (E' t) (G t)) :
    Ret E (fun x => (rNum lo hi x).bind fun r => G r.1 r.2) := by
  intro v ks r hEv hK e it
  obtain ⟨x, r', k', rfl, rfl, hs0, hlo, hhi, hE'⟩ := hE v ks r hEv
  obtain ⟨a, c, hac, hn⟩ := num2_two8 x.1
  have hr := (hK 0 false x rfl rfl).2 rfl
  have ht : turned lo hi (num2 a c) = x.1 := by
    unfold turned
    rcases hlh with h0 | ⟨h0, h1⟩
    · rw [if_neg (by omega)]
      omega
    · split <;> omega
  have hb : bytesOf (false :: k') (x :: r') = a :: c :: bytesOf k' r' := by
    simp [bytesOf, enc8, hac]
  have hx : (x.1, (⟨#[]⟩ : ByteArray)) = x := by
    obtain ⟨x0, x1⟩ := x
    simp only at hs0
    have : x1 = ⟨#[]⟩ := by
      apply ByteArray.ext
      apply Array.eq_empty_of_size_eq_zero
      exact hs0
    rw [this]
  rw [hb]
  simp only [List.cons_append, rNum, ht]
  rw [if_neg (by omega), hx]
  simp only [Option.bind_some]
  have hK' : KindsIn k' r' := fun i k y hk hy => hK (i + 1) k y (by simpa using hk) (by simpa using hy)
  rw [h x.1 r' k' r hE' hK' e (it ++ [x])]
  simp

theorem ret_any (g : Nat → Nat) : ∀ f p, Ret (eat g f p) (carryP rNum rTxt g f p) := by
  intro f
  induction f with
  | zero => intro p v ks r h; simp [eat] at h
  | succ f ih =>
    intro p
    have sq := fun qs => ret_seq (E := eat g f) (G := carryP rNum rTxt g f) qs (fun q _ => eat_heads g f q) (fun q _ => ih q)
    by_cases ha : g p = 97
    · have e1 : carryP rNum rTxt g (f + 1) p = seqC (carryP rNum rTxt g f) (List.replicate (g (p + 1) - 48) (p + 2)) := by funext x; simp [carryP, ha]
      have e2 : eat g (f + 1) p = seqE (eat g f) (List.replicate (g (p + 1) - 48) (p + 2)) := by
        funext v
        have hh : headOf g f p v = some ([], List.replicate (g (p + 1) - 48) (p + 2), v) := by simp [headOf, ha]
        rw [eat_cons hh, joinE_nil]
      rw [e1, e2]
      exact sq _
    · by_cases hr : g p = 114
      · have e1 : carryP rNum rTxt g (f + 1) p = seqC (carryP rNum rTxt g f) (Pt.kids g f p) := by funext x; simp [carryP, hr]
        have e2 : eat g (f + 1) p = seqE (eat g f) (Pt.kids g f p) := by
          funext v
          have hh : headOf g f p v = some ([], Pt.kids g f p, v) := by simp [headOf, hr]
          rw [eat_cons hh, joinE_nil]
        rw [e1, e2]
        exact sq _
      · by_cases hs : g p = 115
        · have e1 : carryP rNum rTxt g (f + 1) p = rTxt := by funext x; simp [carryP, hs]
          rw [e1]
          refine ret_txt _ fun v ks r h => ?_
          cases v with
          | nil => simp [eat, headOf, ha, hr] at h
          | cons x v =>
            by_cases hok : x.1 = 0 ∧ x.2.size ≤ 14
            · have hh : headOf g f p (x :: v) = some ([true], [], v) := by simp [headOf, hs, hok]
              rw [eat_cons hh] at h
              simp only [seqE, joinE, List.append_nil, Option.some.injEq, Prod.mk.injEq] at h
              obtain ⟨rfl, rfl⟩ := h
              exact ⟨x, rfl, rfl, hok.1, hok.2⟩
            · have hh : headOf g f p (x :: v) = none := by
                simp only [headOf, hs]
                simp
                omega
              rw [eat_none hh] at h
              cases h
        · rw [carryP_num _ _ _ _ _ hs ha hr]
          have hlh : loOf (g p) = 0 ∨ (loOf (g p) = -32768 ∧ hiOf g f p = 32767) := by
            by_cases h5 : g p = 105
            · exact Or.inr ⟨by simp [loOf, h5], by simp [hiOf, h5]⟩
            · exact Or.inl (by simp [loOf, h5])
          refine ret_num _ _ hlh _ (fun t => seqE (eat g f) (behindOf g f p t)) (fun t => seqC (carryP rNum rTxt g f) (behindOf g f p t)) (fun v ks r h => ?_) fun t => sq _
          cases v with
          | nil => simp [eat, headOf, ha, hr] at h
          | cons x v =>
            by_cases hok : x.2.size = 0 ∧ loOf (g p) ≤ x.1 ∧ x.1 ≤ hiOf g f p
            · have hh : headOf g f p (x :: v) = some ([false], behindOf g f p x.1, v) := by
                simp only [headOf, if_neg ha, if_neg hr, if_neg hs, behindOf]
                rw [if_pos hok]
              rw [eat_cons hh] at h
              cases hS : seqE (eat g f) (behindOf g f p x.1) v with
              | none => rw [hS] at h; cases h
              | some a =>
                obtain ⟨k', r'⟩ := a
                rw [hS] at h
                simp only [joinE, Option.some.injEq, Prod.mk.injEq] at h
                obtain ⟨rfl, rfl⟩ := h
                exact ⟨x, v, k', rfl, rfl, hok.1, hok.2.1, hok.2.2, hS⟩
            · have hh : headOf g f p (x :: v) = none := by
                simp only [headOf, if_neg ha, if_neg hr, if_neg hs]
                rw [if_neg hok]
              rw [eat_none hh] at h
              cases h

/- with more bytes behind, reading goes the same way -/
def Ext (G : RSt → Option RSt) : Prop := ∀ l it l' it', G (l, it) = some (l', it') → ∀ e, G (l ++ e, it) = some (l' ++ e, it')
theorem ext_seq {G : Nat → RSt → Option RSt} : ∀ qs : List Nat, (∀ q ∈ qs, Ext (G q)) → Ext (seqC G qs) := by
  intro qs
  induction qs with
  | nil =>
    intro _ l it l' it' h e
    simp only [seqC, Option.some.injEq, Prod.mk.injEq] at h ⊢
    exact ⟨by rw [h.1], h.2⟩
  | cons q qs ih =>
    intro hq l it l' it' h e
    simp only [seqC] at h ⊢
    cases hG : G q (l, it) with
    | none => rw [hG] at h; cases h
    | some a =>
      obtain ⟨l1, it1⟩ := a
      rw [hG] at h
      rw [hq q (List.mem_cons_self ..) l it l1 it1 hG e]
      exact ih (fun q' h' => hq q' (List.mem_cons_of_mem _ h')) l1 it1 l' it' h e
theorem ext_num (lo hi : Int) (G : Int → RSt → Option RSt) (h : ∀ t, Ext (G t)) : Ext (fun x => (rNum lo hi x).bind fun r => G r.1 r.2) := by
  intro l it l' it' hx e
  match l with
  | [] => simp [rNum] at hx
  | [a] => simp [rNum] at hx
  | a :: c :: r =>
    simp only [rNum, List.cons_append] at hx ⊢
    split at hx
    · cases hx
    · rename_i hb
      rw [if_neg hb]
      exact h _ _ _ _ _ hx e
theorem ext_txt : Ext rTxt := by
  intro l it l' it' hx e
  match l with
  | [] => simp [rTxt] at hx
  | [a] => simp [rTxt] at hx
  | a :: c :: r =>
    simp only [rTxt, List.cons_append] at hx ⊢
    generalize num2 a c = n at hx ⊢
    split at hx
    · rename_i hb
      rw [if_pos ⟨hb.1, by rw [List.length_append]; omega⟩, List.take_append_of_le_length hb.2, List.drop_append_of_le_length hb.2]
      split at hx
      · rename_i h2
        rw [if_pos h2]
        cases hx
        rfl
      · rename_i h2
        rw [if_neg h2]
        cases hd : r.drop n with
        | nil => rw [hd] at hx; cases hx
        | cons p r' =>
          rw [hd] at hx
          simp only [List.cons_append] at hx ⊢
          split at hx
          · rename_i hp
            rw [if_pos hp]
            cases hx
            rfl
          · cases hx
    · cases hx
theorem ext_any (g : Nat → Nat) : ∀ f p, Ext (carryP rNum rTxt g f p) := by
  intro f
  induction f with
  | zero => intro p l it l' it' h; simp [carryP] at h
  | succ f ih =>
    intro p
    have sq := fun qs => ext_seq (G := carryP rNum rTxt g f) qs (fun q _ => ih q)
    by_cases hs : g p = 115
    · rw [show carryP rNum rTxt g (f + 1) p = rTxt by funext x; simp [carryP, hs]]
      exact ext_txt
    · by_cases ha : g p = 97
      · rw [show carryP rNum rTxt g (f + 1) p = seqC (carryP rNum rTxt g f) (List.replicate (g (p + 1) - 48) (p + 2)) by funext x; simp [carryP, ha]]
        exact sq _
      · by_cases hr : g p = 114
        · rw [show carryP rNum rTxt g (f + 1) p = seqC (carryP rNum rTxt g f) (Pt.kids g f p) by funext x; simp [carryP, hr]]
          exact sq _
        · rw [carryP_num _ _ _ _ _ hs ha hr]
          exact ext_num _ _ _ fun t => sq _

/- what Unmarshal says of a value's bytes, of a byte less, of a byte more -/
theorem un_back (s : ByteArray) (v : List It) (ks : List Bool) (hc : (Pt.chk (nx s) s.size).1 = 0) (he : eat (nx s) (s.size + 1) 0 v = some (ks, [])) (hK : Kinds ks v) (hl : (bytesOf ks v).length ≤ 70) :
    uFull s (bytesOf ks v) = (0, v) ∧ (∀ l b, bytesOf ks v = l ++ [b] → uFull s l = (6, [])) ∧ uFull s (bytesOf ks v ++ [0]) = (if (bytesOf ks v).length = 70 then 5 else 6, []) := by
  have hR := fun e => ret_any (nx s) (s.size + 1) 0 v ks [] he hK.2 e []
  have htk : v.take ks.length = v := List.take_of_length_le (by rw [hK.1]; exact Nat.le_refl _)
  simp only [htk, List.nil_append] at hR
  have hE := ext_any (nx s) (s.size + 1) 0
  have hb : ¬ 70 < (bytesOf ks v).length := by omega
  refine ⟨?_, fun l b hlb => ?_, ?_⟩
  · have h := hR []
    rw [List.append_nil] at h
    simp [uFull, hc, uRes, hb, h]
  · have hll : ¬ 70 < l.length := by
      have := congrArg List.length hlb
      rw [List.length_append] at this
      omega
    simp only [uFull, hc, if_true, uRes, if_neg hll]
    cases hr : carryP rNum rTxt (nx s) (s.size + 1) 0 (l, []) with
    | none => rfl
    | some a =>
      obtain ⟨l', v'⟩ := a
      by_cases h0 : l' = []
      · subst h0
        have h1 := hE l [] [] v' hr [b]
        rw [← hlb] at h1
        have h2 := hR []
        rw [List.append_nil, h1] at h2
        cases h2
      · simp [h0]
  · have h := hR [0]
    by_cases h70 : (bytesOf ks v).length = 70
    · rw [if_pos h70]
      simp [uFull, hc, uRes, h70]
    · rw [if_neg h70]
      have : ¬ 70 < (bytesOf ks v ++ [0]).length := by simp; omega
      simp only [uFull, hc, if_true, uRes, if_neg this, h]
      simp

end Go.Proofs.YtblomippkddgiaaGreatDoor.V
/-
  What the services take and tell, pure: values of the types of their procedures.
-/
namespace Go.Proofs.YtblomippkddgiaaGreatDoor.V

theorem mRes_parts {s : ByteArray} {v : List It} (h : (mRes s v).1 = 0) : (Pt.chk (nx s) s.size).1 = 0 ∧ ∃ ks, eat (nx s) (s.size + 1) 0 v = some (ks, []) ∧ (mRes s v).2 = bytesOf ks v ∧ (bytesOf ks v).length ≤ 70 := by
  unfold mRes at h ⊢
  split at h
  · rename_i hc
    rw [if_pos hc]
    refine ⟨hc, ?_⟩
    unfold wRes at h ⊢
    split at h
    · cases h
    · rename_i ks r he
      split at h
      · rename_i hr
        subst hr
        split at h
        · cases h
        · rename_i hb
          exact ⟨ks, he, by simp [hb], by omega⟩
      · cases h
  · rename_i hc
    exact absurd h hc
theorem mRes_le {s : ByteArray} {v : List It} (h : (mRes s v).1 = 0) : (mRes s v).2.length ≤ 70 := by
  obtain ⟨_, ks, _, h2, h3⟩ := mRes_parts h
  rw [h2]
  exact h3
theorem uFull_back {s : ByteArray} {v : List It} (h : (mRes s v).1 = 0) : uFull s (mRes s v).2 = (0, v) := by
  obtain ⟨hc, ks, he, h2, h3⟩ := mRes_parts h
  have hg := good_of hc
  obtain ⟨h1, h4⟩ := eat_heads _ _ _ _ _ _ he
  obtain ⟨s1, s2⟩ := eat_small s _ _ hg.ok _ _ _ he
  have hl : ks.length = v.length := by
    have := congrArg List.length h1
    rw [List.length_drop] at this
    simp at this
    omega
  rw [h2]
  exact (un_back s v ks hc he (kinds_of s2 hl) h3).1
theorem mRes_of {s : ByteArray} {v : List It} {ks : List Bool} (hc : (Pt.chk (nx s) s.size).1 = 0) (he : eat (nx s) (s.size + 1) 0 v = some (ks, [])) (hb : (bytesOf ks v).length ≤ 70) : mRes s v = (0, bytesOf ks v) := by
  have : ¬ 70 < (bytesOf ks v).length := by omega
  simp [mRes, hc, he, wRes, this]

theorem eat_mk {g : Nat → Nat} {f p : Nat} {v r0 r : List It} {k0 k1 : List Bool} {qs : List Nat} (h : headOf g f p v = some (k0, qs, r0)) (hs : seqE (eat g f) qs r0 = some (k1, r)) : eat g (f + 1) p v = some (k0 ++ k1, r) := by
  simp only [eat]
  rw [h]
  simp only
  rw [hs]
  rfl
theorem eat_some' {g : Nat → Nat} {f p : Nat} {v r : List It} {ks : List Bool} (h : eat g (f + 1) p v = some (ks, r)) : ∃ k0 qs r0 k1, headOf g f p v = some (k0, qs, r0) ∧ seqE (eat g f) qs r0 = some (k1, r) ∧ ks = k0 ++ k1 := by
  simp only [eat] at h
  cases hh : headOf g f p v with
  | none => rw [hh] at h; cases h
  | some e =>
    obtain ⟨k0, qs, r0⟩ := e
    rw [hh] at h
    simp only at h
    cases hs : seqE (eat g f) qs r0 with
    | none => rw [hs] at h; cases h
    | some e2 =>
      obtain ⟨k1, r1⟩ := e2
      rw [hs] at h
      simp only [joinE, Option.some.injEq, Prod.mk.injEq] at h
      exact ⟨k0, qs, r0, k1, rfl, by rw [← h.2, hs], h.1.symm⟩
/- a number -/
theorem head_num {g : Nat → Nat} {f p : Nat} {x : It} {r : List It} (h97 : g p ≠ 97) (h114 : g p ≠ 114) (h115 : g p ≠ 115) (hx : x.2.size = 0 ∧ loOf (g p) ≤ x.1 ∧ x.1 ≤ hiOf g f p) : headOf g f p (x :: r) = some ([false], (if g p = 117 then [partOf (Pt.kids g f p) x.1] else if g p = 113 then List.replicate x.1.toNat (p + 2) else []), r) := by
  unfold headOf
  rw [if_neg h97, if_neg h114]
  simp only
  rw [if_neg h115, if_pos hx]
theorem head_num_inv {g : Nat → Nat} {f p : Nat} {v : List It} {k0 : List Bool} {qs : List Nat} {r : List It} (h : headOf g f p v = some (k0, qs, r)) (h97 : g p ≠ 97) (h114 : g p ≠ 114) (h115 : g p ≠ 115) : ∃ x, v = x :: r ∧ k0 = [false] ∧ (x.2.size = 0 ∧ loOf (g p) ≤ x.1 ∧ x.1 ≤ hiOf g f p) ∧ qs = (if g p = 117 then [partOf (Pt.kids g f p) x.1] else if g p = 113 then List.replicate x.1.toNat (p + 2) else []) := by
  unfold headOf at h
  rw [if_neg h97, if_neg h114] at h
  cases v with
  | nil => cases h
  | cons x v =>
    simp only at h
    rw [if_neg h115] at h
    split at h
    · rename_i hx
      cases h
      exact ⟨x, rfl, rfl, hx, rfl⟩
    · cases h
theorem eat_num {g : Nat → Nat} {f p : Nat} {x : It} {r : List It} (h97 : g p ≠ 97) (h114 : g p ≠ 114) (h115 : g p ≠ 115) (h117 : g p ≠ 117) (h113 : g p ≠ 113) (hx : x.2.size = 0 ∧ loOf (g p) ≤ x.1 ∧ x.1 ≤ hiOf g f p) : eat g (f + 1) p (x :: r) = some ([false], r) := by
  simp only [eat]
  rw [head_num h97 h114 h115 hx]
  simp [h117, h113, seqE, joinE]
theorem eat_num_inv {g : Nat → Nat} {f p : Nat} {v r : List It} {ks : List Bool} (h : eat g (f + 1) p v = some (ks, r)) (h97 : g p ≠ 97) (h114 : g p ≠ 114) (h115 : g p ≠ 115) (h117 : g p ≠ 117) (h113 : g p ≠ 113) : ∃ x, v = x :: r ∧ ks = [false] ∧ x.2.size = 0 ∧ loOf (g p) ≤ x.1 ∧ x.1 ≤ hiOf g f p := by
  simp only [eat] at h
  cases hh : headOf g f p v with
  | none => rw [hh] at h; cases h
  | some e =>
    obtain ⟨k0, qs, r0⟩ := e
    rw [hh] at h
    obtain ⟨x, h1, h2, h3, h4⟩ := head_num_inv hh h97 h114 h115
    rw [if_neg h117, if_neg h113] at h4
    subst h4
    simp [seqE, joinE] at h
    exact ⟨x, by rw [h1, h.2], by rw [← h.1, h2], h3⟩
/- things one behind the other -/
theorem seq_num {E : Nat → List It → Eaten} {q : Nat} {P : It → Prop} {b : Bool} (hE : ∀ x r, P x → E q (x :: r) = some ([b], r)) : ∀ (v : List It), (∀ x ∈ v, P x) → seqE E (List.replicate v.length q) v = some (List.replicate v.length b, [])
  | [], _ => rfl
  | x :: v, h => by
    simp only [List.length_cons, List.replicate_succ, seqE]
    rw [hE x v (h x (by simp))]
    simp only
    rw [seq_num hE v (fun y hy => h y (by simp [hy]))]
    rfl
theorem seq_num_inv {E : Nat → List It → Eaten} {q : Nat} {P : It → Prop} (hE : ∀ v r ks, E q v = some (ks, r) → ∃ x, v = x :: r ∧ ks = [false] ∧ P x) : ∀ (k : Nat) (v r : List It) (ks : List Bool), seqE E (List.replicate k q) v = some (ks, r) → ∃ a, v = a ++ r ∧ a.length = k ∧ ∀ x ∈ a, P x
  | 0, v, r, ks, h => by
    simp [seqE] at h
    exact ⟨[], by simp [h.2], rfl, by simp⟩
  | k + 1, v, r, ks, h => by
    simp only [List.replicate_succ, seqE] at h
    cases hq : E q v with
    | none => rw [hq] at h; cases h
    | some e =>
      obtain ⟨k1, r1⟩ := e
      rw [hq] at h
      simp only at h
      obtain ⟨x, h1, _, h3⟩ := hE v r1 k1 hq
      cases hs : seqE E (List.replicate k q) r1 with
      | none => rw [hs] at h; cases h
      | some e2 =>
        obtain ⟨k2, r2⟩ := e2
        rw [hs] at h
        simp only [joinE, Option.some.injEq, Prod.mk.injEq] at h
        obtain ⟨a, b1, b2, b3⟩ := seq_num_inv hE k r1 r2 k2 hs
        refine ⟨x :: a, by rw [h1, b1, ← h.2]; rfl, by simp [b2], fun y hy => ?_⟩
        rcases List.mem_cons.1 hy with rfl | hy
        · exact h3
        · exact b3 y hy
theorem eat_str' {g : Nat → Nat} {f p : Nat} {x : It} {r : List It} (h115 : g p = 115) (hx : x.1 = 0 ∧ x.2.size ≤ 14) : eat g (f + 1) p (x :: r) = some ([true], r) := by
  simp only [eat]
  unfold headOf
  rw [if_neg (by omega), if_neg (by omega)]
  simp only
  rw [if_pos h115, if_pos hx]
  simp [seqE, joinE]
theorem bytes_strs : ∀ (v : List It), (∀ x ∈ v, x.2.size ≤ 14) → (bytesOf (List.replicate v.length true) v).length ≤ 16 * v.length
  | [], _ => by simp [bytesOf]
  | x :: v, h => by
    have ih := bytes_strs v (fun y hy => h y (by simp [hy]))
    have hx := h x (by simp)
    simp only [List.length_cons, List.replicate_succ, bytesOf, List.length_append]
    have : (enc8 true x).length ≤ 16 := by
      simp only [enc8, if_true]
      split <;> simp [two8] <;> omega
    omega
theorem bytes_nums' : ∀ (v : List It), (bytesOf (List.replicate v.length false) v).length ≤ 2 * v.length
  | [] => by simp [bytesOf]
  | x :: v => by
    have ih := bytes_nums' v
    simp only [List.length_cons, List.replicate_succ, bytesOf, List.length_append]
    have : (enc8 false x).length ≤ 2 := by simp [enc8, two8]
    omega
end Go.Proofs.YtblomippkddgiaaGreatDoor.V
namespace Go.Proofs.YtblomippkddgiaaGreatDoor.R
open Go.Proofs.YtblomippkddgiaaGreatDoor.V

theorem bytesP_some {t : ByteArray} {v : List It} {bs : List UInt8} (h : bytesP t v = some bs) : (V.mRes t v).1 = 0 := by
  unfold bytesP at h
  split at h
  · assumption
  · cases h
theorem bytesP_of {t : ByteArray} {v : List It} {ks : List Bool} (hc : (Pt.chk (nx t) t.size).1 = 0) (he : eat (nx t) (t.size + 1) 0 v = some (ks, [])) (hb : (bytesOf ks v).length ≤ 70) : bytesP t v = some (bytesOf ks v) := by
  unfold bytesP
  rw [mRes_of hc he hb]
  rfl
def IsNum (lo hi : Int) (x : It) : Prop := x.2.size = 0 ∧ lo ≤ x.1 ∧ x.1 ≤ hi
theorem leaf_inv {t : ByteArray} {v : List It} {bs : List UInt8} (h : bytesP t v = some bs) (h97 : nx t 0 ≠ 97) (h114 : nx t 0 ≠ 114) (h115 : nx t 0 ≠ 115) (h117 : nx t 0 ≠ 117) (h113 : nx t 0 ≠ 113) : ∃ x, v = [x] ∧ IsNum (loOf (nx t 0)) (hiOf (nx t) t.size 0) x := by
  obtain ⟨_, ks, he, _⟩ := mRes_parts (bytesP_some h)
  obtain ⟨x, h1, _, h3⟩ := eat_num_inv he h97 h114 h115 h117 h113
  exact ⟨x, h1, h3⟩
theorem arg_i {v : List It} {bs : List UInt8} (h : bytesP (txt [105]) v = some bs) : ∃ x, v = [x] ∧ IsNum (-32768) 32767 x := by
  have := leaf_inv h (by decide +kernel) (by decide +kernel) (by decide +kernel) (by decide +kernel) (by decide +kernel)
  rwa [show loOf (nx (txt [105]) 0) = -32768 by decide +kernel, show hiOf (nx (txt [105])) (txt [105]).size 0 = 32767 by decide +kernel] at this
theorem arg_b {v : List It} {bs : List UInt8} (h : bytesP (txt [98]) v = some bs) : ∃ x, v = [x] ∧ IsNum 0 1 x := by
  have := leaf_inv h (by decide +kernel) (by decide +kernel) (by decide +kernel) (by decide +kernel) (by decide +kernel)
  rwa [show loOf (nx (txt [98]) 0) = 0 by decide +kernel, show hiOf (nx (txt [98])) (txt [98]).size 0 = 1 by decide +kernel] at this
theorem arg_c {v : List It} {bs : List UInt8} (h : bytesP (txt [99]) v = some bs) : ∃ x, v = [x] ∧ IsNum 0 65535 x := by
  have := leaf_inv h (by decide +kernel) (by decide +kernel) (by decide +kernel) (by decide +kernel) (by decide +kernel)
  rwa [show loOf (nx (txt [99]) 0) = 0 by decide +kernel, show hiOf (nx (txt [99])) (txt [99]).size 0 = 65535 by decide +kernel] at this
theorem arg_s {v : List It} {bs : List UInt8} (h : bytesP (txt [115]) v = some bs) : ∃ x, v = [x] ∧ x.1 = 0 ∧ x.2.size ≤ 14 := by
  obtain ⟨_, ks, he, _⟩ := mRes_parts (bytesP_some h)
  rw [show (txt [115]).size = 1 from rfl] at he
  obtain ⟨k0, qs, r0, k1, h1, h2, _⟩ := eat_some' he
  unfold headOf at h1
  have h115 : nx (txt [115]) 0 = 115 := by decide +kernel
  rw [if_neg (by omega), if_neg (by omega)] at h1
  cases v with
  | nil => cases h1
  | cons x v =>
    simp only at h1
    rw [if_pos h115] at h1
    split at h1
    · rename_i hx
      cases h1
      simp [seqE] at h2
      exact ⟨x, by rw [h2.2], hx⟩
    · cases h1
abbrev deskA : ByteArray := txt [114, 40, 101, 51, 113, 51, 105, 41]
theorem deskA_at : nx deskA 0 = 114 ∧ nx deskA 2 = 101 ∧ nx deskA 4 = 113 ∧ nx deskA 6 = 105 ∧ Pt.kids (nx deskA) 8 0 = [2, 4] := by decide +kernel
theorem arg_d {v : List It} {bs : List UInt8} (h : bytesP deskA v = some bs) : ∃ d k a, v = d :: k :: a ∧ IsNum 0 2 d ∧ IsNum 0 3 k ∧ (a.length : Int) = k.1 ∧ ∀ x ∈ a, IsNum (-32768) 32767 x := by
  obtain ⟨_, ks, he, _⟩ := mRes_parts (bytesP_some h)
  obtain ⟨a0, a2, a4, a6, ak⟩ := deskA_at
  have a7 : nx deskA (4 + 2) = 105 := a6
  rw [show deskA.size + 1 = 8 + 1 from rfl] at he
  obtain ⟨j0, qs0, r00, j1, hh0, he, _⟩ := eat_some' he
  unfold headOf at hh0
  rw [if_neg (by omega), if_pos a0, ak] at hh0
  cases hh0
  simp only [seqE] at he
  cases h1 : eat (nx deskA) 8 2 v with
  | none => rw [h1] at he; cases he
  | some x1 =>
    obtain ⟨k1, r1⟩ := x1
    rw [h1] at he
    simp only at he
    obtain ⟨d, hd1, _, hd⟩ := eat_num_inv (f := 7) h1 (by omega) (by omega) (by omega) (by omega) (by omega)
    rw [show loOf (nx deskA 2) = 0 by decide +kernel, show hiOf (nx deskA) 7 2 = 2 by decide +kernel] at hd
    cases h2 : eat (nx deskA) 8 4 r1 with
    | none => rw [h2] at he; cases he
    | some x2 =>
      obtain ⟨k2, r2⟩ := x2
      rw [h2] at he
      simp only [joinE] at he
      cases he
      obtain ⟨k0, qs, r0, k3, hh, hs, _⟩ := eat_some' (f := 7) h2
      obtain ⟨k, g1, g2, g3, g4⟩ := head_num_inv hh (by omega) (by omega) (by omega)
      rw [if_neg (by omega), if_pos a4] at g4
      subst g4
      rw [show loOf (nx deskA 4) = 0 by decide +kernel, show hiOf (nx deskA) 7 4 = 3 by decide +kernel] at g3
      obtain ⟨a, b1, b2, b3⟩ := seq_num_inv (P := IsNum (-32768) 32767) (fun v r ks hq => by
        obtain ⟨x, c1, c2, c3⟩ := eat_num_inv (f := 6) hq (by omega) (by omega) (by omega) (by omega) (by omega)
        rw [show loOf (nx deskA (4 + 2)) = -32768 by decide +kernel, show hiOf (nx deskA) 6 (4 + 2) = 32767 by decide +kernel] at c3
        exact ⟨x, c1, c2, c3⟩) _ _ _ _ hs
      refine ⟨d, k, a, ?_, hd, g3, ?_, b3⟩
      · rw [hd1, g1, b1]
        simp
      · have := g3.2.1
        omega

/- results -/
theorem res_c {x : It} (h : IsNum 0 65535 x) : ∃ rb, bytesP (txt [99]) [x] = some rb ∧ 1 ≤ rb.length := by
  have he : eat (nx (txt [99])) ((txt [99]).size + 1) 0 [x] = some ([false], []) := eat_num (by decide +kernel) (by decide +kernel) (by decide +kernel) (by decide +kernel) (by decide +kernel) (by
    rw [show loOf (nx (txt [99]) 0) = 0 by decide +kernel, show hiOf (nx (txt [99])) (txt [99]).size 0 = 65535 by decide +kernel]
    exact h)
  exact ⟨_, bytesP_of (by decide +kernel) he (by simp [bytesOf, enc8, V.two8]), by simp [bytesOf, enc8, V.two8]⟩
theorem res_q {l : List ByteArray} (h4 : l.length ≤ 4) (h : ∀ s ∈ l, s.size ≤ 14) : ∃ rb, bytesP (txt [113, 52, 115]) (num l.length :: l.map fun s => (0, s)) = some rb ∧ 1 ≤ rb.length := by
  have hq : nx (txt [113, 52, 115]) 0 = 113 ∧ nx (txt [113, 52, 115]) 2 = 115 := by decide +kernel
  have he : eat (nx (txt [113, 52, 115])) ((txt [113, 52, 115]).size + 1) 0 (num l.length :: l.map fun s => (0, s)) = some (false :: List.replicate l.length true, []) := by
    rw [show (txt [113, 52, 115]).size + 1 = 3 + 1 from rfl]
    have hh := head_num (g := nx (txt [113, 52, 115])) (f := 3) (p := 0) (x := num l.length) (r := l.map fun s => ((0, s) : It)) (by omega) (by omega) (by omega) (by
      rw [show loOf (nx (txt [113, 52, 115]) 0) = 0 by decide +kernel, show hiOf (nx (txt [113, 52, 115])) 3 0 = 4 by decide +kernel]
      exact ⟨rfl, by simp [num], by simp [num]; omega⟩)
    rw [if_neg (by omega), if_pos hq.1, show (num (l.length : Int)).1.toNat = l.length by simp [num]] at hh
    have := seq_num (E := eat (nx (txt [113, 52, 115])) 3) (q := 0 + 2) (b := true) (P := fun x => x.1 = 0 ∧ x.2.size ≤ 14) (fun x r hx => eat_str' hq.2 hx) (l.map fun s => ((0, s) : It)) (fun x hx => by
      obtain ⟨s, hs, rfl⟩ := List.mem_map.1 hx
      exact ⟨rfl, h s hs⟩)
    rw [List.length_map] at this
    exact eat_mk hh this
  have hb := bytes_strs (l.map fun s => ((0, s) : It)) (fun x hx => by
    obtain ⟨s, hs, rfl⟩ := List.mem_map.1 hx
    exact h s hs)
  rw [List.length_map] at hb
  have hl : (bytesOf (false :: List.replicate l.length true) (num l.length :: l.map fun s => (0, s))).length = 2 + (bytesOf (List.replicate l.length true) (l.map fun s => (0, s))).length := by
    simp [bytesOf, enc8, V.two8]
    omega
  exact ⟨_, bytesP_of (by decide +kernel) he (by omega), by omega⟩
abbrev deskB : ByteArray := txt [117, 40, 98, 113, 51, 105, 41]
theorem deskB_at : nx deskB 0 = 117 ∧ nx deskB 2 = 98 ∧ nx deskB 3 = 113 ∧ nx deskB 5 = 105 ∧ Pt.kids (nx deskB) 7 0 = [2, 3] ∧ hiOf (nx deskB) 7 0 = 1 := by decide +kernel
theorem res_u0 : ∃ rb, bytesP deskB [num 0, num 0] = some rb ∧ 1 ≤ rb.length := by
  obtain ⟨a0, a2, a3, a5, ak, ah⟩ := deskB_at
  have he : eat (nx deskB) (deskB.size + 1) 0 [num 0, num 0] = some ([false, false], []) := by
    rw [show deskB.size + 1 = 7 + 1 from rfl]
    have hh := head_num (g := nx deskB) (f := 7) (p := 0) (x := num 0) (r := [num 0]) (by omega) (by omega) (by omega) (by rw [a0, ah]; exact ⟨rfl, by decide, by decide⟩)
    rw [if_pos a0, ak, show partOf [2, 3] (num 0).1 = 2 by decide +kernel] at hh
    refine eat_mk (k1 := [false]) hh ?_
    simp only [seqE]
    rw [eat_num (f := 6) (by omega) (by omega) (by omega) (by omega) (by omega) (by rw [a2, show hiOf (nx deskB) 6 2 = 1 by decide +kernel]; exact ⟨rfl, by decide, by decide⟩)]
    rfl
  exact ⟨_, bytesP_of (by decide +kernel) he (by simp [bytesOf, enc8, V.two8]), by simp [bytesOf, enc8, V.two8]⟩
theorem res_u1 {l : List It} (h3 : l.length ≤ 3) (h : ∀ x ∈ l, IsNum (-32768) 32767 x) : ∃ rb, bytesP deskB (num 1 :: num l.length :: l) = some rb ∧ 1 ≤ rb.length := by
  obtain ⟨a0, a2, a3, a5, ak, ah⟩ := deskB_at
  have a6 : nx deskB (3 + 2) = 105 := a5
  have he : eat (nx deskB) (deskB.size + 1) 0 (num 1 :: num l.length :: l) = some (false :: false :: List.replicate l.length false, []) := by
    rw [show deskB.size + 1 = 7 + 1 from rfl]
    have hh := head_num (g := nx deskB) (f := 7) (p := 0) (x := num 1) (r := num l.length :: l) (by omega) (by omega) (by omega) (by rw [a0, ah]; exact ⟨rfl, by decide, by decide⟩)
    rw [if_pos a0, ak, show partOf [2, 3] (num 1).1 = 3 by decide +kernel] at hh
    refine eat_mk (k1 := false :: List.replicate l.length false) hh ?_
    simp only [seqE]
    have hh2 := head_num (g := nx deskB) (f := 6) (p := 3) (x := num l.length) (r := l) (by omega) (by omega) (by omega) (by rw [a3, show hiOf (nx deskB) 6 3 = 3 by decide +kernel]; exact ⟨rfl, by simp [num, loOf], by simp [num]; omega⟩)
    rw [if_neg (by omega), if_pos a3, show (num (l.length : Int)).1.toNat = l.length by simp [num]] at hh2
    have := seq_num (E := eat (nx deskB) 6) (q := 3 + 2) (b := false) (P := IsNum (-32768) 32767) (fun x r hx => eat_num (f := 5) (by omega) (by omega) (by omega) (by omega) (by omega) (by rw [show loOf (nx deskB (3 + 2)) = -32768 by decide +kernel, show hiOf (nx deskB) 5 (3 + 2) = 32767 by decide +kernel]; exact hx)) l h
    rw [eat_mk (f := 6) hh2 this]
    simp [joinE]
  have hb := bytes_nums' l
  have hl : (bytesOf (false :: false :: List.replicate l.length false) (num 1 :: num l.length :: l)).length = 4 + (bytesOf (List.replicate l.length false) l).length := by
    simp [bytesOf, enc8, V.two8]
    omega
  exact ⟨_, bytesP_of (by decide +kernel) he (by omega), by omega⟩

theorem counted_range : ∀ (l : List En) (n : Int), 0 ≤ n ∧ n ≤ 65535 → 0 ≤ countedP l n ∧ countedP l n ≤ 65535
  | [], n, h => h
  | e :: l, n, h => by
    simp only [countedP]
    refine counted_range l _ ?_
    split
    · omega
    · split
      · omega
      · exact h
theorem posted_len (l : List En) : (postedP l).length ≤ 4 := by
  simp only [postedP, List.length_drop]
  omega
theorem sig_s {e : En} {f t : ByteArray} (h : sigP 1 e.proc = some (f, t)) (h0 : e.proc = 0) : f = txt [115] := by
  rw [h0] at h
  simp [sigP] at h
  exact h.1.symm
theorem sig_d {proc : Int} {f t : ByteArray} (h : sigP 2 proc = some (f, t)) : f = deskA ∧ t = deskB ∧ proc = 0 := by
  unfold sigP at h
  simp at h
  exact ⟨h.2.1.symm, h.2.2.symm, h.1⟩
abbrev LogArgs (kind : Int) (l : List En) : Prop := ∀ e ∈ l, ∃ f t b, sigP kind e.proc = some (f, t) ∧ bytesP f e.arg = some b
theorem posted_small {l : List En} (h : LogArgs 1 l) : ∀ s ∈ postedP l, s.size ≤ 14 := fun s hs => by
  have hm := List.mem_of_mem_drop hs
  obtain ⟨e, he, rfl⟩ := List.mem_map.1 hm
  obtain ⟨he, h0⟩ := List.mem_filter.1 he
  obtain ⟨f, t, b, h1, h2⟩ := h e he
  rw [sig_s h1 (by simpa using h0)] at h2
  obtain ⟨x, hx, _, h3⟩ := arg_s h2
  simp [argS, hx, h3]
theorem laid_small : ∀ (l : List En), LogArgs 2 l → ∀ (d : Int) (was : List It), (was.length ≤ 3 ∧ ∀ x ∈ was, IsNum (-32768) 32767 x) → (laidP l d was).length ≤ 3 ∧ ∀ x ∈ laidP l d was, IsNum (-32768) 32767 x
  | [], _, d, was, h => h
  | e :: l, hl, d, was, h => by
    simp only [laidP]
    refine laid_small l (fun x hx => hl x (by simp [hx])) d _ ?_
    split
    · obtain ⟨f, t, b, h1, h2⟩ := hl e (by simp)
      rw [(sig_d h1).1] at h2
      obtain ⟨dd, k, a, g1, g2, g3, g4, g5⟩ := arg_d h2
      rw [g1]
      simp only [List.drop_succ_cons, List.drop_zero]
      have := g3.2.2
      exact ⟨by omega, g5⟩
    · exact h
theorem does_ok {kind : Int} {log : List En} {proc : Int} {arg : List It} {f t : ByteArray} {bs : List UInt8} (hs : sigP kind proc = some (f, t)) (hb : bytesP f arg = some bs) (hl : ∀ e ∈ log, ∃ f t b, sigP kind e.proc = some (f, t) ∧ bytesP f e.arg = some b) : ∃ rb, bytesP t (doesP kind log proc arg) = some rb ∧ 1 ≤ rb.length := by
  have hc := counted_range log 0 (by decide)
  have hp4 := posted_len log
  unfold sigP at hs
  split at hs
  · rename_i h
    cases hs
    rw [h.1, h.2]
    refine res_c ⟨rfl, ?_, ?_⟩ <;> simp [num] <;> omega
  · split at hs
    · rename_i h
      cases hs
      rw [h.1, h.2]
      refine res_c ⟨rfl, ?_, ?_⟩ <;> simp [num] <;> omega
    · split at hs
      · rename_i h
        cases hs
        rw [h.1, h.2]
        refine res_c ⟨rfl, ?_, ?_⟩ <;> simp [num] <;> omega
      · split at hs
        · rename_i h
          cases hs
          obtain ⟨rfl, rfl⟩ := h
          have hsm := posted_small hl
          exact res_q (l := (postedP log).take (argN arg 0).toNat) (by rw [List.length_take]; omega) (fun s hs => hsm s (List.mem_of_mem_take hs))
        · split at hs
          · rename_i h
            cases hs
            obtain ⟨rfl, rfl⟩ := h
            have hla := laid_small log hl (argN arg 0) [] (by simp)
            unfold doesP
            simp only
            rw [if_neg (by decide), if_neg (by decide)]
            split
            · exact res_u0
            · exact res_u1 hla.1 hla.2
          · cases hs
end Go.Proofs.YtblomippkddgiaaGreatDoor.R
