/-
  Joined: VBack VReturn.
-/
import Derived.Test.YtblomippkddgiaaGreatDoorJ20
import Derived.Test.YtblomippkddgiaaGreatDoorJ21
/-
  What the document's 'read' does, without the byte behind an odd string, and what the landed reader does: the second is the first, and the bytes are those of the value.
-/
namespace Go.Proofs.YtblomippkddgiaaGreatDoor.V
open Go.RowKit

/- a string, whatever the byte behind it -/
def qTxt (x : RSt) : Option RSt := match x.1 with
  | a :: c :: r => if num2 a c ≤ 14 ∧ num2 a c + num2 a c % 2 ≤ r.length then some (r.drop (num2 a c + num2 a c % 2), x.2 ++ [(0, str (r.take (num2 a c)))]) else none
  | _ => none

/- one reads as the other, if the bytes are the value's own -/
structure Two (E : List It → Eaten) (G : RSt → Option RSt) (l : List UInt8) (it : List It) (l' : List UInt8) (it' : List It) (v : List It) (ks : List Bool) (pre : List UInt8) : Prop where
  items : it' = it ++ v
  bytes : l = pre ++ l'
  eaten : ∀ rest, E (v ++ rest) = some (ks, rest)
  same : ks.length = v.length
  len : pre.length = (bytesOf ks v).length
  back : G (l, it) = if pre = bytesOf ks v then some (l', it') else none
def Mate (E : List It → Eaten) (F G : RSt → Option RSt) : Prop := ∀ l it, (F (l, it) = none → G (l, it) = none) ∧ ∀ l' it', F (l, it) = some (l', it') → ∃ v ks pre, Two E G l it l' it' v ks pre

theorem bytesOf_front : ∀ (ks : List Bool) (v u : List It), ks.length = v.length → bytesOf ks (v ++ u) = bytesOf ks v := by
  intro ks
  induction ks with
  | nil => intro v u _; simp [bytesOf]
  | cons k ks ih =>
    intro v u h
    cases v with
    | nil => simp at h
    | cons x v =>
      simp only [List.cons_append, bytesOf]
      rw [ih v u (by simpa using h)]

theorem mate_seq {E : Nat → List It → Eaten} {F G : Nat → RSt → Option RSt} : ∀ qs : List Nat, (∀ q ∈ qs, Mate (E q) (F q) (G q)) → Mate (seqE E qs) (seqC F qs) (seqC G qs) := by
  intro qs
  induction qs with
  | nil =>
    intro _ l it
    refine ⟨fun h => by simp [seqC] at h, fun l' it' h => ?_⟩
    simp only [seqC, Option.some.injEq, Prod.mk.injEq] at h
    obtain ⟨rfl, rfl⟩ := h
    exact ⟨[], [], [], by simp, by simp, fun rest => rfl, rfl, rfl, by simp [seqC, bytesOf]⟩
  | cons q qs ih =>
    intro hq l it
    have h1 := hq q (List.mem_cons_self ..) l it
    have ih' := ih (fun q' h => hq q' (List.mem_cons_of_mem _ h))
    simp only [seqC]
    cases hF : F q (l, it) with
    | none => exact ⟨fun _ => by rw [h1.1 hF]; rfl, fun l' it' h => by simp at h⟩
    | some x1 =>
      obtain ⟨l1, it1⟩ := x1
      obtain ⟨v1, k1, p1, t1⟩ := h1.2 l1 it1 hF
      have h2 := ih' l1 it1
      refine ⟨fun h => ?_, fun l' it' h => ?_⟩
      · rw [t1.back]
        split
        · exact h2.1 h
        · rfl
      · obtain ⟨v2, k2, p2, t2⟩ := h2.2 l' it' h
        have hb : bytesOf (k1 ++ k2) (v1 ++ v2) = bytesOf k1 v1 ++ bytesOf k2 v2 := by
          rw [bytesOf_append _ _ _ (by rw [List.length_append, t1.same]; omega), t1.same, List.drop_left]
          rw [bytesOf_front k1 v1 v2 t1.same]
        refine ⟨v1 ++ v2, k1 ++ k2, p1 ++ p2, by rw [t2.items, t1.items, List.append_assoc], by rw [t1.bytes, t2.bytes, List.append_assoc], fun rest => ?_, by simp [t1.same, t2.same], by rw [hb, List.length_append, List.length_append, t1.len, t2.len], ?_⟩
        · simp only [seqE, List.append_assoc, t1.eaten, t2.eaten, joinE]
        · rw [t1.back, hb]
          by_cases e1 : p1 = bytesOf k1 v1
          · rw [if_pos e1]
            show seqC G qs (l1, it1) = _
            rw [t2.back]
            by_cases e2 : p2 = bytesOf k2 v2
            · rw [if_pos e2, if_pos (by rw [e1, e2])]
            · rw [if_neg e2, if_neg (fun h => e2 (List.append_inj h t1.len).2)]
          · rw [if_neg e1, if_neg (fun h => e1 (List.append_inj h t1.len).1)]
            rfl

theorem two8_num2 (a c : UInt8) (t : Int) (h : t = (num2 a c : Int) ∨ t = (num2 a c : Int) - 65536) : two8 t = [a, c] := by
  have ha := a.toNat_lt
  have hc := c.toNat_lt
  unfold num2 at h
  have e1 : t % 65536 / 256 = (a.toNat : Int) := by omega
  have e2 : t % 256 = (c.toNat : Int) := by omega
  unfold two8
  rw [e1, e2]
  simp [b8]
theorem turned_or (lo hi n : Int) : turned lo hi n = n ∨ turned lo hi n = n - 65536 := by
  unfold turned
  split
  · exact Or.inr rfl
  · exact Or.inl rfl

theorem mate_num (lo hi : Int) (E : List It → Eaten) (E' : Int → List It → Eaten) (F G : Int → RSt → Option RSt)
    (hE : ∀ t rest, lo ≤ t → t ≤ hi → E ((t, ⟨#[]⟩) :: rest) = joinE [false] (E' t rest))
    (h : ∀ t, lo ≤ t → t ≤ hi → Mate (E' t) (F t) (G t)) :
    Mate E (fun x => (rNum lo hi x).bind fun r => F r.1 r.2) (fun x => (rNum lo hi x).bind fun r => G r.1 r.2) := by
  intro l it
  match l with
  | [] => exact ⟨fun _ => rfl, fun l' it' h => by simp [rNum] at h⟩
  | [a] => exact ⟨fun _ => rfl, fun l' it' h => by simp [rNum] at h⟩
  | a :: c :: r =>
    have hR : rNum lo hi (a :: c :: r, it) = if turned lo hi (num2 a c) < lo ∨ hi < turned lo hi (num2 a c) then none else some (turned lo hi (num2 a c), (r, it ++ [(turned lo hi (num2 a c), ⟨#[]⟩)])) := rfl
    have ht := two8_num2 a c (turned lo hi (num2 a c)) (turned_or lo hi _)
    generalize turned lo hi (num2 a c) = t at hR ht
    by_cases hb : t < lo ∨ hi < t
    · rw [if_pos hb] at hR
      simp only [hR]
      exact ⟨fun _ => rfl, fun _ _ h => by simp at h⟩
    · rw [if_neg hb] at hR
      simp only [hR, Option.bind_some]
      obtain ⟨m1, m2⟩ := h t (by omega) (by omega) r (it ++ [(t, ⟨#[]⟩)])
      refine ⟨m1, fun l' it' hF => ?_⟩
      obtain ⟨v, ks, pre, T⟩ := m2 l' it' hF
      have hb8 : bytesOf (false :: ks) ((t, ⟨#[]⟩) :: v) = a :: c :: bytesOf ks v := by simp [bytesOf, enc8, ht]
      refine ⟨(t, ⟨#[]⟩) :: v, false :: ks, a :: c :: pre, by rw [T.items, List.append_assoc]; rfl, by rw [T.bytes]; rfl, fun rest => ?_, by simp [T.same], by rw [hb8]; simp [T.len], ?_⟩
      · rw [List.cons_append, hE t _ (by omega) (by omega), T.eaten]
        rfl
      · rw [hb8]
        simp only [hR, Option.bind_some]
        rw [T.back]
        simp

theorem mate_txt (E : List It → Eaten) (hE : ∀ x rest, x.1 = 0 → x.2.size ≤ 14 → E (x :: rest) = some ([true], rest)) : Mate E qTxt rTxt := by
  intro l it
  match l with
  | [] => exact ⟨fun _ => rfl, fun l' it' h => by simp [qTxt] at h⟩
  | [a] => exact ⟨fun _ => rfl, fun l' it' h => by simp [qTxt] at h⟩
  | a :: c :: r =>
    have hq : qTxt (a :: c :: r, it) = if num2 a c ≤ 14 ∧ num2 a c + num2 a c % 2 ≤ r.length then some (r.drop (num2 a c + num2 a c % 2), it ++ [(0, str (r.take (num2 a c)))]) else none := rfl
    have hr : rTxt (a :: c :: r, it) = if num2 a c ≤ 14 ∧ num2 a c ≤ r.length then
      (if num2 a c % 2 = 0 then some (r.drop (num2 a c), it ++ [(0, str (r.take (num2 a c)))])
       else match r.drop (num2 a c) with
        | p :: r' => if p = 0 then some (r', it ++ [(0, str (r.take (num2 a c)))]) else none
        | [] => none)
      else none := rfl
    have ht := two8_num2 a c (num2 a c) (Or.inl rfl)
    generalize num2 a c = n at hq hr ht
    by_cases h : n ≤ 14 ∧ n + n % 2 ≤ r.length
    · rw [if_pos h] at hq
      rw [if_pos ⟨h.1, by omega⟩] at hr
      refine ⟨fun h => (by rw [hq] at h; cases h), fun l' it' hF => ?_⟩
      rw [hq] at hF
      cases hF
      have hsz : (str (r.take n)).size = n := by
        rw [str_size, List.length_take]
        omega
      have hb : bytesOf [true] [(0, str (r.take n))] = a :: c :: (r.take n ++ if n % 2 = 1 then [0] else []) := by
        simp only [bytesOf, enc8, if_true, hsz, ht]
        simp
      refine ⟨[(0, str (r.take n))], [true], a :: c :: r.take (n + n % 2), rfl, by simp [List.take_append_drop], fun rest => hE _ rest rfl (by rw [hsz]; exact h.1), rfl, ?_, ?_⟩
      · rw [hb]
        simp only [List.length_cons, List.length_append, List.length_take]
        split <;> simp <;> omega
      · rw [hr, hb]
        by_cases he : n % 2 = 0
        · simp [he]
        · have h1 : n % 2 = 1 := by omega
          rw [if_neg he]
          cases hd : r.drop n with
          | nil =>
            have := congrArg List.length hd
            rw [List.length_drop] at this
            simp at this
            omega
          | cons p r' =>
            have hd2 : r.drop (n + 1) = r' := by rw [← List.drop_drop, hd]; rfl
            have hp : r[n]? = some p := by
              have := List.getElem?_drop (xs := r) (i := n) (j := 0)
              rw [hd] at this
              simpa using this.symm
            have htk : r.take (n + 1) = r.take n ++ [p] := by
              rw [List.take_add_one, hp]
              rfl
            rw [h1, hd2, htk]
            simp
    · rw [if_neg h] at hq
      refine ⟨fun _ => ?_, fun l' it' hF => (by rw [hq] at hF; cases hF)⟩
      rw [hr]
      by_cases h2 : n ≤ 14 ∧ n ≤ r.length
      · rw [if_pos h2, if_neg (by omega), List.drop_of_length_le (by omega)]
      · rw [if_neg h2]

/- what stands behind a number -/
def behindOf (g : Nat → Nat) (f p : Nat) (t : Int) : List Nat := if g p = 117 then [partOf (Pt.kids g f p) t] else if g p = 113 then List.replicate t.toNat (p + 2) else []
theorem carryP_num {σ : Type} (num : Int → Int → σ → Option (Int × σ)) (txt : σ → Option σ) (g : Nat → Nat) (f p : Nat) (h1 : ¬ g p = 115) (h2 : ¬ g p = 97) (h3 : ¬ g p = 114) :
    carryP num txt g (f + 1) p = fun x => (num (loOf (g p)) (hiOf g f p) x).bind fun r => seqC (carryP num txt g f) (behindOf g f p r.1) r.2 := by
  funext x
  simp only [carryP, if_neg h1, if_neg h2, if_neg h3, behindOf]
  congr 1
  funext r
  split
  · simp only [seqC]
    cases carryP num txt g f (partOf (Pt.kids g f p) r.1) r.2 <;> rfl
  · split
    · rfl
    · rfl

theorem mate_any (g : Nat → Nat) : ∀ f p, Mate (eat g f p) (carryP rNum qTxt g f p) (carryP rNum rTxt g f p) := by
  intro f
  induction f with
  | zero => intro p l it; exact ⟨fun _ => rfl, fun _ _ h => by simp [carryP] at h⟩
  | succ f ih =>
    intro p
    have sq := fun qs => mate_seq (E := eat g f) (F := carryP rNum qTxt g f) (G := carryP rNum rTxt g f) qs (fun q _ => ih q)
    by_cases hs : g p = 115
    · have e1 : carryP rNum qTxt g (f + 1) p = qTxt := by funext x; simp [carryP, hs]
      have e2 : carryP rNum rTxt g (f + 1) p = rTxt := by funext x; simp [carryP, hs]
      rw [e1, e2]
      refine mate_txt _ fun x rest h0 h14 => ?_
      have hh : headOf g f p (x :: rest) = some ([true], [], rest) := by simp [headOf, hs, h0, h14]
      rw [eat_cons hh]
      rfl
    · by_cases ha : g p = 97
      · have e1 : ∀ txt, carryP rNum txt g (f + 1) p = seqC (carryP rNum txt g f) (List.replicate (g (p + 1) - 48) (p + 2)) := by intro txt; funext x; simp [carryP, ha]
        have e2 : eat g (f + 1) p = seqE (eat g f) (List.replicate (g (p + 1) - 48) (p + 2)) := by
          funext v
          have hh : headOf g f p v = some ([], List.replicate (g (p + 1) - 48) (p + 2), v) := by simp [headOf, ha]
          rw [eat_cons hh, joinE_nil]
        rw [e1, e1, e2]
        exact sq _
      · by_cases hr : g p = 114
        · have e1 : ∀ txt, carryP rNum txt g (f + 1) p = seqC (carryP rNum txt g f) (Pt.kids g f p) := by intro txt; funext x; simp [carryP, hr]
          have e2 : eat g (f + 1) p = seqE (eat g f) (Pt.kids g f p) := by
            funext v
            have hh : headOf g f p v = some ([], Pt.kids g f p, v) := by simp [headOf, hr]
            rw [eat_cons hh, joinE_nil]
          rw [e1, e1, e2]
          exact sq _
        · rw [carryP_num _ _ _ _ _ hs ha hr, carryP_num _ _ _ _ _ hs ha hr]
          refine mate_num _ _ _ (fun t => seqE (eat g f) (behindOf g f p t)) _ _ (fun t rest h1 h2 => ?_) fun t _ _ => sq _
          have hh : headOf g f p ((t, ⟨#[]⟩) :: rest) = some ([false], behindOf g f p t, rest) := by
            simp only [headOf, if_neg ha, if_neg hr, if_neg hs, behindOf]
            rw [if_pos ⟨rfl, h1, h2⟩]
          rw [eat_cons hh]

end Go.Proofs.YtblomippkddgiaaGreatDoor.V
/-
  Plain mathematics: a value's bytes are read as this value; with a byte less or more they are no value's.
-/
namespace Go.Proofs.YtblomippkddgiaaGreatDoor.V
open Go.RowKit

def Ret (E : List It → Eaten) (G : RSt → Option RSt) : Prop := ∀ v ks r, E v = some (ks, r) → KindsIn ks v → ∀ e it, G (bytesOf ks v ++ e, it) = some (e, it ++ v.take ks.length)

theorem kinds_left {k1 k2 : List Bool} {v : List It} (h : KindsIn (k1 ++ k2) v) : KindsIn k1 v := fun i k x hk hx => h i k x (by rw [List.getElem?_append_left (List.getElem?_eq_some_iff.1 hk).1]; exact hk) hx
theorem kinds_right {k1 k2 : List Bool} {v : List It} (h : KindsIn (k1 ++ k2) v) : KindsIn k2 (v.drop k1.length) := fun i k x hk hx => h (k1.length + i) k x (by rw [List.getElem?_append_right (by omega), Nat.add_sub_cancel_left]; exact hk) (by rw [List.getElem?_drop] at hx; exact hx)

theorem ret_seq {E : Nat → List It → Eaten} {G : Nat → RSt → Option RSt} : ∀ qs : List Nat, (∀ q ∈ qs, Heads (E q)) → (∀ q ∈ qs, Ret (E q) (G q)) → Ret (seqE E qs) (seqC G qs) := by
  intro qs
  induction qs with
  | nil =>
    intro _ _ v ks r h _ e it
    simp only [seqE, Option.some.injEq, Prod.mk.injEq] at h
    obtain ⟨rfl, rfl⟩ := h
    simp [seqC, bytesOf]
  | cons q qs ih =>
    intro hH hR v ks r h hK e it
    simp only [seqE] at h
    cases hE : E q v with
    | none => rw [hE] at h; cases h
    | some a =>
      obtain ⟨k1, r1⟩ := a
      rw [hE] at h
      simp only at h
      cases hS : seqE E qs r1 with
      | none => rw [hS] at h; cases h
      | some a =>
        obtain ⟨k2, r2⟩ := a
        rw [hS] at h
        simp only [joinE, Option.some.injEq, Prod.mk.injEq] at h
        obtain ⟨rfl, rfl⟩ := h
        obtain ⟨h1, h2⟩ := hH q (List.mem_cons_self ..) v k1 r1 hE
        subst h1
        rw [bytesOf_append k1 k2 v h2, List.append_assoc]
        simp only [seqC]
        rw [hR q (List.mem_cons_self ..) v k1 _ hE (kinds_left hK)]
        show seqC G qs _ = _
        rw [ih (fun q' h' => hH q' (List.mem_cons_of_mem _ h')) (fun q' h' => hR q' (List.mem_cons_of_mem _ h')) _ k2 r2 hS (kinds_right hK)]
        rw [List.length_append, List.take_add, List.append_assoc]

theorem num2_two8 (n : Int) : ∃ a c : UInt8, two8 n = [a, c] ∧ (num2 a c : Int) = n % 65536 := by
  refine ⟨_, _, rfl, ?_⟩
  have h1 : (0 : Int) ≤ n % 65536 / 256 := by omega
  have h2 : n % 65536 / 256 ≤ 255 := by omega
  have h3 : (0 : Int) ≤ n % 256 := by omega
  have h4 : n % 256 ≤ 255 := by omega
  have b1 := b8_val h1 h2
  have b2 := b8_val h3 h4
  unfold num2
  omega

theorem ret_txt (E : List It → Eaten) (hE : ∀ v ks r, E v = some (ks, r) → ∃ x, v = x :: r ∧ ks = [true] ∧ x.1 = 0 ∧ x.2.size ≤ 14) : Ret E rTxt := by
  intro v ks r h _ e it
  obtain ⟨x, rfl, rfl, h0, h14⟩ := hE v ks r h
  obtain ⟨a, c, hac, hn⟩ := num2_two8 (x.2.size : Int)
  have hn' : num2 a c = x.2.size := by omega
  have hb : bytesOf [true] (x :: r) = a :: c :: (x.2.data.toList ++ (if x.2.size % 2 = 1 then [0] else [])) := by
    simp only [bytesOf, enc8, if_true, hac]
    simp
  have hl : x.2.data.toList.length = x.2.size := by simp
  have hx : (0, str x.2.data.toList) = x := by
    obtain ⟨x0, x1⟩ := x
    simp only at h0
    subst h0
    simp
  rw [hb]
  simp only [List.cons_append, rTxt, hn']
  rw [if_pos ⟨h14, by simp only [List.length_append, hl]; omega⟩]
  have htk : (x.2.data.toList ++ (if x.2.size % 2 = 1 then [0] else []) ++ e).take x.2.size = x.2.data.toList := by
    rw [List.append_assoc, ← hl, List.take_left]
  have hdr : (x.2.data.toList ++ (if x.2.size % 2 = 1 then [0] else []) ++ e).drop x.2.size = (if x.2.size % 2 = 1 then [0] else []) ++ e := by
    rw [List.append_assoc, ← hl, List.drop_left]
  rw [htk, hdr, hx]
  by_cases h2 : x.2.size % 2 = 0
  · rw [if_pos h2, if_neg (by omega)]
    simp
  · rw [if_neg h2, if_pos (by omega)]
    simp

theorem ret_num (lo hi : Int) (hlh : lo = 0 ∨ (lo = -32768 ∧ hi = 32767)) (E : List It → Eaten) (E' : Int → List It → Eaten) (G : Int → RSt → Option RSt)
    (hE : ∀ v ks r, E v = some (ks, r) → ∃ x r' k', v = x :: r' ∧ ks = false :: k' ∧ x.2.size = 0 ∧ lo ≤ x.1 ∧ x.1 ≤ hi ∧ E' x.1 r' = some (k', r)) (h : ∀ t, Ret (E' t) (G t)) :
    Ret E (fun x => (rNum lo hi x).bind fun r => G r.1 r.2) := by
  intro v ks r hEv hK e it
  obtain ⟨x, r', k', rfl, rfl, hs0, hlo, hhi, hE'⟩ := hE v ks r hEv
  obtain ⟨a, c, hac, hn⟩ := num2_two8 x.1
  have hr := (hK 0 false x rfl rfl).2 rfl
  have ht : turned lo hi (num2 a c) = x.1 := by
    unfold turned
    rcases hlh with h0 | ⟨h0, h1⟩
    · rw [if_neg (by omega)]
      omega
    · split <;> omega
  have hb : bytesOf (false :: k') (x :: r') = a :: c :: bytesOf k' r' := by
    simp [bytesOf, enc8, hac]
  have hx : (x.1, (⟨#[]⟩ : ByteArray)) = x := by
    obtain ⟨x0, x1⟩ := x
    simp only at hs0
    have : x1 = ⟨#[]⟩ := by
      apply ByteArray.ext
      apply Array.eq_empty_of_size_eq_zero
      exact hs0
    rw [this]
  rw [hb]
  simp only [List.cons_append, rNum, ht]
  rw [if_neg (by omega), hx]
  simp only [Option.bind_some]
  have hK' : KindsIn k' r' := fun i k y hk hy => hK (i + 1) k y (by simpa using hk) (by simpa using hy)
  rw [h x.1 r' k' r hE' hK' e (it ++ [x])]
  simp

theorem ret_any (g : Nat → Nat) : ∀ f p, Ret (eat g f p) (carryP rNum rTxt g f p) := by
  intro f
  induction f with
  | zero => intro p v ks r h; simp [eat] at h
  | succ f ih =>
    intro p
    have sq := fun qs => ret_seq (E := eat g f) (G := carryP rNum rTxt g f) qs (fun q _ => eat_heads g f q) (fun q _ => ih q)
    by_cases ha : g p = 97
    · have e1 : carryP rNum rTxt g (f + 1) p = seqC (carryP rNum rTxt g f) (List.replicate (g (p + 1) - 48) (p + 2)) := by funext x; simp [carryP, ha]
      have e2 : eat g (f + 1) p = seqE (eat g f) (List.replicate (g (p + 1) - 48) (p + 2)) := by
        funext v
        have hh : headOf g f p v = some ([], List.replicate (g (p + 1) - 48) (p + 2), v) := by simp [headOf, ha]
        rw [eat_cons hh, joinE_nil]
      rw [e1, e2]
      exact sq _
    · by_cases hr : g p = 114
      · have e1 : carryP rNum rTxt g (f + 1) p = seqC (carryP rNum rTxt g f) (Pt.kids g f p) := by funext x; simp [carryP, hr]
        have e2 : eat g (f + 1) p = seqE (eat g f) (Pt.kids g f p) := by
          funext v
          have hh : headOf g f p v = some ([], Pt.kids g f p, v) := by simp [headOf, hr]
          rw [eat_cons hh, joinE_nil]
        rw [e1, e2]
        exact sq _
      · by_cases hs : g p = 115
        · have e1 : carryP rNum rTxt g (f + 1) p = rTxt := by funext x; simp [carryP, hs]
          rw [e1]
          refine ret_txt _ fun v ks r h => ?_
          cases v with
          | nil => simp [eat, headOf, ha, hr] at h
          | cons x v =>
            by_cases hok : x.1 = 0 ∧ x.2.size ≤ 14
            · have hh : headOf g f p (x :: v) = some ([true], [], v) := by simp [headOf, hs, hok]
              rw [eat_cons hh] at h
              simp only [seqE, joinE, List.append_nil, Option.some.injEq, Prod.mk.injEq] at h
              obtain ⟨rfl, rfl⟩ := h
              exact ⟨x, rfl, rfl, hok.1, hok.2⟩
            · have hh : headOf g f p (x :: v) = none := by
                simp only [headOf, hs]
                simp
                omega
              rw [eat_none hh] at h
              cases h
        · rw [carryP_num _ _ _ _ _ hs ha hr]
          have hlh : loOf (g p) = 0 ∨ (loOf (g p) = -32768 ∧ hiOf g f p = 32767) := by
            by_cases h5 : g p = 105
            · exact Or.inr ⟨by simp [loOf, h5], by simp [hiOf, h5]⟩
            · exact Or.inl (by simp [loOf, h5])
          refine ret_num _ _ hlh _ (fun t => seqE (eat g f) (behindOf g f p t)) (fun t => seqC (carryP rNum rTxt g f) (behindOf g f p t)) (fun v ks r h => ?_) fun t => sq _
          cases v with
          | nil => simp [eat, headOf, ha, hr] at h
          | cons x v =>
            by_cases hok : x.2.size = 0 ∧ loOf (g p) ≤ x.1 ∧ x.1 ≤ hiOf g f p
            · have hh : headOf g f p (x :: v) = some ([false], behindOf g f p x.1, v) := by
                simp only [headOf, if_neg ha, if_neg hr, if_neg hs, behindOf]
                rw [if_pos hok]
              rw [eat_cons hh] at h
              cases hS : seqE (eat g f) (behindOf g f p x.1) v with
              | none => rw [hS] at h; cases h
              | some a =>
                obtain ⟨k', r'⟩ := a
                rw [hS] at h
                simp only [joinE, Option.some.injEq, Prod.mk.injEq] at h
                obtain ⟨rfl, rfl⟩ := h
                exact ⟨x, v, k', rfl, rfl, hok.1, hok.2.1, hok.2.2, hS⟩
            · have hh : headOf g f p (x :: v) = none := by
                simp only [headOf, if_neg ha, if_neg hr, if_neg hs]
                rw [if_neg hok]
              rw [eat_none hh] at h
              cases h

/- with more bytes behind, reading goes the same way -/
def Ext (G : RSt → Option RSt) : Prop := ∀ l it l' it', G (l, it) = some (l', it') → ∀ e, G (l ++ e, it) = some (l' ++ e, it')
theorem ext_seq {G : Nat → RSt → Option RSt} : ∀ qs : List Nat, (∀ q ∈ qs, Ext (G q)) → Ext (seqC G qs) := by
  intro qs
  induction qs with
  | nil =>
    intro _ l it l' it' h e
    simp only [seqC, Option.some.injEq, Prod.mk.injEq] at h ⊢
    exact ⟨by rw [h.1], h.2⟩
  | cons q qs ih =>
    intro hq l it l' it' h e
    simp only [seqC] at h ⊢
    cases hG : G q (l, it) with
    | none => rw [hG] at h; cases h
    | some a =>
      obtain ⟨l1, it1⟩ := a
      rw [hG] at h
      rw [hq q (List.mem_cons_self ..) l it l1 it1 hG e]
      exact ih (fun q' h' => hq q' (List.mem_cons_of_mem _ h')) l1 it1 l' it' h e
theorem ext_num (lo hi : Int) (G : Int → RSt → Option RSt) (h : ∀ t, Ext (G t)) : Ext (fun x => (rNum lo hi x).bind fun r => G r.1 r.2) := by
  intro l it l' it' hx e
  match l with
  | [] => simp [rNum] at hx
  | [a] => simp [rNum] at hx
  | a :: c :: r =>
    simp only [rNum, List.cons_append] at hx ⊢
    split at hx
    · cases hx
    · rename_i hb
      rw [if_neg hb]
      exact h _ _ _ _ _ hx e
theorem ext_txt : Ext rTxt := by
  intro l it l' it' hx e
  match l with
  | [] => simp [rTxt] at hx
  | [a] => simp [rTxt] at hx
  | a :: c :: r =>
    simp only [rTxt, List.cons_append] at hx ⊢
    generalize num2 a c = n at hx ⊢
    split at hx
    · rename_i hb
      rw [if_pos ⟨hb.1, by rw [List.length_append]; omega⟩, List.take_append_of_le_length hb.2, List.drop_append_of_le_length hb.2]
      split at hx
      · rename_i h2
        rw [if_pos h2]
        cases hx
        rfl
      · rename_i h2
        rw [if_neg h2]
        cases hd : r.drop n with
        | nil => rw [hd] at hx; cases hx
        | cons p r' =>
          rw [hd] at hx
          simp only [List.cons_append] at hx ⊢
          split at hx
          · rename_i hp
            rw [if_pos hp]
            cases hx
            rfl
          · cases hx
    · cases hx
theorem ext_any (g : Nat → Nat) : ∀ f p, Ext (carryP rNum rTxt g f p) := by
  intro f
  induction f with
  | zero => intro p l it l' it' h; simp [carryP] at h
  | succ f ih =>
    intro p
    have sq := fun qs => ext_seq (G := carryP rNum rTxt g f) qs (fun q _ => ih q)
    by_cases hs : g p = 115
    · rw [show carryP rNum rTxt g (f + 1) p = rTxt by funext x; simp [carryP, hs]]
      exact ext_txt
    · by_cases ha : g p = 97
      · rw [show carryP rNum rTxt g (f + 1) p = seqC (carryP rNum rTxt g f) (List.replicate (g (p + 1) - 48) (p + 2)) by funext x; simp [carryP, ha]]
        exact sq _
      · by_cases hr : g p = 114
        · rw [show carryP rNum rTxt g (f + 1) p = seqC (carryP rNum rTxt g f) (Pt.kids g f p) by funext x; simp [carryP, hr]]
          exact sq _
        · rw [carryP_num _ _ _ _ _ hs ha hr]
          exact ext_num _ _ _ fun t => sq _

/- what Unmarshal says of a value's bytes, of a byte less, of a byte more -/
theorem un_back (s : ByteArray) (v : List It) (ks : List Bool) (hc : (Pt.chk (nx s) s.size).1 = 0) (he : eat (nx s) (s.size + 1) 0 v = some (ks, [])) (hK : Kinds ks v) (hl : (bytesOf ks v).length ≤ 70) :
    uFull s (bytesOf ks v) = (0, v) ∧ (∀ l b, bytesOf ks v = l ++ [b] → uFull s l = (6, [])) ∧ uFull s (bytesOf ks v ++ [0]) = (if (bytesOf ks v).length = 70 then 5 else 6, []) := by
  have hR := fun e => ret_any (nx s) (s.size + 1) 0 v ks [] he hK.2 e []
  have htk : v.take ks.length = v := List.take_of_length_le (by rw [hK.1]; exact Nat.le_refl _)
  simp only [htk, List.nil_append] at hR
  have hE := ext_any (nx s) (s.size + 1) 0
  have hb : ¬ 70 < (bytesOf ks v).length := by omega
  refine ⟨?_, fun l b hlb => ?_, ?_⟩
  · have h := hR []
    rw [List.append_nil] at h
    simp [uFull, hc, uRes, hb, h]
  · have hll : ¬ 70 < l.length := by
      have := congrArg List.length hlb
      rw [List.length_append] at this
      omega
    simp only [uFull, hc, if_true, uRes, if_neg hll]
    cases hr : carryP rNum rTxt (nx s) (s.size + 1) 0 (l, []) with
    | none => rfl
    | some a =>
      obtain ⟨l', v'⟩ := a
      by_cases h0 : l' = []
      · subst h0
        have h1 := hE l [] [] v' hr [b]
        rw [← hlb] at h1
        have h2 := hR []
        rw [List.append_nil, h1] at h2
        cases h2
      · simp [h0]
  · have h := hR [0]
    by_cases h70 : (bytesOf ks v).length = 70
    · rw [if_pos h70]
      simp [uFull, hc, uRes, h70]
    · rw [if_neg h70]
      have : ¬ 70 < (bytesOf ks v ++ [0]).length := by simp; omega
      simp only [uFull, hc, if_true, uRes, if_neg this, h]
      simp

end Go.Proofs.YtblomippkddgiaaGreatDoor.V
