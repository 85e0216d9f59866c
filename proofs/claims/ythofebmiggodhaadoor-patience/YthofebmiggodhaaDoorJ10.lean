/-
  Joined: VRefMost VEat VCheck VFace VAlone.
-/
import Derived.Test.YthofebmiggodhaaDoorJ09
import Derived.Defers
import Derived.Recover
/-
  The document's own 'inner', 'within' and 'most', and what a type that is one holds at its place.
-/
namespace Go.Proofs.YthofebmiggodhaaDoor.V
open Go.RowKit

theorem okp_cases {s : ByteArray} {f p : Nat} (h : Okp s (f + 1) p) :
    (nx s p = 98 ∨ nx s p = 99 ∨ nx s p = 105 ∨ nx s p = 115) ∨ (nx s p = 101 ∧ p + 1 < s.size ∧ 49 ≤ nx s (p + 1) ∧ nx s (p + 1) ≤ 57) ∨
    (nx s p = 97 ∧ p + 1 < s.size ∧ 49 ≤ nx s (p + 1) ∧ nx s (p + 1) ≤ 57 ∧ Okp s f (p + 2)) ∨ (nx s p = 113 ∧ p + 1 < s.size ∧ 48 ≤ nx s (p + 1) ∧ nx s (p + 1) ≤ 57 ∧ Okp s f (p + 2)) ∨ Okl s f p := by
  have hlt := h.lt
  have hfu := h.fuel
  have hok := h.ok
  by_cases hl : nx s p = 98 ∨ nx s p = 99 ∨ nx s p = 105 ∨ nx s p = 115
  · exact Or.inl hl
  have hlf : Pt.isLeaf (nx s p) = false := by simp [Pt.isLeaf]; omega
  by_cases he : nx s p = 101
  · have hty : Pt.ty (nx s) (f + 1) p = Pt.dig (nx s) 1 (p + 1) := by simp [Pt.ty, he, Pt.isLeaf]
    rw [hty] at hok
    unfold Pt.dig at hok
    split at hok
    · rename_i hc
      exact Or.inr (Or.inl ⟨he, nx_pos (s := s) (p := p + 1) rfl (by omega), by omega, hc.2⟩)
    · cases hok
  by_cases ha : nx s p = 97
  · have hty : Pt.ty (nx s) (f + 1) p = (if (Pt.dig (nx s) 1 (p + 1)).1 then Pt.ty (nx s) f (p + 2) else (false, p + 1)) := by simp [Pt.ty, ha, Pt.isLeaf]
    rw [hty] at hok
    by_cases hc : 48 + 1 ≤ nx s (p + 1) ∧ nx s (p + 1) ≤ 57
    · have hd : Pt.dig (nx s) 1 (p + 1) = (true, p + 2) := by unfold Pt.dig; rw [if_pos hc]
      rw [hd, if_pos rfl] at hok
      have hl1 := nx_pos (s := s) (p := p + 1) rfl (by omega)
      exact Or.inr (Or.inr (Or.inl ⟨ha, hl1, by omega, hc.2, ⟨by omega, by omega, hok⟩⟩))
    · have hd : Pt.dig (nx s) 1 (p + 1) = (false, p + 1) := by unfold Pt.dig; rw [if_neg hc]
      rw [hd, if_neg (by simp)] at hok
      cases hok
  by_cases hq : nx s p = 113
  · have hty : Pt.ty (nx s) (f + 1) p = (if (Pt.dig (nx s) 0 (p + 1)).1 then Pt.ty (nx s) f (p + 2) else (false, p + 1)) := by simp [Pt.ty, hq, Pt.isLeaf]
    rw [hty] at hok
    by_cases hc : 48 + 0 ≤ nx s (p + 1) ∧ nx s (p + 1) ≤ 57
    · have hd : Pt.dig (nx s) 0 (p + 1) = (true, p + 2) := by unfold Pt.dig; rw [if_pos hc]
      rw [hd, if_pos rfl] at hok
      have hl1 := nx_pos (s := s) (p := p + 1) rfl (by omega)
      exact Or.inr (Or.inr (Or.inr (Or.inl ⟨hq, hl1, by omega, hc.2, ⟨by omega, by omega, hok⟩⟩)))
    · have hd : Pt.dig (nx s) 0 (p + 1) = (false, p + 1) := by unfold Pt.dig; rw [if_neg hc]
      rw [hd, if_neg (by simp)] at hok
      cases hok
  by_cases hr : nx s p = 114 ∨ nx s p = 117
  · exact Or.inr (Or.inr (Or.inr (Or.inr ⟨hr, h⟩)))
  · have hty : Pt.ty (nx s) (f + 1) p = (false, p) := by simp [Pt.ty, hlf, he, ha, hq, hr]
    rw [hty] at hok
    cases hok

theorem okl_kids {s : ByteArray} {f p : Nat} (h : Okl s f p) : ∀ q ∈ Pt.kids (nx s) f p, p < q ∧ Okp s f q := by
  obtain ⟨h1, h2, c, hc⟩ := h.chain
  intro q hq
  have := chain_ok _ _ _ hc h1 h2 q hq
  exact ⟨by omega, this.2⟩

theorem byte_fact {s : ByteArray} {p c : Nat} (hp : p < s.size) (h : nx s p = c) : ((s[p]).toNat : Int) = (c : Int) := by rw [← nx_in hp, h]

def loOf (c : Nat) : Int := if c = 105 then -32768 else 0
def hiOf (g : Nat → Nat) (f p : Nat) : Int :=
  if g p = 98 then 1 else if g p = 99 then 65535 else if g p = 105 then 32767 else if g p = 101 then (g (p + 1) : Int) - 48 - 1 else if g p = 113 then (g (p + 1) : Int) - 48 else ((Pt.kids g f p).length : Int) - 1

end Go.Proofs.YthofebmiggodhaaDoor.V
/-
  Which items a value of a type takes, and which of them are strings: by the type's text. Items as they lie in memory.
-/
namespace Go.Proofs.YthofebmiggodhaaDoor.V
open Go.RowKit

abbrev It := Int × ByteArray
abbrev Eaten := Option (List Bool × List It)

def headOf (g : Nat → Nat) (f p : Nat) (v : List It) : Option (List Bool × List Nat × List It) :=
  if g p = 97 then some ([], List.replicate (g (p + 1) - 48) (p + 2), v)
  else if g p = 114 then some ([], Pt.kids g f p, v)
  else match v with
    | [] => none
    | x :: r =>
      if g p = 115 then (if x.1 = 0 ∧ x.2.size ≤ 14 then some ([true], [], r) else none)
      else if x.2.size = 0 ∧ loOf (g p) ≤ x.1 ∧ x.1 ≤ hiOf g f p then
        some ([false], (if g p = 117 then [partOf (Pt.kids g f p) x.1] else if g p = 113 then List.replicate x.1.toNat (p + 2) else []), r)
      else none

def joinE (k0 : List Bool) : Eaten → Eaten
  | none => none
  | some (k, r) => some (k0 ++ k, r)

def seqE (E : Nat → List It → Eaten) : List Nat → List It → Eaten
  | [], v => some ([], v)
  | q :: qs, v => match E q v with
    | none => none
    | some (k, r) => joinE k (seqE E qs r)

def eat (g : Nat → Nat) : Nat → Nat → List It → Eaten
  | 0, _, _ => none
  | f + 1, p, v => match headOf g f p v with
    | none => none
    | some (k0, qs, r) => joinE k0 (seqE (eat g f) qs r)

theorem joinE_nil (e : Eaten) : joinE [] e = e := by
  cases e with
  | none => rfl
  | some e => rfl
theorem joinE_join (a b : List Bool) (e : Eaten) : joinE a (joinE b e) = joinE (a ++ b) e := by
  cases e with
  | none => rfl
  | some e => simp [joinE]

theorem seqE_snoc (E : Nat → List It → Eaten) : ∀ (qs : List Nat) (q : Nat) (v : List It), seqE E (qs ++ [q]) v = match seqE E qs v with
    | none => none
    | some (k, r) => joinE k (E q r) := by
  intro qs
  induction qs with
  | nil =>
    intro q v
    simp only [List.nil_append, seqE]
    cases E q v with
    | none => rfl
    | some e => simp [joinE]
  | cons a qs ih =>
    intro q v
    simp only [List.cons_append, seqE]
    cases E a v with
    | none => rfl
    | some e =>
      obtain ⟨k, r⟩ := e
      simp only [ih]
      cases seqE E qs r with
      | none => rfl
      | some e' =>
        obtain ⟨k', r'⟩ := e'
        simp only [joinE]
        cases E q r' with
        | none => rfl
        | some e'' => simp
theorem seqE_none (E : Nat → List It → Eaten) {qs : List Nat} {v : List It} {k : Nat} (h : seqE E (qs.take k) v = none) : seqE E qs v = none := by
  revert v k
  induction qs with
  | nil => intro v k h; simp [seqE] at h
  | cons a qs ih =>
    intro v k h
    cases k with
    | zero => simp [seqE] at h
    | succ k =>
      simp only [List.take_succ_cons, seqE] at h ⊢
      cases hE : E a v with
      | none => rfl
      | some e =>
        obtain ⟨ks, r⟩ := e
        rw [hE] at h
        simp only at h ⊢
        cases hs : seqE E (qs.take k) r with
        | none => rw [ih hs]; rfl
        | some e' => rw [hs] at h; simp [joinE] at h

/- what is eaten stands at the head of what was there -/
def Heads (E : List It → Eaten) : Prop := ∀ v ks r, E v = some (ks, r) → r = v.drop ks.length ∧ ks.length ≤ v.length
theorem seqE_heads {E : Nat → List It → Eaten} : ∀ qs : List Nat, (∀ q ∈ qs, Heads (E q)) → Heads (seqE E qs) := by
  intro qs
  induction qs with
  | nil => intro _ v ks r h; simp [seqE] at h; obtain ⟨rfl, rfl⟩ := h; simp
  | cons a qs ih =>
    intro hE v ks r h
    simp only [seqE] at h
    cases ha : E a v with
    | none => rw [ha] at h; cases h
    | some e =>
      obtain ⟨k, r1⟩ := e
      rw [ha] at h
      simp only at h
      obtain ⟨h1, h2⟩ := hE a (by simp) v k r1 ha
      cases hs : seqE E qs r1 with
      | none => rw [hs] at h; cases h
      | some e' =>
        obtain ⟨k', r2⟩ := e'
        rw [hs] at h
        simp only [joinE, Option.some.injEq, Prod.mk.injEq] at h
        obtain ⟨rfl, rfl⟩ := h
        obtain ⟨h3, h4⟩ := ih (fun q hq => hE q (by simp [hq])) r1 k' r2 hs
        subst h1
        rw [List.length_drop] at h4
        refine ⟨?_, by simp; omega⟩
        rw [h3, List.drop_drop, List.length_append]
theorem headOf_heads {g : Nat → Nat} {f p : Nat} {v : List It} {k0 : List Bool} {qs : List Nat} {r : List It} (h : headOf g f p v = some (k0, qs, r)) : r = v.drop k0.length ∧ k0.length ≤ v.length := by
  unfold headOf at h
  split at h
  · cases h; simp
  · split at h
    · cases h; simp
    · cases v with
      | nil => cases h
      | cons x v =>
        simp only at h
        split at h
        · split at h
          · cases h; simp
          · cases h
        · split at h
          · cases h; simp
          · cases h
theorem eat_heads (g : Nat → Nat) : ∀ f p, Heads (eat g f p) := by
  intro f
  induction f with
  | zero => intro p v ks r h; cases h
  | succ f ih =>
    intro p v ks r h
    simp only [eat] at h
    cases hh : headOf g f p v with
    | none => rw [hh] at h; cases h
    | some e =>
      obtain ⟨k0, qs, r0⟩ := e
      rw [hh] at h
      simp only at h
      obtain ⟨h1, h2⟩ := headOf_heads hh
      cases hs : seqE (eat g f) qs r0 with
      | none => rw [hs] at h; cases h
      | some e' =>
        obtain ⟨k', r2⟩ := e'
        rw [hs] at h
        simp only [joinE, Option.some.injEq, Prod.mk.injEq] at h
        obtain ⟨rfl, rfl⟩ := h
        obtain ⟨h3, h4⟩ := seqE_heads qs (fun q _ => ih q) r0 k' r2 hs
        subst h1
        rw [List.length_drop] at h4
        refine ⟨?_, by simp; omega⟩
        rw [h3, List.drop_drop, List.length_append]

/- items in memory -/
def Items (w : World) (V : Value) (v : List It) : Prop := ∃ a cap, V = .slice a v.length cap ∧ v.length ≤ cap ∧ (v = [] ∨ ∃ b off, a = some ⟨b, off, none⟩ ∧ b < w.heap.size ∧ ∀ j x, v[j]? = some x → w.cell? ⟨b, off + j * 2, none⟩ = some (.int .i64 x.1) ∧ w.cell? ⟨b, off + j * 2 + 1, none⟩ = some (.string x.2))
theorem Items.below {w w' : World} {V : Value} {v : List It} (h : Items w V v) (hb : Below w.heap.size w w') : Items w' V v := by
  obtain ⟨a, cap, hV, hc, h⟩ := h
  refine ⟨a, cap, hV, hc, ?_⟩
  rcases h with h | ⟨b, off, ha, hl, hx⟩
  · exact Or.inl h
  · refine Or.inr ⟨b, off, ha, Nat.lt_of_lt_of_le hl hb.size, fun j x hj => ?_⟩
    obtain ⟨h1, h2⟩ := hx j x hj
    exact ⟨(hb.cell (p := ⟨b, _, none⟩) hl).trans h1, (hb.cell (p := ⟨b, _, none⟩) hl).trans h2⟩
theorem Items.at {w : World} {V : Value} {v : List It} (h : Items w V v) {i : Nat} {x : It} (hi : v[i]? = some x) : ∃ b off cap, V = .slice (some ⟨b, off, none⟩) v.length cap ∧ b < w.heap.size ∧ w.cell? ⟨b, off + i * 2, none⟩ = some (.int .i64 x.1) ∧ w.cell? ⟨b, off + i * 2 + 1, none⟩ = some (.string x.2) := by
  obtain ⟨a, cap, hV, _, h⟩ := h
  rcases h with rfl | ⟨b, off, ha, hl, hx⟩
  · simp at hi
  · subst ha
    exact ⟨b, off, cap, hV, hl, hx i x hi⟩

def vI (i : Nat) : Eaten → Int
  | none => -1
  | some (ks, _) => (i : Int) + (ks.length : Int)

end Go.Proofs.YthofebmiggodhaaDoor.V
/-
  The landed code's Read of a type, and Check over it: what gives up by panic is caught at the face.
-/
namespace Go.Proofs.YthofebmiggodhaaDoor.V
open Go.RowKit

abbrev faultOf (n q : Nat) : Value := .agg #[.int .i64 n, .int .i64 q]
abbrev gaveUp (n q : Nat) : Ending := .panicked [{ v := .iface 68 (faultOf n q), recovered := false }]

theorem at_new (w : World) (s : ByteArray) : At (w.alloc (.cells #[.string s, .int .i64 0] 155)) w.heap.size s 0 := by
  show (w.heap.push _)[w.heap.size]? = _
  rw [Array.getElem?_push_size]
  rfl

set_option maxHeartbeats 1000000 in
theorem read_long (s : ByteArray) (w : World) (hs : ¬ s.size ≤ 40) :
    Calls Tryd.prog 75 #[.string s] w fun e w' => e = gaveUp 1 0 ∧ Below w.heap.size w w' := by
  have h : (40 : Int) < (s.size : Int) := by omega
  clear hs
  go_enter Tryd.func75, Tryd.ntmps75
  go_wp2
  exact ⟨rfl, rfl, (Below.refl _ _).alloc (Nat.le_refl _) _⟩

theorem below_of {w v : World} {b : Nat} (hk : Keeps b (w.alloc zero63) v) (hb : w.heap.size ≤ b) : Below w.heap.size w v :=
  ((Below.refl _ _).alloc (Nat.le_refl _) zero63).trans ⟨hk.os, hk.tape, hk.output, hk.size, fun k h => hk.block k (by simp; omega) (by omega)⟩

theorem one_in (s : ByteArray) (hs : s.size ≤ 40) (w : World) : Calls Tryd.prog 85 #[.pointer (some ⟨w.heap.size + 1, 0, none⟩)] ((w.alloc zero63).alloc (.cells #[.string s, .int .i64 0] 155)) (TyPost (w.heap.size + 1) s (s.size + 1) 0 ((w.alloc zero63).alloc (.cells #[.string s, .int .i64 0] 155))) := by
  have h := at_new (w.alloc zero63) s
  have e : (w.alloc zero63).heap.size = w.heap.size + 1 := by simp
  rw [e] at h
  exact one_any (w.heap.size + 1) s hs (s.size + 1) 0 _ h (by omega) (by omega)

set_option maxHeartbeats 1000000 in
theorem read_wrong (s : ByteArray) (w : World) (hs : s.size ≤ 40) (hT : (Pt.ty (nx s) (s.size + 1) 0).1 = false) :
    Calls Tryd.prog 75 #[.string s] w fun e w' => e = gaveUp 2 (Pt.ty (nx s) (s.size + 1) 0).2 ∧ Below w.heap.size w w' := by
  have H := one_in s hs w
  unfold TyPost at H
  simp only [hT, Bool.false_eq_true, if_false] at H
  clear hT
  go_enter Tryd.func75, Tryd.ntmps75
  go_wp2_with fail
  refine H.mono ?_
  rintro e w1 ⟨rfl, hk⟩
  go_wp2
  exact ⟨rfl, rfl, below_of (((Keeps.refl _ _).alloc _).trans hk) (by omega)⟩

set_option maxHeartbeats 1000000 in
theorem read_more (s : ByteArray) (w : World) (hs : s.size ≤ 40) (hT : (Pt.ty (nx s) (s.size + 1) 0).1 = true) (hq : (Pt.ty (nx s) (s.size + 1) 0).2 < s.size) :
    Calls Tryd.prog 75 #[.string s] w fun e w' => e = gaveUp 2 (Pt.ty (nx s) (s.size + 1) 0).2 ∧ Below w.heap.size w w' := by
  have H := one_in s hs w
  unfold TyPost at H
  simp only [hT, if_true] at H
  clear hT
  generalize (Pt.ty (nx s) (s.size + 1) 0).2 = q at *
  have hq' : (q : Int) < (s.size : Int) := by omega
  go_enter Tryd.func75, Tryd.ntmps75
  go_wp2_with fail
  refine H.mono ?_
  rintro e w1 ⟨c0, c1, c2, rfl, hk, ha, hr⟩
  obtain ⟨⟨x0, rfl⟩, ⟨x1, rfl⟩, ⟨ea, en, ec, rfl⟩⟩ := rep_shape hr
  clear H hr
  have hp := fun o => (ha.alloc o).place
  have hk' := ((Keeps.refl (w.heap.size + 1) (w.alloc zero63)).alloc _).trans hk
  have hb1 := ha.lt
  go_wp2_with fail
  refine (wrong_any (w.heap.size + 1) q s _ (ha.alloc _)).mono ?_
  rintro e w2 ⟨rfl, hk2⟩
  go_wp2
  exact ⟨rfl, rfl, below_of ((hk'.alloc _).trans hk2) (by omega)⟩

set_option maxHeartbeats 1000000 in
theorem read_end (s : ByteArray) (w : World) (hs : s.size ≤ 40) (hT : (Pt.ty (nx s) (s.size + 1) 0).1 = true) (hq : (Pt.ty (nx s) (s.size + 1) 0).2 = s.size) :
    Calls Tryd.prog 75 #[.string s] w fun e w' => (if 4 < Pt.dep (nx s) (s.size + 1) 0 then e = gaveUp 3 0 else ∃ c0 c1 c2, e = .returned (.agg #[c0, c1, c2]) ∧ Rep w' (fun k => w.heap.size ≤ k) (nx s) (s.size + 1) 0 c0 c1 c2) ∧ Below w.heap.size w w' := by
  have H := one_in s hs w
  unfold TyPost at H
  simp only [hT, if_true, hq] at H
  clear hT hq
  have hD := fun S c0 c1 c2 w' h => depth_any (nx s) (s.size + 1) (by omega) 0 S c0 c1 c2 w' h
  generalize hd : Pt.dep (nx s) (s.size + 1) 0 = d at *
  have hd41 : d ≤ 41 := by have := dep_le (nx s) (s.size + 1) 0; omega
  have HD := hide hD
  clear hD hd
  by_cases h4 : 4 < d
  · have h4' : (4 : Int) < (d : Int) := by omega
    simp only [h4, if_true]
    go_enter Tryd.func75, Tryd.ntmps75
    go_wp2_with fail
    refine H.mono ?_
    rintro e w1 ⟨c0, c1, c2, rfl, hk, ha, hr⟩
    clear H
    obtain ⟨⟨x0, rfl⟩, ⟨x1, rfl⟩, ⟨ea, en, ec, rfl⟩⟩ := rep_shape hr
    have hp := fun o => (ha.alloc o).place
    have hk' := ((Keeps.refl (w.heap.size + 1) (w.alloc zero63)).alloc _).trans hk
    have HR := hide (fun o => rep_above ((Above.refl _ _).alloc o) hr)
    clear hr
    go_wp2_with fail
    refine ((unhide HD) _ _ _ _ _ (unhide HR _)).mono ?_
    rintro e w2 ⟨rfl, hb2⟩
    go_wp2
    refine ⟨rfl, rfl, (below_of (hk'.alloc (.cells #[.int .u8 x0, .int .i64 x1, .slice ea en ec] 143)) (by omega)).trans (hb2.mono ?_)⟩
    have := hk'.size
    simp at this ⊢
    omega
  · have h4' : ¬ (4 : Int) < (d : Int) := by omega
    simp only [h4, if_false]
    go_enter Tryd.func75, Tryd.ntmps75
    go_wp2_with fail
    refine H.mono ?_
    rintro e w1 ⟨c0, c1, c2, rfl, hk, ha, hr⟩
    clear H
    obtain ⟨⟨x0, rfl⟩, ⟨x1, rfl⟩, ⟨ea, en, ec, rfl⟩⟩ := rep_shape hr
    have hp := fun o => (ha.alloc o).place
    have hk' := ((Keeps.refl (w.heap.size + 1) (w.alloc zero63)).alloc _).trans hk
    have T0 := ((Tri.new w (.int .u8 0) (.int .i64 0) (.slice none 0 0)).keeps hk' (by omega)).alloc (.cells #[.int .u8 x0, .int .i64 x1, .slice ea en ec] 143)
    have T1 := Tri.new w1 (.int .u8 x0) (.int .i64 x1) (.slice ea en ec)
    have hl1 := T0.lt
    have hz1 : w.heap.size + 1 < w1.heap.size := ha.lt
    have HR := hide hr
    clear hr
    go_wp2_with fail
    refine ((unhide HD) _ _ _ _ _ (rep_above ((Above.refl _ _).alloc _) (unhide HR))).mono ?_
    rintro e w2 ⟨rfl, hb2⟩
    have hbk : ∀ k o, k < w1.heap.size + 1 → w2.cell? ⟨k, o, none⟩ = (w1.alloc (.cells #[.int .u8 x0, .int .i64 x1, .slice ea en ec] 143)).cell? ⟨k, o, none⟩ := fun k o hk => hb2.cell (p := ⟨k, o, none⟩) (by simpa using hk)
    have hfk : ∀ k o, k < w1.heap.size + 1 → w2.frozen? ⟨k, o, none⟩ = (w1.alloc (.cells #[.int .u8 x0, .int .i64 x1, .slice ea en ec] 143)).frozen? ⟨k, o, none⟩ := fun k o hk => hb2.frozen (p := ⟨k, o, none⟩) (by simpa using hk)
    obtain ⟨u0, u1, u2, v0, v1, v2⟩ := T0.facts
    obtain ⟨x0', x1', x2', y0, y1, y2⟩ := T1.facts
    rw [← hbk _ _ (by omega)] at u0 u1 u2 x0' x1' x2'
    rw [← hfk _ _ (by omega)] at v0 v1 v2 y0 y1 y2
    clear hbk hfk T0 T1
    go_wp2
    have hz2 := hb2.size
    have hk1s := hk.size
    simp at hz2 hk1s
    refine bodyPost_ret (v := .agg #[.int .u8 x0, .int .i64 x1, .slice ea en ec]) (by simp [results, Tryd.results75, go_sem, u0, u1, u2]) rfl ⟨⟨_, _, _, rfl, ?_⟩, ?_⟩
    · have h1 : Rep w1 (fun k => w.heap.size + 2 ≤ k) (nx s) (s.size + 1) 0 (.int .u8 x0) (.int .i64 x1) (.slice ea en ec) := by simpa using unhide HR
      have h2 := rep_above (((Above.refl _ _).alloc (.cells #[.int .u8 x0, .int .i64 x1, .slice ea en ec] 143)).trans (⟨hb2.size, fun k _ hl => hb2.block k hl⟩ : Above (fun k => w.heap.size + 2 ≤ k) _ w2)) h1
      refine rep_mono (fun k hk _ => by omega) (rep_above ?_ h2)
      exact (((Above.refl _ _).setCell (by simp) _).setCell (by simp) _).setCell (by simp) _
    · have h1 := (below_of (hk'.alloc (.cells #[.int .u8 x0, .int .i64 x1, .slice ea en ec] 143)) (by omega)).trans (hb2.mono (by simp; omega))
      exact ((h1.setCell (by simp) _).setCell (by simp) _).setCell (by simp) _

end Go.Proofs.YthofebmiggodhaaDoor.V
/-
  The face: Check catches what Read gave up with.
-/
namespace Go.Proofs.YthofebmiggodhaaDoor.V
open Go.RowKit

theorem assert_fault (n q : Nat) (w : World) : (Instr.typeAssert (.iface 68 (faultOf n q)) 20 68 true).run Tryd.prog w = .ok (.tuple #[faultOf n q, .bool true]) w := by kernel_rfl

set_option maxRecDepth 100000 in
set_option maxHeartbeats 200000 in
theorem caught_any (n q : Nat) (w : World) :
    Calls Tryd.prog 26 #[.iface 68 (faultOf n q)] w fun e w' => e = .returned (faultOf n q) ∧ Below w.heap.size w w' := by
  have hta := assert_fault n q
  go_enter Tryd.func26, Tryd.ntmps26
  go_wp2
  exact bodyPost_ret (v := faultOf n q) (by simp [results, Tryd.results26, go_sem]) rfl ⟨rfl, ((Below.refl _ _).alloc (Nat.le_refl _) _).alloc (by simp) _⟩

theorem lt_of_cell {w : World} {k o : Nat} {v : Value} (h : w.cell? ⟨k, o, none⟩ = some v) : k < w.heap.size := by
  rcases Nat.lt_or_ge k w.heap.size with hh | hh
  · exact hh
  · simp [World.cell?, Array.getElem?_eq_none hh] at h

abbrev face (w : World) : World := (w.alloc (.cells #[.int .i64 0] 22)).alloc (.cells #[.int .i64 0] 3)

end Go.Proofs.YthofebmiggodhaaDoor.V
/-
  The document's own 'alone': a value that begins with an item of its own.
-/
namespace Go.Proofs.YthofebmiggodhaaDoor.V
open Go.RowKit

theorem vI_join (i : Nat) (ks : List Bool) (e : Eaten) : vI i (joinE ks e) = vI (i + ks.length) e := by
  cases e with
  | none => rfl
  | some e => obtain ⟨a, b⟩ := e; simp only [joinE, vI, List.length_append]; omega

end Go.Proofs.YthofebmiggodhaaDoor.V
