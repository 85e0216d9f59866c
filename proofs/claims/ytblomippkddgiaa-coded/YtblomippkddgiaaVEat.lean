/-
  Which items a value of a type takes, and which of them are strings: by the type's text. Items as they lie in memory.
-/
import Derived.Test.YtblomippkddgiaaVRefMost
namespace Go.Proofs.Ytblomippkddgiaa.V
open Go.RowKit

abbrev It := Int × ByteArray
abbrev Eaten := Option (List Bool × List It)

def headOf (g : Nat → Nat) (f p : Nat) (v : List It) : Option (List Bool × List Nat × List It) :=
  if g p = 97 then some ([], List.replicate (g (p + 1) - 48) (p + 2), v)
  else if g p = 114 then some ([], Pt.kids g f p, v)
  else match v with
    | [] => none
    | x :: r =>
      if g p = 115 then (if x.1 = 0 ∧ x.2.size ≤ 14 then some ([true], [], r) else none)
      else if x.2.size = 0 ∧ loOf (g p) ≤ x.1 ∧ x.1 ≤ hiOf g f p then
        some ([false], (if g p = 117 then [partOf (Pt.kids g f p) x.1] else if g p = 113 then List.replicate x.1.toNat (p + 2) else []), r)
      else none

def joinE (k0 : List Bool) : Eaten → Eaten
  | none => none
  | some (k, r) => some (k0 ++ k, r)

def seqE (E : Nat → List It → Eaten) : List Nat → List It → Eaten
  | [], v => some ([], v)
  | q :: qs, v => match E q v with
    | none => none
    | some (k, r) => joinE k (seqE E qs r)

def eat (g : Nat → Nat) : Nat → Nat → List It → Eaten
  | 0, _, _ => none
  | f + 1, p, v => match headOf g f p v with
    | none => none
    | some (k0, qs, r) => joinE k0 (seqE (eat g f) qs r)

theorem joinE_nil (e : Eaten) : joinE [] e = e := by
  cases e with
  | none => rfl
  | some e => rfl
theorem joinE_join (a b : List Bool) (e : Eaten) : joinE a (joinE b e) = joinE (a ++ b) e := by
  cases e with
  | none => rfl
  | some e => simp [joinE]

theorem seqE_snoc (E : Nat → List It → Eaten) : ∀ (qs : List Nat) (q : Nat) (v : List It), seqE E (qs ++ [q]) v = match seqE E qs v with
    | none => none
    | some (k, r) => joinE k (E q r) := by
  intro qs
  induction qs with
  | nil =>
    intro q v
    simp only [List.nil_append, seqE]
    cases E q v with
    | none => rfl
    | some e => simp [joinE]
  | cons a qs ih =>
    intro q v
    simp only [List.cons_append, seqE]
    cases E a v with
    | none => rfl
    | some e =>
      obtain ⟨k, r⟩ := e
      simp only [ih]
      cases seqE E qs r with
      | none => rfl
      | some e' =>
        obtain ⟨k', r'⟩ := e'
        simp only [joinE]
        cases E q r' with
        | none => rfl
        | some e'' => simp
theorem seqE_none (E : Nat → List It → Eaten) {qs : List Nat} {v : List It} {k : Nat} (h : seqE E (qs.take k) v = none) : seqE E qs v = none := by
  revert v k
  induction qs with
  | nil => intro v k h; simp [seqE] at h
  | cons a qs ih =>
    intro v k h
    cases k with
    | zero => simp [seqE] at h
    | succ k =>
      simp only [List.take_succ_cons, seqE] at h ⊢
      cases hE : E a v with
      | none => rfl
      | some e =>
        obtain ⟨ks, r⟩ := e
        rw [hE] at h
        simp only at h ⊢
        cases hs : seqE E (qs.take k) r with
        | none => rw [ih hs]; rfl
        | some e' => rw [hs] at h; simp [joinE] at h

/- what is eaten stands at the head of what was there -/
def Heads (E : List It → Eaten) : Prop := ∀ v ks r, E v = some (ks, r) → r = v.drop ks.length ∧ ks.length ≤ v.length
theorem seqE_heads {E : Nat → List It → Eaten} : ∀ qs : List Nat, (∀ q ∈ qs, Heads (E q)) → Heads (seqE E qs) := by
  intro qs
  induction qs with
  | nil => intro _ v ks r h; simp [seqE] at h; obtain ⟨rfl, rfl⟩ := h; simp
  | cons a qs ih =>
    intro hE v ks r h
    simp only [seqE] at h
    cases ha : E a v with
    | none => rw [ha] at h; cases h
    | some e =>
      obtain ⟨k, r1⟩ := e
      rw [ha] at h
      simp only at h
      obtain ⟨h1, h2⟩ := hE a (by simp) v k r1 ha
      cases hs : seqE E qs r1 with
      | none => rw [hs] at h; cases h
      | some e' =>
        obtain ⟨k', r2⟩ := e'
        rw [hs] at h
        simp only [joinE, Option.some.injEq, Prod.mk.injEq] at h
        obtain ⟨rfl, rfl⟩ := h
        obtain ⟨h3, h4⟩ := ih (fun q hq => hE q (by simp [hq])) r1 k' r2 hs
        subst h1
        rw [List.length_drop] at h4
        refine ⟨?_, by simp; omega⟩
        rw [h3, List.drop_drop, List.length_append]
theorem headOf_heads {g : Nat → Nat} {f p : Nat} {v : List It} {k0 : List Bool} {qs : List Nat} {r : List It} (h : headOf g f p v = some (k0, qs, r)) : r = v.drop k0.length ∧ k0.length ≤ v.length := by
  unfold headOf at h
  split at h
  · cases h; simp
  · split at h
    · cases h; simp
    · cases v with
      | nil => cases h
      | cons x v =>
        simp only at h
        split at h
        · split at h
          · cases h; simp
          · cases h
        · split at h
          · cases h; simp
          · cases h
theorem eat_heads (g : Nat → Nat) : ∀ f p, Heads (eat g f p) := by
  intro f
  induction f with
  | zero => intro p v ks r h; cases h
  | succ f ih =>
    intro p v ks r h
    simp only [eat] at h
    cases hh : headOf g f p v with
    | none => rw [hh] at h; cases h
    | some e =>
      obtain ⟨k0, qs, r0⟩ := e
      rw [hh] at h
      simp only at h
      obtain ⟨h1, h2⟩ := headOf_heads hh
      cases hs : seqE (eat g f) qs r0 with
      | none => rw [hs] at h; cases h
      | some e' =>
        obtain ⟨k', r2⟩ := e'
        rw [hs] at h
        simp only [joinE, Option.some.injEq, Prod.mk.injEq] at h
        obtain ⟨rfl, rfl⟩ := h
        obtain ⟨h3, h4⟩ := seqE_heads qs (fun q _ => ih q) r0 k' r2 hs
        subst h1
        rw [List.length_drop] at h4
        refine ⟨?_, by simp; omega⟩
        rw [h3, List.drop_drop, List.length_append]

/- items in memory -/
def Items (w : World) (V : Value) (v : List It) : Prop := ∃ a cap, V = .slice a v.length cap ∧ v.length ≤ cap ∧ (v = [] ∨ ∃ b off, a = some ⟨b, off, none⟩ ∧ b < w.heap.size ∧ ∀ j x, v[j]? = some x → w.cell? ⟨b, off + j * 2, none⟩ = some (.int .i64 x.1) ∧ w.cell? ⟨b, off + j * 2 + 1, none⟩ = some (.string x.2))
theorem Items.below {w w' : World} {V : Value} {v : List It} (h : Items w V v) (hb : Below w.heap.size w w') : Items w' V v := by
  obtain ⟨a, cap, hV, hc, h⟩ := h
  refine ⟨a, cap, hV, hc, ?_⟩
  rcases h with h | ⟨b, off, ha, hl, hx⟩
  · exact Or.inl h
  · refine Or.inr ⟨b, off, ha, Nat.lt_of_lt_of_le hl hb.size, fun j x hj => ?_⟩
    obtain ⟨h1, h2⟩ := hx j x hj
    exact ⟨(hb.cell (p := ⟨b, _, none⟩) hl).trans h1, (hb.cell (p := ⟨b, _, none⟩) hl).trans h2⟩
theorem Items.at {w : World} {V : Value} {v : List It} (h : Items w V v) {i : Nat} {x : It} (hi : v[i]? = some x) : ∃ b off cap, V = .slice (some ⟨b, off, none⟩) v.length cap ∧ b < w.heap.size ∧ w.cell? ⟨b, off + i * 2, none⟩ = some (.int .i64 x.1) ∧ w.cell? ⟨b, off + i * 2 + 1, none⟩ = some (.string x.2) := by
  obtain ⟨a, cap, hV, _, h⟩ := h
  rcases h with rfl | ⟨b, off, ha, hl, hx⟩
  · simp at hi
  · subst ha
    exact ⟨b, off, cap, hV, hl, hx i x hi⟩

def vI (i : Nat) : Eaten → Int
  | none => -1
  | some (ks, _) => (i : Int) + (ks.length : Int)

def ValueSaid (s : ByteArray) (V : Value) (v : List It) (f : Nat) : Prop := ∀ (p i : Nat) (w : World), Okp s f p → i ≤ v.length → Items w V v →
  Calls Try.prog 76 #[.string s, .int .i64 p, V, .int .i64 i] w fun e w' => e = .returned (.int .i64 (vI i (eat (nx s) f p (v.drop i)))) ∧ Below w.heap.size w w'

end Go.Proofs.Ytblomippkddgiaa.V
