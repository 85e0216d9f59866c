/-
  Joined: VEat VCheck VFace.
-/
import Derived.Test.YtblomippkddgiaaGreatDoorJ11
import Derived.Test.YtblomippkddgiaaGreatDoorJ10
import Derived.Defers
import Derived.Recover
/-
  Which items a value of a type takes, and which of them are strings: by the type's text. Items as they lie in memory.
-/
namespace Go.Proofs.YtblomippkddgiaaGreatDoor.V
open Go.RowKit

abbrev It := Int × ByteArray
abbrev Eaten := Option (List Bool × List It)

def headOf (g : Nat → Nat) (f p : Nat) (v : List It) : Option (List Bool × List Nat × List It) :=
  if g p = 97 then some ([], List.replicate (g (p + 1) - 48) (p + 2), v)
  else if g p = 114 then some ([], Pt.kids g f p, v)
  else match v with
    | [] => none
    | x :: r =>
      if g p = 115 then (if x.1 = 0 ∧ x.2.size ≤ 14 then some ([true], [], r) else none)
      else if x.2.size = 0 ∧ loOf (g p) ≤ x.1 ∧ x.1 ≤ hiOf g f p then
        some ([false], (if g p = 117 then [partOf (Pt.kids g f p) x.1] else if g p = 113 then List.replicate x.1.toNat (p + 2) else []), r)
      else none

def joinE (k0 : List Bool) : Eaten → Eaten
  | none => none
  | some (k, r) => some (k0 ++ k, r)

def seqE (E : Nat → List It → Eaten) : List Nat → List It → Eaten
  | [], v => some ([], v)
  | q :: qs, v => match E q v with
    | none => none
    | some (k, r) => joinE k (seqE E qs r)

def eat (g : Nat → Nat) : Nat → Nat → List It → Eaten
  | 0, _, _ => none
  | f + 1, p, v => match headOf g f p v with
    | none => none
    | some (k0, qs, r) => joinE k0 (seqE (eat g f) qs r)

theorem joinE_nil (e : Eaten) : joinE [] e = e := by
  cases e with
  | none => rfl
  | some e => rfl
theorem joinE_join (a b : List Bool) (e : Eaten) : joinE a (joinE b e) = joinE (a ++ b) e := by
  cases e with
  | none => rfl
  | some e => simp [joinE]

theorem seqE_snoc (E : Nat → List It → Eaten) : ∀ (qs : List Nat) (q : Nat) (v : List It), seqE E (qs ++ [q]) v = match seqE E qs v with
    | none => none
    | some (k, r) => joinE k (E q r) := by
  intro qs
  induction qs with
  | nil =>
    intro q v
    simp only [List.nil_append, seqE]
    cases E q v with
    | none => rfl
    | some e => simp [joinE]
  | cons a qs ih =>
    intro q v
    simp only [List.cons_append, seqE]
    cases E a v with
    | none => rfl
    | some e =>
      obtain ⟨k, r⟩ := e
      simp only [ih]
      cases seqE E qs r with
      | none => rfl
      | some e' =>
        obtain ⟨k', r'⟩ := e'
        simp only [joinE]
        cases E q r' with
        | none => rfl
        | some e'' => simp
theorem seqE_none (E : Nat → List It → Eaten) {qs : List Nat} {v : List It} {k : Nat} (h : seqE E (qs.take k) v = none) : seqE E qs v = none := by
  revert v k
  induction qs with
  | nil => intro v k h; simp [seqE] at h
  | cons a qs ih =>
    intro v k h
    cases k with
    | zero => simp [seqE] at h
    | succ k =>
      simp only [List.take_succ_cons, seqE] at h ⊢
      cases hE : E a v with
      | none => rfl
      | some e =>
        obtain ⟨ks, r⟩ := e
        rw [hE] at h
        simp only at h ⊢
        cases hs : seqE E (qs.take k) r with
        | none => rw [ih hs]; rfl
        | some e' => rw [hs] at h; simp [joinE] at h

/- what is eaten stands at the head of what was there -/
def Heads (E : List It → Eaten) : Prop := ∀ v ks r, E v = some (ks, r) → r = v.drop ks.length ∧ ks.length ≤ v.length
theorem seqE_heads {E : Nat → List It → Eaten} : ∀ qs : List Nat, (∀ q ∈ qs, Heads (E q)) → Heads (seqE E qs) := by
  intro qs
  induction qs with
  | nil => intro _ v ks r h; simp [seqE] at h; obtain ⟨rfl, rfl⟩ := h; simp
  | cons a qs ih =>
    intro hE v ks r h
    simp only [seqE] at h
    cases ha : E a v with
    | none => rw [ha] at h; cases h
    | some e =>
      obtain ⟨k, r1⟩ := e
      rw [ha] at h
      simp only at h
      obtain ⟨h1, h2⟩ := hE a (by simp) v k r1 ha
      cases hs : seqE E qs r1 with
      | none => rw [hs] at h; cases h
      | some e' =>
        obtain ⟨k', r2⟩ := e'
        rw [hs] at h
        simp only [joinE, Option.some.injEq, Prod.mk.injEq] at h
        obtain ⟨rfl, rfl⟩ := h
        obtain ⟨h3, h4⟩ := ih (fun q hq => hE q (by simp [hq])) r1 k' r2 hs
        subst h1
        rw [List.length_drop] at h4
        refine ⟨?_, by simp; omega⟩
        rw [h3, List.drop_drop, List.length_append]
theorem headOf_heads {g : Nat → Nat} {f p : Nat} {v : List It} {k0 : List Bool} {qs : List Nat} {r : List It} (h : headOf g f p v = some (k0, qs, r)) : r = v.drop k0.length ∧ k0.length ≤ v.length := by
  unfold headOf at h
  split at h
  · cases h; simp
  · split at h
    · cases h; simp
    · cases v with
      | nil => cases h
      | cons x v =>
        simp only at h
        split at h
        · split at h
          · cases h; simp
          · cases h
        · split at h
          · cases h; simp
          · cases h
theorem eat_heads (g : Nat → Nat) : ∀ f p, Heads (eat g f p) := by
  intro f
  induction f with
  | zero => intro p v ks r h; cases h
  | succ f ih =>
    intro p v ks r h
    simp only [eat] at h
    cases hh : headOf g f p v with
    | none => rw [hh] at h; cases h
    | some e =>
      obtain ⟨k0, qs, r0⟩ := e
      rw [hh] at h
      simp only at h
      obtain ⟨h1, h2⟩ := headOf_heads hh
      cases hs : seqE (eat g f) qs r0 with
      | none => rw [hs] at h; cases h
      | some e' =>
        obtain ⟨k', r2⟩ := e'
        rw [hs] at h
        simp only [joinE, Option.some.injEq, Prod.mk.injEq] at h
        obtain ⟨rfl, rfl⟩ := h
        obtain ⟨h3, h4⟩ := seqE_heads qs (fun q _ => ih q) r0 k' r2 hs
        subst h1
        rw [List.length_drop] at h4
        refine ⟨?_, by simp; omega⟩
        rw [h3, List.drop_drop, List.length_append]

/- items in memory -/
def Items (w : World) (V : Value) (v : List It) : Prop := ∃ a cap, V = .slice a v.length cap ∧ v.length ≤ cap ∧ (v = [] ∨ ∃ b off, a = some ⟨b, off, none⟩ ∧ b < w.heap.size ∧ ∀ j x, v[j]? = some x → w.cell? ⟨b, off + j * 2, none⟩ = some (.int .i64 x.1) ∧ w.cell? ⟨b, off + j * 2 + 1, none⟩ = some (.string x.2))
theorem Items.below {w w' : World} {V : Value} {v : List It} (h : Items w V v) (hb : Below w.heap.size w w') : Items w' V v := by
  obtain ⟨a, cap, hV, hc, h⟩ := h
  refine ⟨a, cap, hV, hc, ?_⟩
  rcases h with h | ⟨b, off, ha, hl, hx⟩
  · exact Or.inl h
  · refine Or.inr ⟨b, off, ha, Nat.lt_of_lt_of_le hl hb.size, fun j x hj => ?_⟩
    obtain ⟨h1, h2⟩ := hx j x hj
    exact ⟨(hb.cell (p := ⟨b, _, none⟩) hl).trans h1, (hb.cell (p := ⟨b, _, none⟩) hl).trans h2⟩
theorem Items.at {w : World} {V : Value} {v : List It} (h : Items w V v) {i : Nat} {x : It} (hi : v[i]? = some x) : ∃ b off cap, V = .slice (some ⟨b, off, none⟩) v.length cap ∧ b < w.heap.size ∧ w.cell? ⟨b, off + i * 2, none⟩ = some (.int .i64 x.1) ∧ w.cell? ⟨b, off + i * 2 + 1, none⟩ = some (.string x.2) := by
  obtain ⟨a, cap, hV, _, h⟩ := h
  rcases h with rfl | ⟨b, off, ha, hl, hx⟩
  · simp at hi
  · subst ha
    exact ⟨b, off, cap, hV, hl, hx i x hi⟩

def vI (i : Nat) : Eaten → Int
  | none => -1
  | some (ks, _) => (i : Int) + (ks.length : Int)

def ValueSaid (s : ByteArray) (V : Value) (v : List It) (f : Nat) : Prop := ∀ (p i : Nat) (w : World), Okp s f p → i ≤ v.length → Items w V v →
  Calls Tryz.prog 239 #[.string s, .int .i64 p, V, .int .i64 i] w fun e w' => e = .returned (.int .i64 (vI i (eat (nx s) f p (v.drop i)))) ∧ Below w.heap.size w w'

end Go.Proofs.YtblomippkddgiaaGreatDoor.V
/-
  The landed code's Read of a type, and Check over it: what gives up by panic is caught at the face.
-/
namespace Go.Proofs.YtblomippkddgiaaGreatDoor.V
open Go.RowKit

abbrev faultOf (n q : Nat) : Value := .agg #[.int .i64 n, .int .i64 q]
abbrev gaveUp (n q : Nat) : Ending := .panicked [{ v := .iface 86 (faultOf n q), recovered := false }]

theorem at_new (w : World) (s : ByteArray) : At (w.alloc (.cells #[.string s, .int .i64 0] 206)) w.heap.size s 0 := by
  show (w.heap.push _)[w.heap.size]? = _
  rw [Array.getElem?_push_size]
  rfl

set_option maxHeartbeats 1000000 in
theorem read_long (s : ByteArray) (w : World) (hs : ¬ s.size ≤ 40) :
    Calls Tryz.prog 78 #[.string s] w fun e w' => e = gaveUp 1 0 ∧ Below w.heap.size w w' := by
  have h : (40 : Int) < (s.size : Int) := by omega
  clear hs
  go_enter Tryz.func78, Tryz.ntmps78
  go_wp2
  exact ⟨rfl, rfl, (Below.refl _ _).alloc (Nat.le_refl _) _⟩

theorem below_of {w v : World} {b : Nat} (hk : Keeps b (w.alloc zero63) v) (hb : w.heap.size ≤ b) : Below w.heap.size w v :=
  ((Below.refl _ _).alloc (Nat.le_refl _) zero63).trans ⟨hk.os, hk.tape, hk.output, hk.size, fun k h => hk.block k (by simp; omega) (by omega)⟩

theorem one_in (s : ByteArray) (hs : s.size ≤ 40) (w : World) : Calls Tryz.prog 128 #[.pointer (some ⟨w.heap.size + 1, 0, none⟩)] ((w.alloc zero63).alloc (.cells #[.string s, .int .i64 0] 206)) (TyPost (w.heap.size + 1) s (s.size + 1) 0 ((w.alloc zero63).alloc (.cells #[.string s, .int .i64 0] 206))) := by
  have h := at_new (w.alloc zero63) s
  have e : (w.alloc zero63).heap.size = w.heap.size + 1 := by simp
  rw [e] at h
  exact one_any (w.heap.size + 1) s hs (s.size + 1) 0 _ h (by omega) (by omega)

set_option maxHeartbeats 1000000 in
theorem read_wrong (s : ByteArray) (w : World) (hs : s.size ≤ 40) (hT : (Pt.ty (nx s) (s.size + 1) 0).1 = false) :
    Calls Tryz.prog 78 #[.string s] w fun e w' => e = gaveUp 2 (Pt.ty (nx s) (s.size + 1) 0).2 ∧ Below w.heap.size w w' := by
  have H := one_in s hs w
  unfold TyPost at H
  simp only [hT, Bool.false_eq_true, if_false] at H
  clear hT
  go_enter Tryz.func78, Tryz.ntmps78
  go_wp2_with fail
  refine H.mono ?_
  rintro e w1 ⟨rfl, hk⟩
  go_wp2
  exact ⟨rfl, rfl, below_of (((Keeps.refl _ _).alloc _).trans hk) (by omega)⟩

set_option maxHeartbeats 1000000 in
theorem read_more (s : ByteArray) (w : World) (hs : s.size ≤ 40) (hT : (Pt.ty (nx s) (s.size + 1) 0).1 = true) (hq : (Pt.ty (nx s) (s.size + 1) 0).2 < s.size) :
    Calls Tryz.prog 78 #[.string s] w fun e w' => e = gaveUp 2 (Pt.ty (nx s) (s.size + 1) 0).2 ∧ Below w.heap.size w w' := by
  have H := one_in s hs w
  unfold TyPost at H
  simp only [hT, if_true] at H
  clear hT
  generalize (Pt.ty (nx s) (s.size + 1) 0).2 = q at *
  have hq' : (q : Int) < (s.size : Int) := by omega
  go_enter Tryz.func78, Tryz.ntmps78
  go_wp2_with fail
  refine H.mono ?_
  rintro e w1 ⟨c0, c1, c2, rfl, hk, ha, hr⟩
  obtain ⟨⟨x0, rfl⟩, ⟨x1, rfl⟩, ⟨ea, en, ec, rfl⟩⟩ := rep_shape hr
  clear H hr
  have hp := fun o => (ha.alloc o).place
  have hk' := ((Keeps.refl (w.heap.size + 1) (w.alloc zero63)).alloc _).trans hk
  have hb1 := ha.lt
  go_wp2_with fail
  refine (wrong_any (w.heap.size + 1) q s _ (ha.alloc _)).mono ?_
  rintro e w2 ⟨rfl, hk2⟩
  go_wp2
  exact ⟨rfl, rfl, below_of ((hk'.alloc _).trans hk2) (by omega)⟩

set_option maxHeartbeats 1000000 in
theorem read_end (s : ByteArray) (w : World) (hs : s.size ≤ 40) (hT : (Pt.ty (nx s) (s.size + 1) 0).1 = true) (hq : (Pt.ty (nx s) (s.size + 1) 0).2 = s.size) :
    Calls Tryz.prog 78 #[.string s] w fun e w' => (if 4 < Pt.dep (nx s) (s.size + 1) 0 then e = gaveUp 3 0 else ∃ c0 c1 c2, e = .returned (.agg #[c0, c1, c2]) ∧ Rep w' (fun k => w.heap.size ≤ k) (nx s) (s.size + 1) 0 c0 c1 c2) ∧ Below w.heap.size w w' := by
  have H := one_in s hs w
  unfold TyPost at H
  simp only [hT, if_true, hq] at H
  clear hT hq
  have hD := fun S c0 c1 c2 w' h => depth_any (nx s) (s.size + 1) (by omega) 0 S c0 c1 c2 w' h
  generalize hd : Pt.dep (nx s) (s.size + 1) 0 = d at *
  have hd41 : d ≤ 41 := by have := dep_le (nx s) (s.size + 1) 0; omega
  have HD := hide hD
  clear hD hd
  by_cases h4 : 4 < d
  · have h4' : (4 : Int) < (d : Int) := by omega
    simp only [h4, if_true]
    go_enter Tryz.func78, Tryz.ntmps78
    go_wp2_with fail
    refine H.mono ?_
    rintro e w1 ⟨c0, c1, c2, rfl, hk, ha, hr⟩
    clear H
    obtain ⟨⟨x0, rfl⟩, ⟨x1, rfl⟩, ⟨ea, en, ec, rfl⟩⟩ := rep_shape hr
    have hp := fun o => (ha.alloc o).place
    have hk' := ((Keeps.refl (w.heap.size + 1) (w.alloc zero63)).alloc _).trans hk
    have HR := hide (fun o => rep_above ((Above.refl _ _).alloc o) hr)
    clear hr
    go_wp2_with fail
    refine ((unhide HD) _ _ _ _ _ (unhide HR _)).mono ?_
    rintro e w2 ⟨rfl, hb2⟩
    go_wp2
    refine ⟨rfl, rfl, (below_of (hk'.alloc (.cells #[.int .u8 x0, .int .i64 x1, .slice ea en ec] 153)) (by omega)).trans (hb2.mono ?_)⟩
    have := hk'.size
    simp at this ⊢
    omega
  · have h4' : ¬ (4 : Int) < (d : Int) := by omega
    simp only [h4, if_false]
    go_enter Tryz.func78, Tryz.ntmps78
    go_wp2_with fail
    refine H.mono ?_
    rintro e w1 ⟨c0, c1, c2, rfl, hk, ha, hr⟩
    clear H
    obtain ⟨⟨x0, rfl⟩, ⟨x1, rfl⟩, ⟨ea, en, ec, rfl⟩⟩ := rep_shape hr
    have hp := fun o => (ha.alloc o).place
    have hk' := ((Keeps.refl (w.heap.size + 1) (w.alloc zero63)).alloc _).trans hk
    have T0 := ((Tri.new w (.int .u8 0) (.int .i64 0) (.slice none 0 0)).keeps hk' (by omega)).alloc (.cells #[.int .u8 x0, .int .i64 x1, .slice ea en ec] 153)
    have T1 := Tri.new w1 (.int .u8 x0) (.int .i64 x1) (.slice ea en ec)
    have hl1 := T0.lt
    have hz1 : w.heap.size + 1 < w1.heap.size := ha.lt
    have HR := hide hr
    clear hr
    go_wp2_with fail
    refine ((unhide HD) _ _ _ _ _ (rep_above ((Above.refl _ _).alloc _) (unhide HR))).mono ?_
    rintro e w2 ⟨rfl, hb2⟩
    have hbk : ∀ k o, k < w1.heap.size + 1 → w2.cell? ⟨k, o, none⟩ = (w1.alloc (.cells #[.int .u8 x0, .int .i64 x1, .slice ea en ec] 153)).cell? ⟨k, o, none⟩ := fun k o hk => hb2.cell (p := ⟨k, o, none⟩) (by simpa using hk)
    have hfk : ∀ k o, k < w1.heap.size + 1 → w2.frozen? ⟨k, o, none⟩ = (w1.alloc (.cells #[.int .u8 x0, .int .i64 x1, .slice ea en ec] 153)).frozen? ⟨k, o, none⟩ := fun k o hk => hb2.frozen (p := ⟨k, o, none⟩) (by simpa using hk)
    obtain ⟨u0, u1, u2, v0, v1, v2⟩ := T0.facts
    obtain ⟨x0', x1', x2', y0, y1, y2⟩ := T1.facts
    rw [← hbk _ _ (by omega)] at u0 u1 u2 x0' x1' x2'
    rw [← hfk _ _ (by omega)] at v0 v1 v2 y0 y1 y2
    clear hbk hfk T0 T1
    go_wp2
    have hz2 := hb2.size
    have hk1s := hk.size
    simp at hz2 hk1s
    refine bodyPost_ret (v := .agg #[.int .u8 x0, .int .i64 x1, .slice ea en ec]) (by simp [results, Tryz.results78, go_sem, u0, u1, u2]) rfl ⟨⟨_, _, _, rfl, ?_⟩, ?_⟩
    · have h1 : Rep w1 (fun k => w.heap.size + 2 ≤ k) (nx s) (s.size + 1) 0 (.int .u8 x0) (.int .i64 x1) (.slice ea en ec) := by simpa using unhide HR
      have h2 := rep_above (((Above.refl _ _).alloc (.cells #[.int .u8 x0, .int .i64 x1, .slice ea en ec] 153)).trans (⟨hb2.size, fun k _ hl => hb2.block k hl⟩ : Above (fun k => w.heap.size + 2 ≤ k) _ w2)) h1
      refine rep_mono (fun k hk _ => by omega) (rep_above ?_ h2)
      exact (((Above.refl _ _).setCell (by simp) _).setCell (by simp) _).setCell (by simp) _
    · have h1 := (below_of (hk'.alloc (.cells #[.int .u8 x0, .int .i64 x1, .slice ea en ec] 153)) (by omega)).trans (hb2.mono (by simp; omega))
      exact ((h1.setCell (by simp) _).setCell (by simp) _).setCell (by simp) _

end Go.Proofs.YtblomippkddgiaaGreatDoor.V
/-
  The face: Check catches what Read gave up with.
-/
namespace Go.Proofs.YtblomippkddgiaaGreatDoor.V
open Go.RowKit

theorem assert_fault (n q : Nat) (w : World) : (Instr.typeAssert (.iface 86 (faultOf n q)) 20 86 true).run Tryz.prog w = .ok (.tuple #[faultOf n q, .bool true]) w := by kernel_rfl

set_option maxRecDepth 100000 in
set_option maxHeartbeats 200000 in
theorem caught_any (n q : Nat) (w : World) :
    Calls Tryz.prog 34 #[.iface 86 (faultOf n q)] w fun e w' => e = .returned (faultOf n q) ∧ Below w.heap.size w w' := by
  have hta := assert_fault n q
  go_enter Tryz.func34, Tryz.ntmps34
  go_wp2
  exact bodyPost_ret (v := faultOf n q) (by simp [results, Tryz.results34, go_sem]) rfl ⟨rfl, ((Below.refl _ _).alloc (Nat.le_refl _) _).alloc (by simp) _⟩

theorem lt_of_cell {w : World} {k o : Nat} {v : Value} (h : w.cell? ⟨k, o, none⟩ = some v) : k < w.heap.size := by
  rcases Nat.lt_or_ge k w.heap.size with hh | hh
  · exact hh
  · simp [World.cell?, Array.getElem?_eq_none hh] at h

set_option maxHeartbeats 1000000 in
theorem catch_panicking (a0 a1 B : Nat) (n q : Nat) (older : List PanicEntry) (w : World) (h0 : w.cell? ⟨a0, 0, none⟩ = some (.int .i64 0)) (h1 : w.cell? ⟨a1, 0, none⟩ = some (.int .i64 0)) (z0 : w.frozen? ⟨a0, 0, none⟩ = false) (z1 : w.frozen? ⟨a1, 0, none⟩ = false) (hb0 : B ≤ a0) (hb1 : B ≤ a1) (hne : ¬ a0 = a1) :
    CallsD Tryz.prog 204 #[.pointer (some ⟨a0, 0, none⟩), .pointer (some ⟨a1, 0, none⟩)] (.panicking ({ v := .iface 86 (faultOf n q), recovered := false } :: older)) w fun e u' w' =>
      e = .returned (.tuple #[]) ∧ u' = .panicking ({ v := .iface 86 (faultOf n q), recovered := true } :: older) ∧ w'.cell? ⟨a0, 0, none⟩ = some (.int .i64 n) ∧ w'.cell? ⟨a1, 0, none⟩ = some (.int .i64 q) ∧ Below B w w' := by
  refine callsD_of_wpS Tryz.func204 rfl fun c₀ cs hu => ?_
  apply wpS_seq
  apply wpS_region
  simp [wpOpsS, go_sem, recoverD, hu, Tryz.ntmps204, Exit.thenS]
  rw [show (#[Value.pointer (some { block := a0, off := 0 }), Value.pointer (some { block := a1, off := 0 })] ++ ((Array.replicate 11 undef).setIfInBounds 2 (Value.iface 86 (faultOf n q))).setIfInBounds 0 (Value.iface 86 (faultOf n q))) = #[.pointer (some { block := a0, off := 0 }), .pointer (some { block := a1, off := 0 }), .iface 86 (faultOf n q), undef, .iface 86 (faultOf n q), undef, undef, undef, undef, undef, undef, undef, undef] from rfl]
  refine wpS_of_wp ?_
  go_wp2_with fail
  refine (caught_any n q _).mono ?_
  rintro e w1 ⟨rfl, hb⟩
  have l0 := lt_of_cell h0
  have l1 := lt_of_cell h1
  have s1 := hb.size
  have g0 : w1.cell? ⟨a0, 0, none⟩ = some (.int .i64 0) := (hb.cell (p := ⟨a0, 0, none⟩) l0).trans h0
  have g1 : w1.cell? ⟨a1, 0, none⟩ = some (.int .i64 0) := (hb.cell (p := ⟨a1, 0, none⟩) l1).trans h1
  have y0 : w1.frozen? ⟨a0, 0, none⟩ = false := (hb.frozen (p := ⟨a0, 0, none⟩) l0).trans z0
  have y1 : w1.frozen? ⟨a1, 0, none⟩ = false := (hb.frozen (p := ⟨a1, 0, none⟩) l1).trans z1
  have m0 : a0 < w1.heap.size := by omega
  have m1 : a1 < w1.heap.size := by omega
  have e0 : ¬ w1.heap.size = a0 := by omega
  have e1 : ¬ w1.heap.size = a1 := by omega
  have e2 : ¬ a1 = a0 := by omega
  clear h0 h1 z0 z1
  go_wp2
  go_region
  have F0 : ((((w1.setCell { block := a0, off := 0 } (Value.int IntKind.i64 ↑n)).setCell { block := a1, off := 0 } (Value.int IntKind.i64 ↑q)).alloc (Obj.cells #[Value.int IntKind.i64 ↑n, Value.int IntKind.i64 ↑q] 86)).drew).cell? ⟨a0, 0, none⟩ = some (.int .i64 n) := by simp [go_sem, g0, m0]
  have F1 : ((((w1.setCell { block := a0, off := 0 } (Value.int IntKind.i64 ↑n)).setCell { block := a1, off := 0 } (Value.int IntKind.i64 ↑q)).alloc (Obj.cells #[Value.int IntKind.i64 ↑n, Value.int IntKind.i64 ↑q] 86)).drew).cell? ⟨a1, 0, none⟩ = some (.int .i64 q) := by simp [go_sem, g1, m1]
  have FB : Below B w ((((w1.setCell { block := a0, off := 0 } (Value.int IntKind.i64 ↑n)).setCell { block := a1, off := 0 } (Value.int IntKind.i64 ↑q)).alloc (Obj.cells #[Value.int IntKind.i64 ↑n, Value.int IntKind.i64 ↑q] 86)).drew) :=
    (((((hb.mono (by omega)).setCell (by simpa using hb0) _).setCell (by simpa using hb1) _).alloc (by simp; omega) _)).drew
  show bodyPostS Tryz.prog Tryz.f204 c₀ cs _ _ _ _ _
  exact ⟨rfl, _, rfl, _, results_none rfl _ _ _, rfl, rfl, F0, F1, FB⟩

theorem catch_idle (p0 p1 : Addr) (w : World) :
    CallsD Tryz.prog 204 #[.pointer (some p0), .pointer (some p1)] .returning w fun e u' w' => e = .returned (.tuple #[]) ∧ u' = .returning ∧ w' = w := by
  refine callsD_of_wpS Tryz.func204 rfl fun c₀ cs hu => ?_
  apply wpS_seq
  apply wpS_region
  simp [wpOpsS, go_sem, recoverD, hu, Tryz.ntmps204, Exit.thenS]
  rw [show (#[Value.pointer (some p0), Value.pointer (some p1)] ++ ((Array.replicate 11 undef).setIfInBounds 2 (Value.nilIface)).setIfInBounds 0 (Value.nilIface)) = #[.pointer (some p0), .pointer (some p1), .nilIface, undef, .nilIface, undef, undef, undef, undef, undef, undef, undef, undef] from rfl]
  refine wpS_of_wp ?_
  go_wp2
  exact ⟨rfl, .returning, by cases c₀; simp_all, _, results_none rfl _ _ _, rfl, rfl, rfl⟩

abbrev face (w : World) : World := (w.alloc (.cells #[.int .i64 0] 32)).alloc (.cells #[.int .i64 0] 3)

set_option maxHeartbeats 1000000 in
theorem check_bad (s : ByteArray) (w : World) (n q : Nat) (H : Calls Tryz.prog 78 #[.string s] (face w) fun e w' => e = gaveUp n q ∧ Below (face w).heap.size (face w) w') :
    Calls Tryz.prog 146 #[.string s] w fun e w' => e = .returned (.tuple #[.int .i64 n, .int .i64 q]) ∧ Below w.heap.size w w' := by
  have hmf : ∀ (fn : Fn) (first cap : Array Value) (w : World), (Instr.makeFunc fn first cap).run Tryz.prog w = .ok (.func fn first cap) w := fun _ _ _ _ => rfl
  have HH := hide H
  clear H
  go_enter_defers Tryz.func146, Tryz.ntmps146
  go_wp2_with fail
  refine (unhide HH).mono ?_
  rintro e w1 ⟨rfl, hb⟩
  have hs := hb.size
  simp at hs
  have c0 : w1.cell? ⟨w.heap.size, 0, none⟩ = some (.int .i64 0) := (hb.cell (p := ⟨w.heap.size, 0, none⟩) (by simp; omega)).trans (by simp [go_sem])
  have c1 : w1.cell? ⟨w.heap.size + 1, 0, none⟩ = some (.int .i64 0) := (hb.cell (p := ⟨w.heap.size + 1, 0, none⟩) (by simp)).trans (by simp [go_sem])
  have z0 : w1.frozen? ⟨w.heap.size, 0, none⟩ = false := (hb.frozen (p := ⟨w.heap.size, 0, none⟩) (by simp; omega)).trans (by simp [go_sem])
  have z1 : w1.frozen? ⟨w.heap.size + 1, 0, none⟩ = false := (hb.frozen (p := ⟨w.heap.size + 1, 0, none⟩) (by simp)).trans (by simp [go_sem])
  have hb0 : Below w.heap.size w w1 := (((Below.refl _ _).alloc (Nat.le_refl _) _).alloc (by simp) _).trans (hb.mono (by simp; omega))
  go_wp2
  refine leaves_cons (f := 204) (args := #[.pointer (some ⟨w.heap.size, 0, none⟩), .pointer (some ⟨w.heap.size + 1, 0, none⟩)]) (by simp) (by simp [go_sem]) ?_
  refine (catch_panicking w.heap.size (w.heap.size + 1) w.heap.size n q [] _ c0 c1 z0 z1 (Nat.le_refl _) (by omega) (by omega)).mono ?_
  rintro e u' w'' ⟨rfl, rfl, f0, f1, fb⟩
  simp [Leaves, settle, results, Tryz.results146, go_sem, f0, f1]
  exact hb0.trans fb

set_option maxHeartbeats 1000000 in
theorem check_good (s : ByteArray) (w : World) (H : Calls Tryz.prog 78 #[.string s] (face w) fun e w' => (∃ c0 c1 c2, e = .returned (.agg #[c0, c1, c2])) ∧ Below (face w).heap.size (face w) w') :
    Calls Tryz.prog 146 #[.string s] w fun e w' => e = .returned (.tuple #[.int .i64 0, .int .i64 0]) ∧ Below w.heap.size w w' := by
  have hmf : ∀ (fn : Fn) (first cap : Array Value) (w : World), (Instr.makeFunc fn first cap).run Tryz.prog w = .ok (.func fn first cap) w := fun _ _ _ _ => rfl
  have HH := hide H
  clear H
  go_enter_defers Tryz.func146, Tryz.ntmps146
  go_wp2_with fail
  refine (unhide HH).mono ?_
  rintro e w1 ⟨⟨x0, x1, x2, rfl⟩, hb⟩
  have hs := hb.size
  simp at hs
  have c0 : w1.cell? ⟨w.heap.size, 0, none⟩ = some (.int .i64 0) := (hb.cell (p := ⟨w.heap.size, 0, none⟩) (by simp; omega)).trans (by simp [go_sem])
  have c1 : w1.cell? ⟨w.heap.size + 1, 0, none⟩ = some (.int .i64 0) := (hb.cell (p := ⟨w.heap.size + 1, 0, none⟩) (by simp)).trans (by simp [go_sem])
  have z0 : w1.frozen? ⟨w.heap.size, 0, none⟩ = false := (hb.frozen (p := ⟨w.heap.size, 0, none⟩) (by simp; omega)).trans (by simp [go_sem])
  have z1 : w1.frozen? ⟨w.heap.size + 1, 0, none⟩ = false := (hb.frozen (p := ⟨w.heap.size + 1, 0, none⟩) (by simp)).trans (by simp [go_sem])
  have hb0 : Below w.heap.size w w1 := (((Below.refl _ _).alloc (Nat.le_refl _) _).alloc (by simp) _).trans (hb.mono (by simp; omega))
  go_wp2
  refine leaves_cons (f := 204) (args := #[.pointer (some ⟨w.heap.size, 0, none⟩), .pointer (some ⟨w.heap.size + 1, 0, none⟩)]) (by simp) (by simp [go_sem]) ?_
  refine (catch_idle _ _ _).mono ?_
  rintro e u' w'' ⟨rfl, rfl, rfl⟩
  simp [Leaves, settle, results, Tryz.results146, go_sem, c0, c1]
  exact (hb0.setCell (by simp) _).setCell (by simp) _
end Go.Proofs.YtblomippkddgiaaGreatDoor.V
