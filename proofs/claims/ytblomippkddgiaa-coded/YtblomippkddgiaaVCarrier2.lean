/-
  The landed code's carry, with whatever carries: by the type's depth.
-/
import Derived.Test.YtblomippkddgiaaVCarrier
namespace Go.Proofs.Ytblomippkddgiaa.V
open Go.RowKit

/- the blocks of O alone were written; O' are those, or new ones -/
structure Kept (O O' : Nat → Prop) (w w' : World) : Prop where
  size : w.heap.size ≤ w'.heap.size
  block : ∀ k, k < w.heap.size → ¬ O k → w'.heap[k]? = w.heap[k]?
  row : ∀ k, O' k → O k ∨ w.heap.size ≤ k
theorem Kept.refl (O : Nat → Prop) (w : World) : Kept O O w w := ⟨Nat.le_refl _, fun _ _ _ => rfl, fun _ h => Or.inl h⟩
theorem Kept.trans {O O1 O2 : Nat → Prop} {w w1 w2 : World} (h : Kept O O1 w w1) (k : Kept O1 O2 w1 w2) : Kept O O2 w w2 := by
  have hs := h.size
  refine ⟨Nat.le_trans h.size k.size, fun i hi hr => ?_, fun i hi => ?_⟩
  · rw [k.block i (by omega) (fun e => ?_), h.block i hi hr]
    rcases h.row i e with h1 | h1
    · exact hr h1
    · omega
  · rcases k.row i hi with h1 | h1
    · exact h.row i h1
    · exact Or.inr (by omega)
theorem Kept.of_below {O : Nat → Prop} {w w' : World} (h : Below w.heap.size w w') : Kept O O w w' := ⟨h.size, fun k hk _ => h.block k hk, fun _ h => Or.inl h⟩
theorem Kept.cell {O O' : Nat → Prop} {w w' : World} (h : Kept O O' w w') {k o : Nat} (hk : k < w.heap.size) (hr : ¬ O k) : w'.cell? ⟨k, o, none⟩ = w.cell? ⟨k, o, none⟩ := World.cell?_of_block (w := w) (h.block k hk hr)

/- one that carries: its dynamic type, its functions, the error with which it gives up, the world ahead of it, what its state says of a world (how many items went by, its blocks), what a number and a text do to its state -/
structure Carrier (σ : Type) where
  tid : Nat
  fnum : Nat
  ftxt : Nat
  er : Nat
  ptr : Addr
  w0 : World
  St : World → Nat → σ → (Nat → Prop) → Prop
  num : Int → Int → σ → Option (Int × σ)
  txt : σ → Option σ
variable {σ : Type}
abbrev Carrier.I (C : Carrier σ) : Value := .iface C.tid (.pointer (some C.ptr))
def Carrier.Lv (C : Carrier σ) (O : Nat → Prop) (c : Nat) (x' : σ) (w w' : World) : Prop := ∃ c' O', c' ≤ c ∧ C.St w' c' x' O' ∧ Kept O O' w w'
def Carrier.No (C : Carrier σ) (P : Prop) (w' : World) : Prop := P ∧ Below C.w0.heap.size C.w0 w'
structure Carries (C : Carrier σ) : Prop where
  below : ∀ {w c x O}, C.St w c x O → Below C.w0.heap.size C.w0 w
  fresh : ∀ {w c x O}, C.St w c x O → ∀ k, O k → C.w0.heap.size ≤ k ∧ k < w.heap.size
  go : ∀ {w c x O w'}, C.St w c x O → Below w.heap.size w w' → C.St w' c x O
  range : ∀ {lo hi x n x'}, C.num lo hi x = some (n, x') → lo ≤ n ∧ n ≤ hi
  mnum : MNum C.tid C.fnum C.ptr
  mtxt : MTxt C.tid C.ftxt C.ptr
  number : ∀ {w c x O} (lo hi : Int), C.St w c x O → c ≤ 40000 → (lo = 0 ∧ hi ≤ 65535 ∨ lo = -32768 ∧ hi = 32767) → Calls Try.prog C.fnum #[.pointer (some C.ptr), .int .i64 lo, .int .i64 hi] w
    (OrN C.er (C.No (C.num lo hi x = none)) (fun i w' => ∃ x', C.num lo hi x = some (i, x') ∧ C.Lv O (c + 1) x' w w'))
  text : ∀ {w c x O}, C.St w c x O → c ≤ 40000 → Calls Try.prog C.ftxt #[.pointer (some C.ptr)] w
    (Or2 C.er (C.No (C.txt x = none)) (fun w' => ∃ x', C.txt x = some x' ∧ C.Lv O (c + 1) x' w w'))

def SeqSaid (C : Carrier σ) (r : Option σ) (O : Nat → Prop) (c : Nat) (w : World) : Ending → World → Prop :=
  Or2 C.er (C.No (r = none)) (fun w' => ∃ x', r = some x' ∧ C.Lv O c x' w w')
def KidC (C : Carrier σ) (T : Value) (E : σ → Option σ) (M : Nat) : Prop := ∀ w c x O, C.St w c x O → c + M ≤ 40000 → Calls Try.prog 55 #[T, C.I] w (SeqSaid C (E x) O (c + M) w)
theorem KidC.mono {C : Carrier σ} {T : Value} {E : σ → Option σ} {M M' : Nat} (h : KidC C T E M) (hm : M ≤ M') : KidC C T E M' := by
  intro w c x O hs hc
  refine (h w c x O hs (by omega)).mono ?_
  rintro e w' (h | ⟨rfl, x', hx, c', O', hc', h1⟩)
  · exact Or.inl h
  · exact Or.inr ⟨rfl, x', hx, c', O', by omega, h1⟩

def seqC (E : Nat → σ → Option σ) : List Nat → σ → Option σ
  | [], x => some x
  | q :: qs, x => (E q x).bind (seqC E qs)
theorem seqC_append (E : Nat → σ → Option σ) : ∀ (a b : List Nat) (x : σ), seqC E (a ++ b) x = (seqC E a x).bind (seqC E b) := by
  intro a
  induction a with
  | nil => intro b x; rfl
  | cons q a ih =>
    intro b x
    simp only [List.cons_append, seqC]
    cases E q x with
    | none => rfl
    | some y => exact ih b y
theorem seqC_take {E : Nat → σ → Option σ} {qs : List Nat} {k q : Nat} (h : qs[k]? = some q) (x : σ) : seqC E (qs.take (k + 1)) x = (seqC E (qs.take k) x).bind (E q) := by
  rw [List.take_add_one, h, seqC_append]
  congr 1
  funext y
  simp only [Option.toList_some, seqC]
  cases E q y <;> rfl
theorem seqC_none {E : Nat → σ → Option σ} {qs : List Nat} {x : σ} {k : Nat} (h : seqC E (qs.take k) x = none) : seqC E qs x = none := by
  rw [← List.take_append_drop k qs, seqC_append, h]
  rfl

/- what carrying does to the state, by the type's text -/
def carryP (num : Int → Int → σ → Option (Int × σ)) (txt : σ → Option σ) (g : Nat → Nat) : Nat → Nat → σ → Option σ
  | 0, _, _ => none
  | f + 1, p, x =>
    if g p = 115 then txt x
    else if g p = 97 then seqC (carryP num txt g f) (List.replicate (g (p + 1) - 48) (p + 2)) x
    else if g p = 114 then seqC (carryP num txt g f) (Pt.kids g f p) x
    else (num (loOf (g p)) (hiOf g f p) x).bind fun r =>
      if g p = 117 then carryP num txt g f (partOf (Pt.kids g f p) r.1) r.2
      else if g p = 113 then seqC (carryP num txt g f) (List.replicate r.1.toNat (p + 2)) r.2
      else some r.2

/- how far a loop over types has come -/
structure Far (C : Carrier σ) (E : Nat → σ → Option σ) (qs : List Nat) (x : σ) (c M : Nat) (O : Nat → Prop) (w : World) (k : Nat) (w' : World) (xk : σ) (c' : Nat) (O' : Nat → Prop) : Prop where
  seq : seqC E (qs.take k) x = some xk
  le : c' ≤ c + k * M
  st : C.St w' c' xk O'
  kept : Kept O O' w w'
def FarI (C : Carrier σ) (E : Nat → σ → Option σ) (qs : List Nat) (x : σ) (c M : Nat) (O : Nat → Prop) (w : World) (k : Nat) (w' : World) : Prop := ∃ xk c' O', Far C E qs x c M O w k w' xk c' O'

theorem far_next {C : Carrier σ} {E : Nat → σ → Option σ} {qs : List Nat} {x : σ} {c M : Nat} {O : Nat → Prop} {w w' w1 : World} {k q : Nat} {xk : σ} {c' : Nat} {O' : Nat → Prop} (h : Far C E qs x c M O w k w' xk c' O') (hq : qs[k]? = some q) (h1 : Kept O' O' w' w1) :
    ∀ e w2, SeqSaid C (E q xk) O' (c' + M) w1 e w2 → Or2 C.er (C.No (seqC E qs x = none)) (FarI C E qs x c M O w (k + 1)) e w2 := by
  have hb : seqC E (qs.take (k + 1)) x = E q xk := by rw [seqC_take hq, h.seq]; rfl
  rintro e w2 (⟨rfl, hn, hw⟩ | ⟨rfl, x', hx, c2, O2, hc2, hs2, hk2⟩)
  · exact Or.inl ⟨rfl, seqC_none (hb.trans hn), hw⟩
  · refine Or.inr ⟨rfl, x', c2, O2, hb.trans hx, ?_, hs2, h.kept.trans (h1.trans hk2)⟩
    have := h.le
    rw [Nat.add_mul, Nat.one_mul]
    omega

theorem times_said {C : Carrier σ} (hC : Carries C) {y0 y1 : Int} {ya : Option Addr} {yn yk : Nat} {E : Nat → σ → Option σ} {q M : Nat} (HK : KidC C (.agg #[.int .u8 y0, .int .i64 y1, .slice ya yn yk]) (E q) M) (n : Nat) (hn : n ≤ 9) {w : World} {c : Nat} {x : σ} {O : Nat → Prop} (hs : C.St w c x O) (hc : c + n * M ≤ 40000) :
    Calls Try.prog 75 #[.int .i64 n, .agg #[.int .u8 y0, .int .i64 y1, .slice ya yn yk], C.I] w (SeqSaid C (seqC E (List.replicate n q) x) O (c + n * M) w) := by
  have hb0 := (Below.refl w.heap.size w).alloc (Nat.le_refl _) (.cells #[.int .u8 y0, .int .i64 y1, .slice ya yn yk] 75)
  have hfr : ¬ O w.heap.size := fun h => by have := (hC.fresh hs _ h).2; omega
  obtain ⟨t0, t1, t2, _⟩ := (Tri.new w (.int .u8 y0) (.int .i64 y1) (.slice ya yn yk)).facts
  refine (walk_times C.tid C.er C.ptr w y0 y1 ya yn yk n (C.No (seqC E (List.replicate n q) x = none)) (FarI C E (List.replicate n q) x c M O (w.alloc (.cells #[.int .u8 y0, .int .i64 y1, .slice ya yn yk] 75))) hn ⟨x, c, O, rfl, by omega, hC.go hs hb0, Kept.refl _ _⟩ ?_).mono ?_
  · rintro j w' hj ⟨xj, c', O', h⟩
    have hlt : w.heap.size < (w.alloc (.cells #[.int .u8 y0, .int .i64 y1, .slice ya yn yk] 75)).heap.size := by simp
    refine ⟨(h.kept.cell hlt hfr).trans t0, (h.kept.cell hlt hfr).trans t1, (h.kept.cell hlt hfr).trans t2, ?_⟩
    refine (HK w' c' xj O' h.st ?_).mono (far_next h (q := q) ?_ (Kept.refl _ _))
    · have e1 : (j + 1) * M ≤ n * M := Nat.mul_le_mul_right M hj
      rw [Nat.add_mul, Nat.one_mul] at e1
      have := h.le
      omega
    · rw [List.getElem?_replicate, if_pos hj]
  · rintro e w' (h | ⟨rfl, x', c', O', h⟩)
    · exact Or.inl h
    · refine Or.inr ⟨rfl, x', ?_, c', O', h.le, h.st, (Kept.of_below hb0).trans h.kept⟩
      have := h.seq
      rw [List.take_of_length_le (by simp)] at this
      exact this

theorem rep_parts {w0 : World} {S : Nat → Prop} {g : Nat → Nat} {f p : Nat} {c0 c1 c2 : Value} (h : Rep w0 S g (f + 1) p c0 c1 c2) : c0 = .int .u8 (g p) ∧ c1 = .int .i64 (nodeDigit g p) ∧ ∃ va vc, c2 = .slice va (Pt.kids g f p).length vc ∧ (∀ j q, (Pt.kids g f p)[j]? = some q → ∃ gb y0 y1 ya yn yk, va = some ⟨gb, 0, none⟩ ∧
      (∀ w, Below w0.heap.size w0 w → w.cell? ⟨gb, j * 3, none⟩ = some (.int .u8 y0) ∧ w.cell? ⟨gb, j * 3 + 1, none⟩ = some (.int .i64 y1) ∧ w.cell? ⟨gb, j * 3 + 2, none⟩ = some (.slice ya yn yk)) ∧ Rep w0 S g f q (.int .u8 y0) (.int .i64 y1) (.slice ya yn yk)) := by
  obtain ⟨h0, h1, xs, ho, hi⟩ := h
  obtain ⟨va, vc, hc2⟩ : ∃ a c, c2 = .slice a (Pt.kids g f p).length c := by
    rcases ho.1.2 with ⟨rfl, h0⟩ | ⟨gb, cap, cur, rfl, _⟩
    · exact ⟨none, 0, by rw [h0]⟩
    · exact ⟨_, _, rfl⟩
  refine ⟨h0, h1, va, vc, hc2, fun j q hq => ?_⟩
  obtain ⟨d0, d1, d2, a0, a1, a2, hr⟩ := hi j q hq
  subst hc2
  obtain ⟨gb, rfl, hgb⟩ : ∃ gb, va = some ⟨gb, 0, none⟩ ∧ gb < w0.heap.size := by
    rcases ho.1.2 with ⟨hv, h0⟩ | ⟨gb, cap, cur, hv, _, hh, _⟩
    · rw [List.eq_nil_of_length_eq_zero h0] at hq; cases hq
    · cases hv; exact ⟨gb, rfl, lt_of_block hh⟩
  have hcl := ho.1.cells (g := gb) rfl
  have ad : ∀ o, (⟨gb, 0, none⟩ : Addr).add o = ⟨gb, o, none⟩ := fun o => by simp [Addr.add]; omega
  obtain ⟨⟨x0, rfl⟩, ⟨x1, rfl⟩, ⟨ea, en, ec, rfl⟩⟩ := rep_shape hr
  refine ⟨gb, x0, x1, ea, en, ec, rfl, fun w hb => ⟨?_, ?_, ?_⟩, hr⟩
  · rw [hb.cell (p := ⟨gb, j * 3, none⟩) hgb, ← ad, Nat.mul_comm]; exact hcl _ _ a0
  · rw [hb.cell (p := ⟨gb, j * 3 + 1, none⟩) hgb, ← ad, Nat.mul_comm]; exact hcl _ _ a1
  · rw [hb.cell (p := ⟨gb, j * 3 + 2, none⟩) hgb, ← ad, Nat.mul_comm]; exact hcl _ _ a2

theorem le_top {l : List Nat} {a : Nat} (h : a ∈ l) : a ≤ Pt.top l := by
  induction l with
  | nil => cases h
  | cons b l ih =>
    simp only [Pt.top]
    rcases List.mem_cons.1 h with rfl | h
    · omega
    · have := ih h; omega

def CarrySaid (C : Carrier σ) (s : ByteArray) (f : Nat) : Prop := ∀ p S c0 c1 c2, Rep C.w0 S (nx s) f p c0 c1 c2 → Okp s f p → KidC C (.agg #[c0, c1, c2]) (carryP C.num C.txt (nx s) f p) (10 ^ Pt.dep (nx s) f p)

end Go.Proofs.Ytblomippkddgiaa.V
