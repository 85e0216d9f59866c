/-
  The law's raw numbers: 'pick' and 'next'.
-/
import Derived.Test.YtblomippkddgiaaVSame
import Derived.Test.YtblomippkddgiaaVEat
import Derived.Test.YtblomippkddgiaaVTake
namespace Go.Proofs.Ytblomippkddgiaa.V
open Go.RowKit

def In64 (c : Int) : Prop := -9223372036854775808 ≤ c ∧ c ≤ 9223372036854775807

set_option maxRecDepth 100000 in
set_option maxHeartbeats 1000000 in
theorem pick_any (c : Int) (n : Nat) (w : World) (hc : In64 c) (hn : 0 < n) (hn2 : n ≤ 65536) :
    Calls Try.prog 28 #[.int .i64 c, .int .i64 n] w fun e w' => (∃ k : Nat, k < n ∧ e = .returned (.int .i64 k)) ∧ w' = w := by
  obtain ⟨h1, h2⟩ := hc
  have hn0 : ¬ (n : Int) = 0 := by omega
  have key : ∀ y : Int, 0 ≤ y → ∃ k : Nat, k < n ∧ y.tmod n = (k : Int) := fun y hy => by
    have e : y.tmod n = y % n := Int.tmod_eq_emod_of_nonneg hy
    have h3 := Int.emod_nonneg y hn0
    have h4 := Int.emod_lt_of_pos y (show (0 : Int) < n by omega)
    exact ⟨(y % n).toNat, by omega, by rw [e]; omega⟩
  by_cases hlt : c < 0
  · obtain ⟨k, hk, e⟩ := key (-(c + 1)) (by omega)
    rw [Int.neg_tmod] at e
    have HE := hide e
    clear e key
    go_enter Try.func28, Try.ntmps28
    go_wp2
    go_ret
    rw [unhide HE]
    exact ⟨⟨k, hk, rfl⟩, rfl⟩
  · have h3 := Int.emod_nonneg c hn0
    have h4 := Int.emod_lt_of_pos c (show (0 : Int) < n by omega)
    obtain ⟨k, hk⟩ : ∃ k : Nat, c % n = (k : Int) := ⟨(c % n).toNat, by omega⟩
    have HE := hide hk
    have hkn : k < n := by omega
    clear key hk h3 h4
    go_enter Try.func28, Try.ntmps28
    go_wp2
    go_ret
    rw [unhide HE]
    exact ⟨⟨k, hkn, rfl⟩, rfl⟩

/- the numbers that were handed in -/
def RawOk (w0 : World) (V : Value) : Prop := ∃ va vn vc, V = .slice va vn vc ∧ vn ≤ 9000000000000000 ∧ (vn = 0 ∨ ∃ vb off, va = some ⟨vb, off, none⟩ ∧ vb < w0.heap.size ∧ ∀ i, i < vn → ∃ c, In64 c ∧ w0.cell? ⟨vb, off + i, none⟩ = some (.int .i64 c))

/- what 'next' leaves -/
structure Nxt (w0 : World) (rb : Nat) (V : Value) (m : Nat) (w w' : World) : Prop where
  cell : w'.heap[rb]? = some (.cells #[V, .int .i64 m] 45 (0, 0))
  keep : ∀ k, k ≠ rb → w'.heap[k]? = w.heap[k]?
  size : w'.heap.size = w.heap.size
  below : Below w0.heap.size w0 w'
theorem Nxt.drewN {w0 : World} {rb : Nat} {V : Value} {m : Nat} {w w' : World} (h : Nxt w0 rb V m w w') (q : Nat) : Nxt w0 rb V m w (w'.drewN q) := ⟨h.cell, h.keep, h.size, below_drewN h.below q⟩
theorem nxt_set {w0 : World} {rb : Nat} {V x : Value} {m : Nat} {w : World} (hc : w.heap[rb]? = some (.cells #[V, x] 45 (0, 0))) (hb : Below w0.heap.size w0 w) (hrb : w0.heap.size ≤ rb) : Nxt w0 rb V m w (w.setCell ⟨rb, 1, none⟩ (.int .i64 m)) := by
  refine ⟨?_, fun k hk => Below.heap_setCell _ _ _ _ (by simpa using hk), by simp, hb.setCell (by simpa using hrb) _⟩
  simp only [World.setCell, Array.getElem?_modify, hc]
  simp

set_option maxRecDepth 100000 in
set_option maxHeartbeats 2000000 in
theorem rawNext_any (w0 w : World) (rb : Nat) (V : Value) (m n : Nat) (hV : RawOk w0 V) (hb : Below w0.heap.size w0 w) (hrb : w0.heap.size ≤ rb) (hc : w.heap[rb]? = some (.cells #[V, .int .i64 m] 45 (0, 0))) (hm : m ≤ 1000000000) (hn : 0 < n) (hn2 : n ≤ 65536) :
    Calls Try.prog 43 #[.pointer (some ⟨rb, 0, none⟩), .int .i64 n] w fun e w' => (∃ k : Nat, k < n ∧ e = .returned (.int .i64 k)) ∧ Nxt w0 rb V (m + 1) w w' := by
  obtain ⟨va, vn, vc, rfl, hvn, hv⟩ := hV
  have c0 : w.cell? ⟨rb, 0, none⟩ = some (.slice va vn vc) := by simp [World.cell?, hc]
  have c1 : w.cell? ⟨rb, 1, none⟩ = some (.int .i64 m) := by simp [World.cell?, hc]
  have z1 : w.frozen? ⟨rb, 1, none⟩ = false := by simp [World.frozen?, hc]
  have hN := nxt_set (m := m + 1) hc hb hrb
  have d0 : (w.setCell ⟨rb, 1, none⟩ (.int .i64 ((m : Int) + 1))).cell? ⟨rb, 0, none⟩ = some (.slice va vn vc) := by
    have := hN.cell
    simp only [Int.natCast_add, Int.cast_ofNat_Int] at this
    simp [World.cell?, this]
  have d1 : (w.setCell ⟨rb, 1, none⟩ (.int .i64 ((m : Int) + 1))).cell? ⟨rb, 1, none⟩ = some (.int .i64 ((m : Int) + 1)) := by
    have := hN.cell
    simp only [Int.natCast_add, Int.cast_ofNat_Int] at this
    simp [World.cell?, this]
  simp only [Int.natCast_add, Int.cast_ofNat_Int] at hN
  have HN := hide hN
  have HN2 : Hid (∀ q, Nxt w0 rb (.slice va vn vc) (m + 1) w ((w.drewN q).setCell ⟨rb, 1, none⟩ (.int .i64 ((m : Int) + 1)))) := fun q => by
    have h := nxt_set (m := m + 1) (w := w.drewN q) hc (below_drewN hb q) hrb
    simp only [Int.natCast_add, Int.cast_ofNat_Int] at h
    exact ⟨h.cell, h.keep, h.size, h.below⟩
  have HP := hide (fun c w (hc : In64 c) => pick_any c n w hc hn hn2)
  have hrl := lt_of_block hc
  clear hc hN
  by_cases h0 : vn = 0
  · subst h0
    clear hv
    have hgt : (0 : Int) < (m : Int) + 1 := by omega
    go_enter Try.func43, Try.ntmps43
    go_wp2
    go_quiet (fail)
    go_wp2_with fail
    refine ((unhide HP) _ _ ?_).mono ?_
    · unfold In64
      omega
    rintro e w1 ⟨⟨k, hk, rfl⟩, rfl⟩
    go_wp2
    go_ret
    exact ⟨⟨k, hk, rfl⟩, (unhide HN).drewN _⟩
  · obtain ⟨vb, off, rfl, hvb, hcell⟩ := hv.resolve_left h0
    have hvp : 0 < vn := by omega
    obtain ⟨c, hc64, hcc⟩ := hcell (m % vn) (Nat.mod_lt _ hvp)
    have hcw := (hb.cell (p := ⟨vb, off + m % vn, none⟩) hvb).trans hcc
    have hmod : m % vn < vn := Nat.mod_lt _ hvp
    have hc1 := hc64.1
    have hc2 := hc64.2
    have HC := hide hc64
    clear hcell hcc hc64
    by_cases hgt : (vn : Int) < (m : Int) + 1
    · go_enter Try.func43, Try.ntmps43
      go_wp2
      go_quiet (fail)
      go_wp2
      go_quiet (fail)
      go_wp2_with fail
      refine ((unhide HP) _ _ ?_).mono ?_
      · unfold In64 wrap64
        omega
      rintro e w1 ⟨⟨k, hk, rfl⟩, rfl⟩
      go_wp2
      go_ret
      exact ⟨⟨k, hk, rfl⟩, ((unhide HN2) _).drewN _⟩
    · go_enter Try.func43, Try.ntmps43
      go_wp2
      go_quiet (fail)
      go_wp2
      go_quiet (fail)
      go_wp2_with fail
      refine ((unhide HP) _ _ (unhide HC)).mono ?_
      rintro e w1 ⟨⟨k, hk, rfl⟩, rfl⟩
      go_wp2
      go_ret
      exact ⟨⟨k, hk, rfl⟩, ((unhide HN2) _).drewN _⟩

end Go.Proofs.Ytblomippkddgiaa.V

/-
  Plain mathematics: types that are grown, node by node; their texts; that these are types, and where the types in them stand.
-/
namespace Go.Proofs.Ytblomippkddgiaa.V
open Go.RowKit

/- a node: its letter, its digit, the list of numbers as a value, the numbers -/
structure Nd where
  c : Nat
  d : Nat
  v : Value
  ks : List Nat

def form (x : Nd) : Prop :=
  ((x.c = 98 ∨ x.c = 99 ∨ x.c = 105 ∨ x.c = 115) ∧ x.ks = []) ∨ (x.c = 101 ∧ 1 ≤ x.d ∧ x.d ≤ 9 ∧ x.ks = []) ∨ (x.c = 97 ∧ 1 ≤ x.d ∧ x.d ≤ 3 ∧ x.ks.length = 1) ∨ (x.c = 113 ∧ x.d ≤ 3 ∧ x.ks.length = 1) ∨ ((x.c = 114 ∨ x.c = 117) ∧ 1 ≤ x.ks.length ∧ x.ks.length ≤ 6)
def headN (x : Nd) : List Nat := x.c :: ((if x.c = 101 ∨ x.c = 97 ∨ x.c = 113 then [x.d + 48] else []) ++ (if x.c = 114 ∨ x.c = 117 then [40] else []))
def tailN (x : Nd) : List Nat := if x.c = 114 ∨ x.c = 117 then [41] else []
def catN (T : Nat → List Nat) : List Nat → List Nat
  | [] => []
  | c :: cs => T c ++ catN T cs
def txt (P : List Nd) : Nat → Nat → List Nat
  | 0, _ => []
  | d + 1, n => match P[n]? with
    | none => []
    | some x => headN x ++ (catN (txt P d) x.ks ++ tailN x)
def Tk (P : List Nd) (hi : Nat) : Nat → Nat → Prop
  | 0, _ => False
  | d + 1, n => n < hi ∧ ∃ x, P[n]? = some x ∧ form x ∧ ∀ c ∈ x.ks, n < c ∧ Tk P hi d c

theorem txt_some {P : List Nd} {d n : Nat} {x : Nd} (h : P[n]? = some x) : txt P (d + 1) n = headN x ++ (catN (txt P d) x.ks ++ tailN x) := by
  simp only [txt, h]
theorem catN_congr {T T' : Nat → List Nat} : ∀ cs : List Nat, (∀ c ∈ cs, T c = T' c) → catN T cs = catN T' cs
  | [], _ => rfl
  | c :: cs, h => by
    simp only [catN]
    rw [h c (List.mem_cons_self ..), catN_congr cs (fun c' h' => h c' (List.mem_cons_of_mem _ h'))]
theorem catN_append (T : Nat → List Nat) : ∀ a b : List Nat, catN T (a ++ b) = catN T a ++ catN T b
  | [], b => rfl
  | c :: a, b => by simp only [List.cons_append, catN, catN_append T a b, List.append_assoc]

theorem tk_go {P P' : List Nd} {hi hi' : Nat} (hh : hi ≤ hi') : ∀ d n, Tk P hi d n → (∀ i, n ≤ i → i < hi → P'[i]? = P[i]?) → Tk P' hi' d n ∧ txt P' d n = txt P d n := by
  intro d
  induction d with
  | zero => intro n h; exact absurd h id
  | succ d ih =>
    intro n h hP
    obtain ⟨hn, x, hx, hf, hk⟩ := h
    have hx' : P'[n]? = some x := by rw [hP n (Nat.le_refl _) hn]; exact hx
    have hk' : ∀ c ∈ x.ks, Tk P' hi' d c ∧ txt P' d c = txt P d c := fun c hc => ih c (hk c hc).2 (fun i h1 h2 => hP i (by have := (hk c hc).1; omega) h2)
    refine ⟨⟨by omega, x, hx', hf, fun c hc => ⟨(hk c hc).1, (hk' c hc).1⟩⟩, ?_⟩
    rw [txt_some hx', txt_some hx, catN_congr x.ks (fun c hc => (hk' c hc).2)]

/- the bytes l stand at place p -/
def AtN (g : Nat → Nat) (p : Nat) (l : List Nat) : Prop := ∀ i x, l[i]? = some x → g (p + i) = x
theorem at_append {g : Nat → Nat} {p : Nat} {a b : List Nat} (h : AtN g p (a ++ b)) : AtN g p a ∧ AtN g (p + a.length) b := by
  refine ⟨fun i x hi => h i x ?_, fun i x hi => ?_⟩
  · rw [List.getElem?_append_left (List.getElem?_eq_some_iff.1 hi).1]
    exact hi
  · have := h (a.length + i) x (by rw [List.getElem?_append_right (by omega), Nat.add_sub_cancel_left]; exact hi)
    rw [Nat.add_assoc]
    exact this
theorem at_cons {g : Nat → Nat} {p x : Nat} {l : List Nat} (h : AtN g p (x :: l)) : g p = x ∧ AtN g (p + 1) l := by
  refine ⟨by simpa using h 0 x rfl, fun i y hi => ?_⟩
  have := h (i + 1) y (by simpa using hi)
  rw [show p + 1 + i = p + (i + 1) by omega]
  exact this

theorem tk_head {P : List Nd} {hi d n : Nat} (h : Tk P hi d n) : ∃ x l, txt P d n = x :: l ∧ x ≠ 41 := by
  cases d with
  | zero => exact absurd h id
  | succ d =>
    obtain ⟨_, x, hx, hf, _⟩ := h
    refine ⟨x.c, _, by rw [txt_some hx]; rfl, ?_⟩
    unfold form at hf
    omega
theorem tk_pos {P : List Nd} {hi d n : Nat} (h : Tk P hi d n) : 0 < (txt P d n).length := by
  obtain ⟨x, l, h, _⟩ := tk_head h
  rw [h]
  simp

/- the places of types that stand one behind the other -/
def kidPos (T : Nat → List Nat) : List Nat → Nat → List Nat
  | [], _ => []
  | c :: cs, p => p :: kidPos T cs (p + (T c).length)
theorem kidPos_length (T : Nat → List Nat) : ∀ cs p, (kidPos T cs p).length = cs.length
  | [], _ => rfl
  | c :: cs, p => by simp [kidPos, kidPos_length T cs]

theorem lst_ok {g : Nat → Nat} {T : Nat → Bool × Nat} {S : Nat → List Nat} : ∀ (cs : List Nat) (j p : Nat), cs.length ≤ j → AtN g p (catN S cs ++ [41]) → (∀ c ∈ cs, ∃ x l, S c = x :: l ∧ x ≠ 41) →
    (∀ c ∈ cs, ∀ q, AtN g q (S c) → T q = (true, q + (S c).length)) → Pt.lst T g j p = (true, p + (catN S cs).length + 1) ∧ Pt.lkids T g j p = kidPos S cs p := by
  intro cs
  induction cs with
  | nil =>
    intro j p _ hA _ _
    have h := (at_cons (by simpa [catN] using hA)).1
    cases j with
    | zero => simp [Pt.lst, Pt.lkids, kidPos, catN, h]
    | succ j => simp [Pt.lst, Pt.lkids, kidPos, catN, h]
  | cons c cs ih =>
    intro j p hj hA hne hT
    cases j with
    | zero => simp at hj
    | succ j =>
      simp only [catN, List.append_assoc] at hA
      obtain ⟨h1, h2⟩ := at_append hA
      obtain ⟨x, l, hx, hx41⟩ := hne c (List.mem_cons_self ..)
      have hg : ¬ g p = 41 := by
        rw [hx] at h1
        rw [(at_cons h1).1]
        exact hx41
      have ht := hT c (List.mem_cons_self ..) p h1
      obtain ⟨r1, r2⟩ := ih j (p + (S c).length) (by simp at hj; omega) h2 (fun c' h => hne c' (List.mem_cons_of_mem _ h)) (fun c' h => hT c' (List.mem_cons_of_mem _ h))
      constructor
      · simp only [Pt.lst, if_neg hg, ht, if_true, r1, catN, List.length_append]
        congr 1
        omega
      · simp only [Pt.lkids, if_neg hg, ht, r2, kidPos]

theorem topN_le {d : Nat} : ∀ l : List Nat, (∀ a ∈ l, a ≤ d) → Pt.top l ≤ d
  | [], _ => Nat.zero_le _
  | a :: l, h => by
    simp only [Pt.top]
    have h1 := h a (List.mem_cons_self ..)
    have h2 := topN_le l (fun b hb => h b (List.mem_cons_of_mem _ hb))
    omega

theorem at_kid {g : Nat → Nat} {S : Nat → List Nat} : ∀ (cs : List Nat) (p : Nat) (e : List Nat), AtN g p (catN S cs ++ e) → ∀ (i c : Nat), cs[i]? = some c → ∃ q, (kidPos S cs p)[i]? = some q ∧ AtN g q (S c) := by
  intro cs
  induction cs with
  | nil => intro p e _ i c h; simp at h
  | cons y cs ih =>
    intro p e hA i c hi
    simp only [catN, List.append_assoc] at hA
    obtain ⟨h1, h2⟩ := at_append hA
    cases i with
    | zero =>
      simp at hi
      subst hi
      exact ⟨p, rfl, h1⟩
    | succ i =>
      obtain ⟨q, hq, ha⟩ := ih _ e h2 i c (by simpa using hi)
      exact ⟨q, by simpa [kidPos] using hq, ha⟩

theorem catN_len {S : Nat → List Nat} : ∀ (cs : List Nat) c, c ∈ cs → (S c).length ≤ (catN S cs).length
  | [], c, h => by simp at h
  | y :: cs, c, h => by
    simp only [catN, List.length_append]
    rcases List.mem_cons.1 h with rfl | h
    · omega
    · have := catN_len (S := S) cs c h
      omega

/- node n's text stands at place p -/
structure Placed (g : Nat → Nat) (P : List Nd) (hi d n f p : Nat) : Prop where
  tk : Tk P hi d n
  fuel : (txt P d n).length < f
  here : AtN g p (txt P d n)

/- what is seen there -/
structure Opened (g : Nat → Nat) (P : List Nd) (hi d n f p : Nat) (x : Nd) : Prop where
  node : P[n]? = some x
  frm : form x
  letter : g p = x.c
  digit : x.c = 101 ∨ x.c = 97 ∨ x.c = 113 → g (p + 1) = x.d + 48
  one : x.c = 97 ∨ x.c = 113 → ∃ c, x.ks = [c] ∧ Placed g P hi d c f (p + 2)
  many : x.c = 114 ∨ x.c = 117 → (Pt.kids g f p).length = x.ks.length ∧ ∀ (i c : Nat), x.ks[i]? = some c → ∃ q, (Pt.kids g f p)[i]? = some q ∧ Placed g P hi d c f q
  par : x.c = 114 ∨ x.c = 117 → g (p + 1) = 40 ∧ ∃ e, AtN g (p + 2) (catN (txt P d) x.ks ++ [41]) ∧ e = p + 2 + (catN (txt P d) x.ks).length + 1 ∧ e = p + (txt P (d + 1) n).length

theorem parse {g : Nat → Nat} {P : List Nd} {hi : Nat} : ∀ d n f p, Placed g P hi d n f p → Pt.ty g f p = (true, p + (txt P d n).length) ∧ Pt.dep g f p ≤ d ∧ ∀ d' f', d = d' + 1 → f = f' + 1 → ∃ x, Opened g P hi d' n f' p x := by
  intro d
  induction d with
  | zero => intro n f p h; exact absurd h.tk id
  | succ d ih =>
    intro n f p h
    obtain ⟨hn, x, hx, hf, hk⟩ := h.tk
    have hpos := tk_pos h.tk
    have hfu := h.fuel
    obtain ⟨f, rfl⟩ : ∃ f', f = f' + 1 := ⟨f - 1, by omega⟩
    have hA := h.here
    have htx : txt P (d + 1) n = headN x ++ (catN (txt P d) x.ks ++ tailN x) := txt_some hx
    rw [htx] at hA hfu ⊢
    have hc : g p = x.c := (at_cons (by simpa [headN] using hA)).1
    have hkid : ∀ c ∈ x.ks, ∀ q, (txt P d c).length < f → AtN g q (txt P d c) → Placed g P hi d c f q := fun c hc q h1 h2 => ⟨(hk c hc).2, h1, h2⟩
    unfold form at hf
    rcases hf with ⟨hl, hks⟩ | ⟨hl, hd1, hd9, hks⟩ | ⟨hl, hd1, hd3, hks⟩ | ⟨hl, hd3, hks⟩ | ⟨hl, hk1, hk6⟩
    · have e1 : ¬ (x.c = 101 ∨ x.c = 97 ∨ x.c = 113) := by omega
      have e2 : ¬ (x.c = 114 ∨ x.c = 117) := by omega
      have hlen : (headN x ++ (catN (txt P d) x.ks ++ tailN x)).length = 1 := by simp [headN, tailN, hks, catN, e1, e2]
      rw [hlen]
      have hleaf : Pt.isLeaf (g p) = true := by
        rw [hc]
        unfold Pt.isLeaf
        rcases hl with h | h | h | h <;> rw [h] <;> rfl
      refine ⟨by simp [Pt.ty, hleaf], ?_, fun d' f' h1 h2 => ?_⟩
      · have : Pt.kids g f p = [] := by
          unfold Pt.kids
          rw [hc, if_neg (by omega), if_neg e2]
        simp [Pt.dep, this, Pt.top]
      · cases h1
        cases h2
        exact ⟨x, hx, Or.inl ⟨hl, hks⟩, hc, fun h => absurd h e1, fun h => by omega, fun h => absurd h e2, fun h => absurd h e2⟩
    · have e2 : ¬ (x.c = 114 ∨ x.c = 117) := by omega
      have hT : headN x ++ (catN (txt P d) x.ks ++ tailN x) = [101, x.d + 48] := by simp [headN, tailN, hks, catN, hl]
      rw [hT] at hA ⊢
      have hd := (at_cons (at_cons hA).2).1
      have hdig : Pt.dig g 1 (p + 1) = (true, p + 2) := by unfold Pt.dig; rw [hd, if_pos (by omega)]
      refine ⟨by simp [Pt.ty, Pt.isLeaf, hc, hl, hdig], ?_, fun d' f' h1 h2 => ?_⟩
      · have : Pt.kids g f p = [] := by
          unfold Pt.kids
          rw [hc, if_neg (by omega), if_neg e2]
        simp [Pt.dep, this, Pt.top]
      · cases h1
        cases h2
        exact ⟨x, hx, Or.inr (Or.inl ⟨hl, hd1, hd9, hks⟩), hc, fun _ => hd, fun h => by omega, fun h => absurd h e2, fun h => absurd h e2⟩
    · have e2 : ¬ (x.c = 114 ∨ x.c = 117) := by omega
      obtain ⟨c, hcs⟩ : ∃ c, x.ks = [c] := List.length_eq_one_iff.1 hks
      have hT : headN x ++ (catN (txt P d) x.ks ++ tailN x) = 97 :: (x.d + 48) :: txt P d c := by simp [headN, tailN, hcs, catN, hl]
      rw [hT] at hA hfu ⊢
      simp only [List.length_cons] at hfu
      have hd := (at_cons (at_cons hA).2).1
      have hA2 := (at_cons (at_cons hA).2).2
      rw [show p + 1 + 1 = p + 2 by omega] at hA2
      have hdig : Pt.dig g 1 (p + 1) = (true, p + 2) := by unfold Pt.dig; rw [hd, if_pos (by omega)]
      have hpl := hkid c (by rw [hcs]; simp) (p + 2) (by omega) hA2
      obtain ⟨i1, i2, _⟩ := ih c f (p + 2) hpl
      refine ⟨?_, ?_, fun d' f' h1 h2 => ?_⟩
      · simp only [Pt.ty, hc, hl, Pt.isLeaf, hdig, i1]
        simp
        omega
      · have : Pt.kids g f p = [p + 2] := by
          unfold Pt.kids
          rw [hc, if_pos (Or.inl hl)]
        simp [Pt.dep, this, Pt.top]
        omega
      · cases h1
        cases h2
        exact ⟨x, hx, Or.inr (Or.inr (Or.inl ⟨hl, hd1, hd3, hks⟩)), hc, fun _ => hd, fun _ => ⟨c, hcs, hpl⟩, fun h => absurd h e2, fun h => absurd h e2⟩
    · have e2 : ¬ (x.c = 114 ∨ x.c = 117) := by omega
      obtain ⟨c, hcs⟩ : ∃ c, x.ks = [c] := List.length_eq_one_iff.1 hks
      have hT : headN x ++ (catN (txt P d) x.ks ++ tailN x) = 113 :: (x.d + 48) :: txt P d c := by simp [headN, tailN, hcs, catN, hl]
      rw [hT] at hA hfu ⊢
      simp only [List.length_cons] at hfu
      have hd := (at_cons (at_cons hA).2).1
      have hA2 := (at_cons (at_cons hA).2).2
      rw [show p + 1 + 1 = p + 2 by omega] at hA2
      have hdig : Pt.dig g 0 (p + 1) = (true, p + 2) := by unfold Pt.dig; rw [hd, if_pos (by omega)]
      have hpl := hkid c (by rw [hcs]; simp) (p + 2) (by omega) hA2
      obtain ⟨i1, i2, _⟩ := ih c f (p + 2) hpl
      refine ⟨?_, ?_, fun d' f' h1 h2 => ?_⟩
      · simp only [Pt.ty, hc, hl, Pt.isLeaf, hdig, i1]
        simp
        omega
      · have : Pt.kids g f p = [p + 2] := by
          unfold Pt.kids
          rw [hc, if_pos (Or.inr hl)]
        simp [Pt.dep, this, Pt.top]
        omega
      · cases h1
        cases h2
        exact ⟨x, hx, Or.inr (Or.inr (Or.inr (Or.inl ⟨hl, hd3, hks⟩))), hc, fun _ => hd, fun _ => ⟨c, hcs, hpl⟩, fun h => absurd h e2, fun h => absurd h e2⟩
    · have e1 : ¬ (x.c = 101 ∨ x.c = 97 ∨ x.c = 113) := by omega
      have hT : headN x ++ (catN (txt P d) x.ks ++ tailN x) = x.c :: 40 :: (catN (txt P d) x.ks ++ [41]) := by simp [headN, tailN, hl, e1]
      rw [hT] at hA hfu ⊢
      simp only [List.length_cons, List.length_append, List.length_nil] at hfu ⊢
      have hd := (at_cons (at_cons hA).2).1
      have hA2 := (at_cons (at_cons hA).2).2
      rw [show p + 1 + 1 = p + 2 by omega] at hA2
      have hpl : ∀ c ∈ x.ks, ∀ q, AtN g q (txt P d c) → Placed g P hi d c f q := fun c hc q h2 => hkid c hc q (by have := catN_len (S := txt P d) x.ks c hc; omega) h2
      have hty : ∀ c ∈ x.ks, ∀ q, AtN g q (txt P d c) → Pt.ty g f q = (true, q + (txt P d c).length) := fun c hc q h2 => (ih c f q (hpl c hc q h2)).1
      have hkids : Pt.kids g f p = kidPos (txt P d) x.ks (p + 2) ∧ Pt.ty g (f + 1) p = (true, p + ((catN (txt P d) x.ks).length + (0 + 1) + 1 + 1)) := by
        cases hks : x.ks with
        | nil => rw [hks] at hk1; simp at hk1
        | cons c cs =>
          rw [hks] at hA2 hty hk6
          have hA3 := hA2
          simp only [catN, List.append_assoc] at hA3
          obtain ⟨a1, a2⟩ := at_append hA3
          have t1 := hty c (List.mem_cons_self ..) (p + 2) a1
          obtain ⟨r1, r2⟩ := lst_ok (T := Pt.ty g f) (S := txt P d) cs 5 (p + 2 + (txt P d c).length) (by simp at hk6; omega) a2 (fun c' h' => tk_head (hk c' (by rw [hks]; exact List.mem_cons_of_mem _ h')).2) (fun c' h' => hty c' (List.mem_cons_of_mem _ h'))
          constructor
          · unfold Pt.kids
            rw [hc, if_neg (by omega), if_pos hl, t1]
            simp only [r2, kidPos]
          · have hnl : Pt.isLeaf x.c = false := by
              unfold Pt.isLeaf
              rcases hl with h | h <;> rw [h] <;> rfl
            simp only [Pt.ty, hc, hnl, if_neg (show ¬ x.c = 101 by omega), if_neg (show ¬ x.c = 97 by omega), if_neg (show ¬ x.c = 113 by omega), if_pos hl, hd, t1, r1, catN, List.length_append]
            simp
            omega
      have hmany : (Pt.kids g f p).length = x.ks.length ∧ ∀ (i c : Nat), x.ks[i]? = some c → ∃ q, (Pt.kids g f p)[i]? = some q ∧ Placed g P hi d c f q := by
        rw [hkids.1]
        refine ⟨kidPos_length _ _ _, fun i c hi' => ?_⟩
        obtain ⟨q, hq, ha⟩ := at_kid (S := txt P d) x.ks (p + 2) [41] hA2 i c hi'
        exact ⟨q, hq, hpl c (List.mem_of_getElem? hi') q ha⟩
      refine ⟨hkids.2, ?_, fun d' f' h1 h2 => ?_⟩
      · simp only [Pt.dep]
        have : Pt.top ((Pt.kids g f p).map (Pt.dep g f)) ≤ d := by
          refine topN_le _ fun a ha => ?_
          obtain ⟨q, hq, rfl⟩ := List.mem_map.1 ha
          obtain ⟨i, hi', hiq⟩ := List.getElem_of_mem hq
          have hilt : i < x.ks.length := by rw [← hmany.1]; exact hi'
          obtain ⟨q', hq', hP⟩ := hmany.2 i _ (List.getElem?_eq_getElem hilt)
          rw [List.getElem?_eq_getElem hi', hiq] at hq'
          cases hq'
          exact (ih _ f q hP).2.1
        omega
      · cases h1
        cases h2
        exact ⟨x, hx, Or.inr (Or.inr (Or.inr (Or.inr ⟨hl, hk1, hk6⟩))), hc, fun h => absurd h e1, fun h => by omega, fun _ => hmany, fun _ => ⟨hd, _, hA2, rfl, by rw [htx, hT]; simp; omega⟩⟩

end Go.Proofs.Ytblomippkddgiaa.V

/-
  The law's 'text' of a grown type: its walk.
-/
namespace Go.Proofs.Ytblomippkddgiaa.V
open Go.RowKit

abbrev strN (l : List Nat) : ByteArray := str (l.map UInt8.ofNat)
theorem strN_append (a b : List Nat) : strN a ++ strN b = strN (a ++ b) := by
  unfold strN str
  rw [ByteArray.mk_append_mk, List.map_append]
theorem strN_size (l : List Nat) : (strN l).size = l.length := by rw [str_size, List.length_map]

theorem conv_one (w : World) (a : Int) : (convert 67 9 (.slice (some ⟨w.heap.size, 0, none⟩) 1 1)).run Try.prog (w.alloc (.cells #[.int .u8 a] 5)) = .ok (.string ⟨[b8 a].toArray⟩) (w.alloc (.cells #[.int .u8 a] 5)) := by
  rw [run_convert_bytes_string _ 67 9 5 _ _ _ Try.underlying67 Try.underlying5 Try.underlying9, run_bytesToString _ _ _ _ [a]]
  · rfl
  · simp [loadCells, go_sem]

/- what 'text' sees of a node -/
structure NodeAt (w : World) (tb : Nat) (n : Nat) (x : Nd) (g pn pc : Nat) (ka : Option Addr) (kc : Nat) : Prop where
  c0 : w.cell? ⟨tb, 0, none⟩ = some (.slice (some ⟨g, 0, none⟩) pn pc)
  lt : n < pn
  small : pn ≤ 100
  e0 : w.cell? ⟨g, n * 3, none⟩ = some (.int .u8 x.c)
  e1 : w.cell? ⟨g, n * 3 + 1, none⟩ = some (.int .i64 x.d)
  e2 : w.cell? ⟨g, n * 3 + 2, none⟩ = some (.slice ka x.ks.length kc)
  kid : ∀ (i k : Nat), x.ks[i]? = some k → ∃ kb, ka = some ⟨kb, 0, none⟩ ∧ kb < w.heap.size ∧ w.cell? ⟨kb, i, none⟩ = some (.int .i64 k)

theorem conv_letter (w : World) (o : Obj) (c : Nat) : (convert 67 9 (.slice (some ⟨w.heap.size + 1, 0, none⟩) 1 1)).run Try.prog ((w.alloc o).alloc (.cells #[.int .u8 c] 5)) = .ok (.string (strN [c])) ((w.alloc o).alloc (.cells #[.int .u8 c] 5)) := by
  have h := conv_one (w.alloc o) c
  rw [show (w.alloc o).heap.size = w.heap.size + 1 by simp] at h
  rw [h]
  rfl
theorem digits_at : ∀ d, d ≤ 9 → (⟨#[48, 49, 50, 51, 52, 53, 54, 55, 56, 57]⟩ : ByteArray).extract d (d + 1) = strN [d + 48] := by decide +kernel

set_option maxRecDepth 100000 in
set_option maxHeartbeats 4000000 in
theorem text_walk (w : World) (tb n : Nat) (x : Nd) (g pn pc : Nat) (ka : Option Addr) (kc : Nat) (T : Nat → List Nat) (hN : NodeAt w tb n x g pn pc ka kc) (hf : form x) (hlen : (headN x ++ (catN T x.ks ++ tailN x)).length ≤ 1000)
    (HK : ∀ (i k : Nat), x.ks[i]? = some k → ∀ w', Below w.heap.size w w' → Calls Try.prog 19 #[.pointer (some ⟨tb, 0, none⟩), .int .i64 k] w' fun e w'' => e = .returned (.string (strN (T k))) ∧ Below w'.heap.size w' w'') :
    Calls Try.prog 19 #[.pointer (some ⟨tb, 0, none⟩), .int .i64 n] w fun e w' => e = .returned (.string (strN (headN x ++ (catN T x.ks ++ tailN x)))) ∧ Below w.heap.size w w' := by
  obtain ⟨c0, hlt, hsm, e0, e1, e2, hkid⟩ := hN
  have hd9 : (x.c = 101 ∨ x.c = 97 ∨ x.c = 113) → x.d ≤ 9 := by unfold form at hf; omega
  obtain ⟨kn, hkn⟩ : ∃ kn, kn = x.ks.length := ⟨_, rfl⟩
  have hk6 : kn ≤ 6 := by
    rw [hkn]
    unfold form at hf
    rcases hf with ⟨_, h⟩ | ⟨_, _, _, h⟩ | ⟨_, _, _, h⟩ | ⟨_, _, h⟩ | ⟨_, _, h⟩
    · rw [h]; simp
    · rw [h]; simp
    · omega
    · omega
    · exact h
  have hcv := conv_letter w (.cells #[.int .u8 x.c, .int .i64 x.d, .slice ka kn kc] 90) x.c
  have hdg := digits_at x.d
  rw [← hkn] at e2
  have HKK := hide HK
  have HKID := hide hkid
  have HKN := hide hkn
  have hct : ∀ k, k ≤ x.ks.length → (catN T (x.ks.take k)).length ≤ (catN T x.ks).length := by
    intro k _
    have : catN T x.ks = catN T (x.ks.take k) ++ catN T (x.ks.drop k) := by rw [← catN_append, List.take_append_drop]
    rw [this, List.length_append]
    omega
  have hstep : ∀ (i k : Nat), x.ks[i]? = some k → catN T (x.ks.take (i + 1)) = catN T (x.ks.take i) ++ T k := by
    intro i k hk
    rw [List.take_add_one, hk, catN_append]
    simp [catN]
  have HCT := hide hct
  have HST := hide hstep
  have HL := hide hlen
  have hcase : ((x.c = 101 ∨ x.c = 97 ∨ x.c = 113) ∧ headN x = [x.c, x.d + 48] ∧ tailN x = [] ∧ ((x.c : Int) == 114) = false ∧ ((x.c : Int) == 117) = false) ∨ ((x.c = 114 ∨ x.c = 117) ∧ headN x = [x.c, 40] ∧ tailN x = [41] ∧ ((x.c : Int) == 101) = false ∧ ((x.c : Int) == 97) = false ∧ ((x.c : Int) == 113) = false) ∨ (headN x = [x.c] ∧ tailN x = [] ∧ ((x.c : Int) == 101) = false ∧ ((x.c : Int) == 97) = false ∧ ((x.c : Int) == 113) = false ∧ ((x.c : Int) == 114) = false ∧ ((x.c : Int) == 117) = false) := by
    unfold form at hf
    unfold headN tailN
    by_cases h1 : x.c = 101 ∨ x.c = 97 ∨ x.c = 113
    · refine Or.inl ⟨h1, ?_, ?_, ?_, ?_⟩
      · rw [if_pos h1, if_neg (by omega)]; rfl
      · rw [if_neg (by omega)]
      · simp; omega
      · simp; omega
    · by_cases h2 : x.c = 114 ∨ x.c = 117
      · refine Or.inr (Or.inl ⟨h2, ?_, ?_, ?_, ?_, ?_⟩)
        · rw [if_neg h1, if_pos h2]; rfl
        · rw [if_pos h2]
        · simp; omega
        · simp; omega
        · simp; omega
      · refine Or.inr (Or.inr ⟨?_, ?_, ?_, ?_, ?_, ?_, ?_⟩)
        · rw [if_neg h1, if_neg h2]; rfl
        · rw [if_neg h2]
        all_goals simp; omega
  clear hf HK hkid hkn hct hstep hlen
  generalize headN x = hd at *
  generalize tailN x = tl at *
  obtain ⟨xc, xd, xv, ks⟩ := x
  simp only at *
  rcases hcase with ⟨hcc, rfl, rfl, t4, t5⟩ | ⟨hcc, rfl, rfl, t1, t2, t3⟩ | ⟨rfl, rfl, t1, t2, t3, t4, t5⟩
  · have hd9' := hd9 hcc
    have hdg' := hdg hd9'
    have HDG := hide hdg'
    clear hd9 hdg hdg'
    have hc2 : ((xc : Int) == 101) = true ∨ (((xc : Int) == 101) = false ∧ ((xc : Int) == 97) = true) ∨ (((xc : Int) == 101) = false ∧ ((xc : Int) == 97) = false ∧ ((xc : Int) == 113) = true) := by
      simp
      omega
    clear hcc
    rcases hc2 with t1 | ⟨t1, t2⟩ | ⟨t1, t2, t3⟩
    · go_enter Try.func19, Try.ntmps19
      go_wp2
      go_loopw [6, 7] (fun sv iv wr => ∃ i : Nat, i ≤ kn ∧ iv = .int .i64 i ∧ sv = .string (strN ([xc, xd + 48] ++ catN T (ks.take i))) ∧ Below (w.heap.size + 1) (w.alloc (.cells #[.int .u8 xc, .int .i64 xd, .slice ka kn kc] 90)) wr) (fun _ iv _ => kn - (intOf iv).toNat)
      case atStart => exact ⟨0, Nat.zero_le _, rfl, by rw [unhide HDG, strN_append]; rfl, (Below.refl _ _).alloc (by simp) _⟩
      case round =>
        obtain ⟨i, hi, rfl, rfl, hb⟩ := hrel
        have hb1 : Below w.heap.size w wr := ((Below.refl w.heap.size w).alloc (Nat.le_refl _) _).trans (hb.mono (by omega))
        have b0 : wr.cell? ⟨w.heap.size, 0, none⟩ = some (.int .u8 xc) := (hb.cell (p := ⟨w.heap.size, 0, none⟩) (by simp)).trans (by simp [go_sem])
        have b2 : wr.cell? ⟨w.heap.size, 2, none⟩ = some (.slice ka kn kc) := (hb.cell (p := ⟨w.heap.size, 2, none⟩) (by simp)).trans (by simp [go_sem])
        have HB := hide hb
        by_cases hlt2 : i < kn
        · obtain ⟨k, hk⟩ : ∃ k, ks[i]? = some k := ⟨_, List.getElem?_eq_getElem (by rw [← unhide HKN]; exact hlt2)⟩
          obtain ⟨kb, rfl, hkb, hkc⟩ := (unhide HKID) i k hk
          have hkc' := (hb1.cell (p := ⟨kb, i, none⟩) hkb).trans hkc
          have HC := hide ((unhide HKK) i k hk wr hb1)
          have hnew := (unhide HST) i k hk
          have hsz1 : (strN ([xc, xd + 48] ++ catN T (ks.take i))).size ≤ 1000 := by
            rw [strN_size]
            have h1 := unhide HL
            have h2 := (unhide HCT) i (by rw [← unhide HKN]; omega)
            simp only [List.length_append] at h1 ⊢
            omega
          have hsz2 : (strN (T k)).size ≤ 1000 := by
            rw [strN_size]
            have h1 := unhide HL
            have h2 := (unhide HCT) (i + 1) (by rw [← unhide HKN]; omega)
            rw [hnew] at h2
            simp only [List.length_append] at h1 h2
            omega
          have hcat : strN ([xc, xd + 48] ++ catN T (ks.take i)) ++ strN (T k) = strN ([xc, xd + 48] ++ catN T (ks.take (i + 1))) := by rw [strN_append, List.append_assoc, hnew]
          have HCAT := hide hcat
          clear hk hkc hnew hb hb1 hcat
          generalize strN ([xc, xd + 48] ++ catN T (ks.take i)) = S1 at *
          generalize strN (T k) = S2 at *
          go_wp2_with fail
          refine (unhide HC).mono ?_
          rintro e w2 ⟨rfl, hb2⟩
          have HB2 := hide ((unhide HB).trans (hb2.mono (by have := (unhide HB).size; simpa using this)))
          clear hb2
          go_wp2
          go_roundw
          case rel => exact ⟨i + 1, by omega, by go_num, by rw [← unhide HCAT], unhide HB2⟩
          case measure => simp [intOf]; omega
        · obtain rfl : i = kn := by omega
          have htk : ks.take i = ks := List.take_of_length_le (by rw [← unhide HKN]; exact Nat.le_refl _)
          rw [htk]
          have hsz1 : (strN ([xc, xd + 48] ++ catN T ks)).size ≤ 1000 := by
            rw [strN_size]
            have h1 := unhide HL
            simp only [List.length_append] at h1 ⊢
            omega
          have hfin : strN ([xc, xd + 48] ++ catN T ks) = strN ([xc, xd + 48] ++ (catN T ks ++ [])) := by rw [List.append_nil]
          have HFIN := hide hfin
          have HE := hide hb1
          clear hb hb1 hfin htk
          generalize strN ([xc, xd + 48] ++ catN T ks) = S1 at *
          go_wp2
          go_ret
          exact ⟨congrArg (fun s => Ending.returned (Value.string s)) (unhide HFIN), unhide HE⟩
    · go_enter Try.func19, Try.ntmps19
      go_wp2
      go_loopw [6, 7] (fun sv iv wr => ∃ i : Nat, i ≤ kn ∧ iv = .int .i64 i ∧ sv = .string (strN ([xc, xd + 48] ++ catN T (ks.take i))) ∧ Below (w.heap.size + 1) (w.alloc (.cells #[.int .u8 xc, .int .i64 xd, .slice ka kn kc] 90)) wr) (fun _ iv _ => kn - (intOf iv).toNat)
      case atStart => exact ⟨0, Nat.zero_le _, rfl, by rw [unhide HDG, strN_append]; rfl, (Below.refl _ _).alloc (by simp) _⟩
      case round =>
        obtain ⟨i, hi, rfl, rfl, hb⟩ := hrel
        have hb1 : Below w.heap.size w wr := ((Below.refl w.heap.size w).alloc (Nat.le_refl _) _).trans (hb.mono (by omega))
        have b0 : wr.cell? ⟨w.heap.size, 0, none⟩ = some (.int .u8 xc) := (hb.cell (p := ⟨w.heap.size, 0, none⟩) (by simp)).trans (by simp [go_sem])
        have b2 : wr.cell? ⟨w.heap.size, 2, none⟩ = some (.slice ka kn kc) := (hb.cell (p := ⟨w.heap.size, 2, none⟩) (by simp)).trans (by simp [go_sem])
        have HB := hide hb
        by_cases hlt2 : i < kn
        · obtain ⟨k, hk⟩ : ∃ k, ks[i]? = some k := ⟨_, List.getElem?_eq_getElem (by rw [← unhide HKN]; exact hlt2)⟩
          obtain ⟨kb, rfl, hkb, hkc⟩ := (unhide HKID) i k hk
          have hkc' := (hb1.cell (p := ⟨kb, i, none⟩) hkb).trans hkc
          have HC := hide ((unhide HKK) i k hk wr hb1)
          have hnew := (unhide HST) i k hk
          have hsz1 : (strN ([xc, xd + 48] ++ catN T (ks.take i))).size ≤ 1000 := by
            rw [strN_size]
            have h1 := unhide HL
            have h2 := (unhide HCT) i (by rw [← unhide HKN]; omega)
            simp only [List.length_append] at h1 ⊢
            omega
          have hsz2 : (strN (T k)).size ≤ 1000 := by
            rw [strN_size]
            have h1 := unhide HL
            have h2 := (unhide HCT) (i + 1) (by rw [← unhide HKN]; omega)
            rw [hnew] at h2
            simp only [List.length_append] at h1 h2
            omega
          have hcat : strN ([xc, xd + 48] ++ catN T (ks.take i)) ++ strN (T k) = strN ([xc, xd + 48] ++ catN T (ks.take (i + 1))) := by rw [strN_append, List.append_assoc, hnew]
          have HCAT := hide hcat
          clear hk hkc hnew hb hb1 hcat
          generalize strN ([xc, xd + 48] ++ catN T (ks.take i)) = S1 at *
          generalize strN (T k) = S2 at *
          go_wp2_with fail
          refine (unhide HC).mono ?_
          rintro e w2 ⟨rfl, hb2⟩
          have HB2 := hide ((unhide HB).trans (hb2.mono (by have := (unhide HB).size; simpa using this)))
          clear hb2
          go_wp2
          go_roundw
          case rel => exact ⟨i + 1, by omega, by go_num, by rw [← unhide HCAT], unhide HB2⟩
          case measure => simp [intOf]; omega
        · obtain rfl : i = kn := by omega
          have htk : ks.take i = ks := List.take_of_length_le (by rw [← unhide HKN]; exact Nat.le_refl _)
          rw [htk]
          have hsz1 : (strN ([xc, xd + 48] ++ catN T ks)).size ≤ 1000 := by
            rw [strN_size]
            have h1 := unhide HL
            simp only [List.length_append] at h1 ⊢
            omega
          have hfin : strN ([xc, xd + 48] ++ catN T ks) = strN ([xc, xd + 48] ++ (catN T ks ++ [])) := by rw [List.append_nil]
          have HFIN := hide hfin
          have HE := hide hb1
          clear hb hb1 hfin htk
          generalize strN ([xc, xd + 48] ++ catN T ks) = S1 at *
          go_wp2
          go_ret
          exact ⟨congrArg (fun s => Ending.returned (Value.string s)) (unhide HFIN), unhide HE⟩
    · go_enter Try.func19, Try.ntmps19
      go_wp2
      go_loopw [6, 7] (fun sv iv wr => ∃ i : Nat, i ≤ kn ∧ iv = .int .i64 i ∧ sv = .string (strN ([xc, xd + 48] ++ catN T (ks.take i))) ∧ Below (w.heap.size + 1) (w.alloc (.cells #[.int .u8 xc, .int .i64 xd, .slice ka kn kc] 90)) wr) (fun _ iv _ => kn - (intOf iv).toNat)
      case atStart => exact ⟨0, Nat.zero_le _, rfl, by rw [unhide HDG, strN_append]; rfl, (Below.refl _ _).alloc (by simp) _⟩
      case round =>
        obtain ⟨i, hi, rfl, rfl, hb⟩ := hrel
        have hb1 : Below w.heap.size w wr := ((Below.refl w.heap.size w).alloc (Nat.le_refl _) _).trans (hb.mono (by omega))
        have b0 : wr.cell? ⟨w.heap.size, 0, none⟩ = some (.int .u8 xc) := (hb.cell (p := ⟨w.heap.size, 0, none⟩) (by simp)).trans (by simp [go_sem])
        have b2 : wr.cell? ⟨w.heap.size, 2, none⟩ = some (.slice ka kn kc) := (hb.cell (p := ⟨w.heap.size, 2, none⟩) (by simp)).trans (by simp [go_sem])
        have HB := hide hb
        by_cases hlt2 : i < kn
        · obtain ⟨k, hk⟩ : ∃ k, ks[i]? = some k := ⟨_, List.getElem?_eq_getElem (by rw [← unhide HKN]; exact hlt2)⟩
          obtain ⟨kb, rfl, hkb, hkc⟩ := (unhide HKID) i k hk
          have hkc' := (hb1.cell (p := ⟨kb, i, none⟩) hkb).trans hkc
          have HC := hide ((unhide HKK) i k hk wr hb1)
          have hnew := (unhide HST) i k hk
          have hsz1 : (strN ([xc, xd + 48] ++ catN T (ks.take i))).size ≤ 1000 := by
            rw [strN_size]
            have h1 := unhide HL
            have h2 := (unhide HCT) i (by rw [← unhide HKN]; omega)
            simp only [List.length_append] at h1 ⊢
            omega
          have hsz2 : (strN (T k)).size ≤ 1000 := by
            rw [strN_size]
            have h1 := unhide HL
            have h2 := (unhide HCT) (i + 1) (by rw [← unhide HKN]; omega)
            rw [hnew] at h2
            simp only [List.length_append] at h1 h2
            omega
          have hcat : strN ([xc, xd + 48] ++ catN T (ks.take i)) ++ strN (T k) = strN ([xc, xd + 48] ++ catN T (ks.take (i + 1))) := by rw [strN_append, List.append_assoc, hnew]
          have HCAT := hide hcat
          clear hk hkc hnew hb hb1 hcat
          generalize strN ([xc, xd + 48] ++ catN T (ks.take i)) = S1 at *
          generalize strN (T k) = S2 at *
          go_wp2_with fail
          refine (unhide HC).mono ?_
          rintro e w2 ⟨rfl, hb2⟩
          have HB2 := hide ((unhide HB).trans (hb2.mono (by have := (unhide HB).size; simpa using this)))
          clear hb2
          go_wp2
          go_roundw
          case rel => exact ⟨i + 1, by omega, by go_num, by rw [← unhide HCAT], unhide HB2⟩
          case measure => simp [intOf]; omega
        · obtain rfl : i = kn := by omega
          have htk : ks.take i = ks := List.take_of_length_le (by rw [← unhide HKN]; exact Nat.le_refl _)
          rw [htk]
          have hsz1 : (strN ([xc, xd + 48] ++ catN T ks)).size ≤ 1000 := by
            rw [strN_size]
            have h1 := unhide HL
            simp only [List.length_append] at h1 ⊢
            omega
          have hfin : strN ([xc, xd + 48] ++ catN T ks) = strN ([xc, xd + 48] ++ (catN T ks ++ [])) := by rw [List.append_nil]
          have HFIN := hide hfin
          have HE := hide hb1
          clear hb hb1 hfin htk
          generalize strN ([xc, xd + 48] ++ catN T ks) = S1 at *
          go_wp2
          go_ret
          exact ⟨congrArg (fun s => Ending.returned (Value.string s)) (unhide HFIN), unhide HE⟩
  · have hc2 : ((xc : Int) == 114) = true ∨ (((xc : Int) == 114) = false ∧ ((xc : Int) == 117) = true) := by
      simp
      omega
    clear hcc hd9 hdg
    rcases hc2 with t4 | ⟨t4, t5⟩
    · go_enter Try.func19, Try.ntmps19
      go_wp2
      go_loopw [6, 7] (fun sv iv wr => ∃ i : Nat, i ≤ kn ∧ iv = .int .i64 i ∧ sv = .string (strN ([xc, 40] ++ catN T (ks.take i))) ∧ Below (w.heap.size + 1) (w.alloc (.cells #[.int .u8 xc, .int .i64 xd, .slice ka kn kc] 90)) wr) (fun _ iv _ => kn - (intOf iv).toNat)
      case atStart => exact ⟨0, Nat.zero_le _, rfl, by rw [show (⟨#[40]⟩ : ByteArray) = strN [40] from rfl, strN_append]; rfl, (Below.refl _ _).alloc (by simp) _⟩
      case round =>
        obtain ⟨i, hi, rfl, rfl, hb⟩ := hrel
        have hb1 : Below w.heap.size w wr := ((Below.refl w.heap.size w).alloc (Nat.le_refl _) _).trans (hb.mono (by omega))
        have b0 : wr.cell? ⟨w.heap.size, 0, none⟩ = some (.int .u8 xc) := (hb.cell (p := ⟨w.heap.size, 0, none⟩) (by simp)).trans (by simp [go_sem])
        have b2 : wr.cell? ⟨w.heap.size, 2, none⟩ = some (.slice ka kn kc) := (hb.cell (p := ⟨w.heap.size, 2, none⟩) (by simp)).trans (by simp [go_sem])
        have HB := hide hb
        by_cases hlt2 : i < kn
        · obtain ⟨k, hk⟩ : ∃ k, ks[i]? = some k := ⟨_, List.getElem?_eq_getElem (by rw [← unhide HKN]; exact hlt2)⟩
          obtain ⟨kb, rfl, hkb, hkc⟩ := (unhide HKID) i k hk
          have hkc' := (hb1.cell (p := ⟨kb, i, none⟩) hkb).trans hkc
          have HC := hide ((unhide HKK) i k hk wr hb1)
          have hnew := (unhide HST) i k hk
          have hsz1 : (strN ([xc, 40] ++ catN T (ks.take i))).size ≤ 1000 := by
            rw [strN_size]
            have h1 := unhide HL
            have h2 := (unhide HCT) i (by rw [← unhide HKN]; omega)
            simp only [List.length_append] at h1 ⊢
            omega
          have hsz2 : (strN (T k)).size ≤ 1000 := by
            rw [strN_size]
            have h1 := unhide HL
            have h2 := (unhide HCT) (i + 1) (by rw [← unhide HKN]; omega)
            rw [hnew] at h2
            simp only [List.length_append] at h1 h2
            omega
          have hcat : strN ([xc, 40] ++ catN T (ks.take i)) ++ strN (T k) = strN ([xc, 40] ++ catN T (ks.take (i + 1))) := by rw [strN_append, List.append_assoc, hnew]
          have HCAT := hide hcat
          clear hk hkc hnew hb hb1 hcat
          generalize strN ([xc, 40] ++ catN T (ks.take i)) = S1 at *
          generalize strN (T k) = S2 at *
          go_wp2_with fail
          refine (unhide HC).mono ?_
          rintro e w2 ⟨rfl, hb2⟩
          have HB2 := hide ((unhide HB).trans (hb2.mono (by have := (unhide HB).size; simpa using this)))
          clear hb2
          go_wp2
          go_roundw
          case rel => exact ⟨i + 1, by omega, by go_num, by rw [← unhide HCAT], unhide HB2⟩
          case measure => simp [intOf]; omega
        · obtain rfl : i = kn := by omega
          have htk : ks.take i = ks := List.take_of_length_le (by rw [← unhide HKN]; exact Nat.le_refl _)
          rw [htk]
          have hsz1 : (strN ([xc, 40] ++ catN T ks)).size ≤ 1000 := by
            rw [strN_size]
            have h1 := unhide HL
            simp only [List.length_append] at h1 ⊢
            omega
          have hfin : strN ([xc, 40] ++ catN T ks) ++ (⟨#[41]⟩ : ByteArray) = strN ([xc, 40] ++ (catN T ks ++ [41])) := by rw [show (⟨#[41]⟩ : ByteArray) = strN [41] from rfl, strN_append, List.append_assoc]
          have HFIN := hide hfin
          have HE := hide hb1
          clear hb hb1 hfin htk
          generalize strN ([xc, 40] ++ catN T ks) = S1 at *
          go_wp2
          go_ret
          exact ⟨congrArg (fun s => Ending.returned (Value.string s)) (unhide HFIN), unhide HE⟩
    · go_enter Try.func19, Try.ntmps19
      go_wp2
      go_loopw [6, 7] (fun sv iv wr => ∃ i : Nat, i ≤ kn ∧ iv = .int .i64 i ∧ sv = .string (strN ([xc, 40] ++ catN T (ks.take i))) ∧ Below (w.heap.size + 1) (w.alloc (.cells #[.int .u8 xc, .int .i64 xd, .slice ka kn kc] 90)) wr) (fun _ iv _ => kn - (intOf iv).toNat)
      case atStart => exact ⟨0, Nat.zero_le _, rfl, by rw [show (⟨#[40]⟩ : ByteArray) = strN [40] from rfl, strN_append]; rfl, (Below.refl _ _).alloc (by simp) _⟩
      case round =>
        obtain ⟨i, hi, rfl, rfl, hb⟩ := hrel
        have hb1 : Below w.heap.size w wr := ((Below.refl w.heap.size w).alloc (Nat.le_refl _) _).trans (hb.mono (by omega))
        have b0 : wr.cell? ⟨w.heap.size, 0, none⟩ = some (.int .u8 xc) := (hb.cell (p := ⟨w.heap.size, 0, none⟩) (by simp)).trans (by simp [go_sem])
        have b2 : wr.cell? ⟨w.heap.size, 2, none⟩ = some (.slice ka kn kc) := (hb.cell (p := ⟨w.heap.size, 2, none⟩) (by simp)).trans (by simp [go_sem])
        have HB := hide hb
        by_cases hlt2 : i < kn
        · obtain ⟨k, hk⟩ : ∃ k, ks[i]? = some k := ⟨_, List.getElem?_eq_getElem (by rw [← unhide HKN]; exact hlt2)⟩
          obtain ⟨kb, rfl, hkb, hkc⟩ := (unhide HKID) i k hk
          have hkc' := (hb1.cell (p := ⟨kb, i, none⟩) hkb).trans hkc
          have HC := hide ((unhide HKK) i k hk wr hb1)
          have hnew := (unhide HST) i k hk
          have hsz1 : (strN ([xc, 40] ++ catN T (ks.take i))).size ≤ 1000 := by
            rw [strN_size]
            have h1 := unhide HL
            have h2 := (unhide HCT) i (by rw [← unhide HKN]; omega)
            simp only [List.length_append] at h1 ⊢
            omega
          have hsz2 : (strN (T k)).size ≤ 1000 := by
            rw [strN_size]
            have h1 := unhide HL
            have h2 := (unhide HCT) (i + 1) (by rw [← unhide HKN]; omega)
            rw [hnew] at h2
            simp only [List.length_append] at h1 h2
            omega
          have hcat : strN ([xc, 40] ++ catN T (ks.take i)) ++ strN (T k) = strN ([xc, 40] ++ catN T (ks.take (i + 1))) := by rw [strN_append, List.append_assoc, hnew]
          have HCAT := hide hcat
          clear hk hkc hnew hb hb1 hcat
          generalize strN ([xc, 40] ++ catN T (ks.take i)) = S1 at *
          generalize strN (T k) = S2 at *
          go_wp2_with fail
          refine (unhide HC).mono ?_
          rintro e w2 ⟨rfl, hb2⟩
          have HB2 := hide ((unhide HB).trans (hb2.mono (by have := (unhide HB).size; simpa using this)))
          clear hb2
          go_wp2
          go_roundw
          case rel => exact ⟨i + 1, by omega, by go_num, by rw [← unhide HCAT], unhide HB2⟩
          case measure => simp [intOf]; omega
        · obtain rfl : i = kn := by omega
          have htk : ks.take i = ks := List.take_of_length_le (by rw [← unhide HKN]; exact Nat.le_refl _)
          rw [htk]
          have hsz1 : (strN ([xc, 40] ++ catN T ks)).size ≤ 1000 := by
            rw [strN_size]
            have h1 := unhide HL
            simp only [List.length_append] at h1 ⊢
            omega
          have hfin : strN ([xc, 40] ++ catN T ks) ++ (⟨#[41]⟩ : ByteArray) = strN ([xc, 40] ++ (catN T ks ++ [41])) := by rw [show (⟨#[41]⟩ : ByteArray) = strN [41] from rfl, strN_append, List.append_assoc]
          have HFIN := hide hfin
          have HE := hide hb1
          clear hb hb1 hfin htk
          generalize strN ([xc, 40] ++ catN T ks) = S1 at *
          go_wp2
          go_ret
          exact ⟨congrArg (fun s => Ending.returned (Value.string s)) (unhide HFIN), unhide HE⟩
  · clear hd9 hdg
    go_enter Try.func19, Try.ntmps19
    go_wp2
    go_loopw [6, 7] (fun sv iv wr => ∃ i : Nat, i ≤ kn ∧ iv = .int .i64 i ∧ sv = .string (strN ([xc] ++ catN T (ks.take i))) ∧ Below (w.heap.size + 1) (w.alloc (.cells #[.int .u8 xc, .int .i64 xd, .slice ka kn kc] 90)) wr) (fun _ iv _ => kn - (intOf iv).toNat)
    case atStart => exact ⟨0, Nat.zero_le _, rfl, by rfl, (Below.refl _ _).alloc (by simp) _⟩
    case round =>
      obtain ⟨i, hi, rfl, rfl, hb⟩ := hrel
      have hb1 : Below w.heap.size w wr := ((Below.refl w.heap.size w).alloc (Nat.le_refl _) _).trans (hb.mono (by omega))
      have b0 : wr.cell? ⟨w.heap.size, 0, none⟩ = some (.int .u8 xc) := (hb.cell (p := ⟨w.heap.size, 0, none⟩) (by simp)).trans (by simp [go_sem])
      have b2 : wr.cell? ⟨w.heap.size, 2, none⟩ = some (.slice ka kn kc) := (hb.cell (p := ⟨w.heap.size, 2, none⟩) (by simp)).trans (by simp [go_sem])
      have HB := hide hb
      by_cases hlt2 : i < kn
      · obtain ⟨k, hk⟩ : ∃ k, ks[i]? = some k := ⟨_, List.getElem?_eq_getElem (by rw [← unhide HKN]; exact hlt2)⟩
        obtain ⟨kb, rfl, hkb, hkc⟩ := (unhide HKID) i k hk
        have hkc' := (hb1.cell (p := ⟨kb, i, none⟩) hkb).trans hkc
        have HC := hide ((unhide HKK) i k hk wr hb1)
        have hnew := (unhide HST) i k hk
        have hsz1 : (strN ([xc] ++ catN T (ks.take i))).size ≤ 1000 := by
          rw [strN_size]
          have h1 := unhide HL
          have h2 := (unhide HCT) i (by rw [← unhide HKN]; omega)
          simp only [List.length_append] at h1 ⊢
          omega
        have hsz2 : (strN (T k)).size ≤ 1000 := by
          rw [strN_size]
          have h1 := unhide HL
          have h2 := (unhide HCT) (i + 1) (by rw [← unhide HKN]; omega)
          rw [hnew] at h2
          simp only [List.length_append] at h1 h2
          omega
        have hcat : strN ([xc] ++ catN T (ks.take i)) ++ strN (T k) = strN ([xc] ++ catN T (ks.take (i + 1))) := by rw [strN_append, List.append_assoc, hnew]
        have HCAT := hide hcat
        clear hk hkc hnew hb hb1 hcat
        generalize strN ([xc] ++ catN T (ks.take i)) = S1 at *
        generalize strN (T k) = S2 at *
        go_wp2_with fail
        refine (unhide HC).mono ?_
        rintro e w2 ⟨rfl, hb2⟩
        have HB2 := hide ((unhide HB).trans (hb2.mono (by have := (unhide HB).size; simpa using this)))
        clear hb2
        go_wp2
        go_roundw
        case rel => exact ⟨i + 1, by omega, by go_num, by rw [← unhide HCAT], unhide HB2⟩
        case measure => simp [intOf]; omega
      · obtain rfl : i = kn := by omega
        have htk : ks.take i = ks := List.take_of_length_le (by rw [← unhide HKN]; exact Nat.le_refl _)
        rw [htk]
        have hsz1 : (strN ([xc] ++ catN T ks)).size ≤ 1000 := by
          rw [strN_size]
          have h1 := unhide HL
          simp only [List.length_append] at h1 ⊢
          omega
        have hfin : strN ([xc] ++ catN T ks) = strN ([xc] ++ (catN T ks ++ [])) := by rw [List.append_nil]
        have HFIN := hide hfin
        have HE := hide hb1
        clear hb hb1 hfin htk
        generalize strN ([xc] ++ catN T ks) = S1 at *
        go_wp2
        go_ret
        exact ⟨congrArg (fun s => Ending.returned (Value.string s)) (unhide HFIN), unhide HE⟩

end Go.Proofs.Ytblomippkddgiaa.V

/-
  A grown type in memory; its text.
-/
namespace Go.Proofs.Ytblomippkddgiaa.V
open Go.RowKit

def nums (ks : List Nat) : List Value := ks.map fun (k : Nat) => Value.int .i64 (k : Int)
def nflat : List Nd → List Value
  | [] => []
  | x :: P => .int .u8 x.c :: .int .i64 x.d :: x.v :: nflat P
theorem nflat_length : ∀ P : List Nd, (nflat P).length = P.length * 3
  | [] => rfl
  | x :: P => by
    simp only [nflat, List.length_cons, nflat_length P]
    omega
theorem nflat_snoc : ∀ (P : List Nd) (x : Nd), nflat (P ++ [x]) = nflat P ++ [.int .u8 x.c, .int .i64 x.d, x.v]
  | [], x => rfl
  | y :: P, x => by simp only [List.cons_append, nflat, nflat_snoc P x]
theorem nflat_get : ∀ (P : List Nd) (n : Nat) (x : Nd), P[n]? = some x → (nflat P)[n * 3]? = some (.int .u8 x.c) ∧ (nflat P)[n * 3 + 1]? = some (.int .i64 x.d) ∧ (nflat P)[n * 3 + 2]? = some x.v
  | [], n, x, h => by simp at h
  | y :: P, 0, x, h => by
    simp at h
    subst h
    exact ⟨rfl, rfl, rfl⟩
  | y :: P, n + 1, x, h => by
    have := nflat_get P n x (by simpa using h)
    simp only [nflat]
    rw [show (n + 1) * 3 = n * 3 + 3 by omega]
    exact this

/- a tree in memory: tb its block, NV the list of its nodes -/
structure Tr (w0 : World) (tb : Nat) (P : List Nd) (NV : Value) (w : World) : Prop where
  cell : w.heap[tb]? = some (.cells #[NV] 49 (0, 0))
  row : w.ownsRow w0.heap.size 90 3 NV P.length (nflat P)
  kids : ∀ x ∈ P, w.ownsRow w0.heap.size 3 1 x.v x.ks.length (nums x.ks)
  b0 : w0.heap.size ≤ tb
  sep : NV.ownBlock ≠ some tb
  sepk : ∀ x ∈ P, x.v.ownBlock ≠ some tb ∧ ∀ j, x.v.ownBlock = some j → NV.ownBlock ≠ some j
/- the blocks of a tree -/
def TrB (tb : Nat) (P : List Nd) (NV : Value) (k : Nat) : Prop := k = tb ∨ NV.ownBlock = some k ∨ ∃ x ∈ P, x.v.ownBlock = some k
theorem Tr.keep {w0 w w' : World} {tb : Nat} {P : List Nd} {NV : Value} (h : Tr w0 tb P NV w) (hk : ∀ k, TrB tb P NV k → w'.heap[k]? = w.heap[k]?) : Tr w0 tb P NV w' :=
  ⟨by rw [hk tb (Or.inl rfl)]; exact h.cell, row_keep h.row (fun g hg => hk g (Or.inr (Or.inl hg))), fun x hx => row_keep (h.kids x hx) (fun g hg => hk g (Or.inr (Or.inr ⟨x, hx, hg⟩))), h.b0, h.sep, h.sepk⟩
theorem Tr.lt {w0 w : World} {tb : Nat} {P : List Nd} {NV : Value} (h : Tr w0 tb P NV w) {k : Nat} (hk : TrB tb P NV k) : k < w.heap.size ∧ w0.heap.size ≤ k := by
  rcases hk with rfl | hk | ⟨x, hx, hk⟩
  · exact ⟨lt_of_block h.cell, h.b0⟩
  · have := h.row.lt k hk
    omega
  · have := (h.kids x hx).lt k hk
    omega
theorem Tr.go {w0 w w' : World} {tb : Nat} {P : List Nd} {NV : Value} (h : Tr w0 tb P NV w) (hb : Below w.heap.size w w') : Tr w0 tb P NV w' := h.keep fun k hk => hb.block k (h.lt hk).1

theorem node_at {w0 w : World} {tb : Nat} {P : List Nd} {NV : Value} (h : Tr w0 tb P NV w) {n : Nat} {x : Nd} (hx : P[n]? = some x) (hP : P.length ≤ 100) : ∃ g pc ka kc, NodeAt w tb n x g P.length pc ka kc ∧ NV = .slice (some ⟨g, 0, none⟩) P.length pc ∧ x.v = .slice ka x.ks.length kc := by
  have hn : n < P.length := (List.getElem?_eq_some_iff.1 hx).1
  obtain ⟨f0, f1, f2⟩ := nflat_get P n x hx
  rcases h.row.2 with ⟨_, h0⟩ | ⟨g, pc, cur, hv, _, hg, _⟩
  · omega
  · subst hv
    have hc := h.row.cells (g := g) rfl
    have hkr := h.kids x (List.mem_of_getElem? hx)
    have hsh : ∃ ka kc, x.v = .slice ka x.ks.length kc ∧ ∀ (i k : Nat), x.ks[i]? = some k → ∃ kb, ka = some ⟨kb, 0, none⟩ ∧ kb < w.heap.size ∧ w.cell? ⟨kb, i, none⟩ = some (.int .i64 k) := by
      rcases hkr.2 with ⟨hv, h0⟩ | ⟨kb, cap, cur, hv, _, hg2, _⟩
      · rw [h0]
        refine ⟨_, _, hv, fun i k hk => ?_⟩
        have : x.ks = [] := List.eq_nil_of_length_eq_zero h0
        rw [this] at hk
        simp at hk
      · refine ⟨_, _, hv, fun i k hk => ⟨kb, rfl, lt_of_block hg2, ?_⟩⟩
        have := hkr.cells (g := kb) (by rw [hv]; rfl) i (.int .i64 k) (by unfold nums; rw [List.getElem?_map, hk]; rfl)
        simpa only [Addr.add_lit, Nat.zero_add] using this
    obtain ⟨ka, kc, hv, hkid⟩ := hsh
    refine ⟨g, pc, ka, kc, ⟨?_, hn, hP, ?_, ?_, ?_, hkid⟩, rfl, hv⟩
    · simp [World.cell?, h.cell]
    · simpa only [Addr.add_lit, Nat.zero_add] using hc _ _ f0
    · simpa only [Addr.add_lit, Nat.zero_add] using hc _ _ f1
    · rw [← hv]
      simpa only [Addr.add_lit, Nat.zero_add] using hc _ _ f2

theorem text_any {w0 : World} {tb : Nat} {P : List Nd} {NV : Value} {hi : Nat} (hP : P.length ≤ 100) : ∀ d n, Tk P hi d n → (txt P d n).length ≤ 1000 → ∀ w, Tr w0 tb P NV w →
    Calls Try.prog 19 #[.pointer (some ⟨tb, 0, none⟩), .int .i64 n] w fun e w' => e = .returned (.string (strN (txt P d n))) ∧ Below w.heap.size w w' := by
  intro d
  induction d with
  | zero => intro n h; exact absurd h id
  | succ d ih =>
    intro n h hl w hT
    obtain ⟨_, x, hx, hf, hk⟩ := h
    obtain ⟨g, pc, ka, kc, hN, _, _⟩ := node_at hT hx hP
    rw [txt_some hx] at hl ⊢
    refine text_walk w tb n x g P.length pc ka kc (txt P d) hN hf hl fun i k hik w' hb => ?_
    have hm := List.mem_of_getElem? hik
    refine ih k (hk k hm).2 ?_ w' (hT.go hb)
    have h1 := catN_len (S := txt P d) x.ks k hm
    simp only [List.length_append] at hl
    omega

end Go.Proofs.Ytblomippkddgiaa.V
