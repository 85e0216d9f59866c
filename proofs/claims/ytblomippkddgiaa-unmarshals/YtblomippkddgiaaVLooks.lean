/-
  The book's 'looks': every list shows its marks.
-/
import Derived.Test.YtblomippkddgiaaVTake2
namespace Go.Proofs.Ytblomippkddgiaa.V
open Go.RowKit

theorem marks_items {B : Nat} {x : It} {w : World} {T : Value} {k : Nat} (h : Marks B x w T k) : Items w T (List.replicate k x) := by
  refine row_items (B := B) ?_
  rw [List.length_replicate]
  exact h
theorem ents_length : ∀ L : List Kp, (ents L).length = L.length * 7
  | [] => rfl
  | k :: L => by
    simp only [ents, List.length_append, ents_length L, List.length_cons, Kp.cells, List.length_nil]
    omega
theorem ents_get : ∀ (L : List Kp) (i : Nat) (k : Kp), L[i]? = some k → ∀ j, j < 7 → (ents L)[i * 7 + j]? = k.cells[j]?
  | [], i, k, h, j, _ => by simp at h
  | y :: L, 0, k, h, j, hj => by
    simp at h
    subst h
    simp only [ents, Nat.zero_mul, Nat.zero_add]
    rw [List.getElem?_append_left (by simp [Kp.cells]; omega)]
  | y :: L, i + 1, k, h, j, hj => by
    simp only [List.getElem?_cons_succ] at h
    simp only [ents]
    rw [List.getElem?_append_right (by simp [Kp.cells]; omega)]
    rw [show (i + 1) * 7 + j - y.cells.length = i * 7 + j by simp [Kp.cells]; omega]
    exact ents_get L i k h j hj

/- what 'looks' sees of an entry -/
structure Seen (w : World) (g i : Nat) (la a1 a2 a3 : Option Addr) (lc c1 c2 c3 n : Nat) (x0 : Int) (x1 : ByteArray) : Prop where
  e0 : w.cell? ⟨g, i * 7, none⟩ = some (.slice la n lc)
  e1 : w.cell? ⟨g, i * 7 + 1, none⟩ = some (.slice a1 (n + 1) c1)
  e2 : w.cell? ⟨g, i * 7 + 2, none⟩ = some (.slice a2 (n + 2) c2)
  e3 : w.cell? ⟨g, i * 7 + 3, none⟩ = some (.slice a3 (n + 3) c3)
  e4 : w.cell? ⟨g, i * 7 + 4, none⟩ = some (.int .i64 n)
  e5 : w.cell? ⟨g, i * 7 + 5, none⟩ = some (.int .i64 x0)
  e6 : w.cell? ⟨g, i * 7 + 6, none⟩ = some (.string x1)
  small : n ≤ 100000
  s0 : ∀ w', Below w.heap.size w w' → Calls Try.prog 42 #[.slice la n lc, .int .i64 n, aggIt (x0, x1)] w' fun e w'' => e = .returned (.bool true) ∧ Below w'.heap.size w' w''
  s1 : ∀ w', Below w.heap.size w w' → Calls Try.prog 42 #[.slice a1 (n + 1) c1, .int .i64 ((n : Int) + 1), aggIt (x0, x1)] w' fun e w'' => e = .returned (.bool true) ∧ Below w'.heap.size w' w''
  s2 : ∀ w', Below w.heap.size w w' → Calls Try.prog 42 #[.slice a2 (n + 2) c2, .int .i64 ((n : Int) + 2), aggIt (x0, x1)] w' fun e w'' => e = .returned (.bool true) ∧ Below w'.heap.size w' w''
  s3 : ∀ w', Below w.heap.size w w' → Calls Try.prog 42 #[.slice a3 (n + 3) c3, .int .i64 ((n : Int) + 3), aggIt (x0, x1)] w' fun e w'' => e = .returned (.bool true) ∧ Below w'.heap.size w' w''

theorem slice_of {w : World} {B n : Nat} {x : It} {T : Value} (h : Marks B x w T n) : ∃ a c, T = .slice a n c := by
  rcases h.2 with ⟨hv, h0⟩ | ⟨g, cap, cur, hv, _⟩
  · subst h0
    exact ⟨_, _, hv⟩
  · exact ⟨_, _, hv⟩

theorem bk_seen {w0 w : World} {b : Nat} {L : List Kp} {K : Value} (h : Bk w0 b L K w) {i : Nat} (hi : i < L.length) : ∃ g kc, K = .slice (some ⟨g, 0, none⟩) L.length kc ∧ g < w.heap.size ∧ ∃ la a1 a2 a3 lc c1 c2 c3 n x0 x1, Seen w g i la a1 a2 a3 lc c1 c2 c3 n x0 x1 := by
  obtain ⟨k, hk⟩ : ∃ k, L[i]? = some k := ⟨_, List.getElem?_eq_getElem hi⟩
  have hg := h.good k (List.mem_of_getElem? hk)
  have hget := ents_get L i k hk
  have hrow := h.row
  rcases hrow.2 with ⟨hv, h0⟩ | ⟨g, cap, cur, hv, _, hgb, _⟩
  · omega
  · subst hv
    have hc := fun j hj u hu => hrow.cells (g := g) rfl (i * 7 + j) u ((hget j hj).trans hu)
    obtain ⟨l, g1, g2, g3, n, x⟩ := k
    simp only [Kp.lists, List.mem_cons, List.not_mem_nil, or_false, forall_eq_or_imp, forall_eq] at hg
    obtain ⟨hn, ⟨⟨B0, m0⟩, _⟩, ⟨⟨B1, m1⟩, _⟩, ⟨⟨B2, m2⟩, _⟩, ⟨⟨B3, m3⟩, _⟩⟩ := hg
    obtain ⟨la, lc, rfl⟩ := slice_of m0
    obtain ⟨a1, c1, rfl⟩ := slice_of m1
    obtain ⟨a2, c2, rfl⟩ := slice_of m2
    obtain ⟨a3, c3, rfl⟩ := slice_of m3
    refine ⟨g, cap, rfl, lt_of_block hgb, la, a1, a2, a3, lc, c1, c2, c3, n, x.1, x.2, ?_⟩
    simp only [Addr.add_lit, Nat.zero_add] at hc
    refine ⟨hc 0 (by omega) _ rfl, hc 1 (by omega) _ rfl, hc 2 (by omega) _ rfl, hc 3 (by omega) _ rfl, hc 4 (by omega) _ rfl, hc 5 (by omega) _ rfl, hc 6 (by omega) _ rfl, hn, fun w' hb => ?_, fun w' hb => ?_, fun w' hb => ?_, fun w' hb => ?_⟩
    · exact shows_any w' _ n x ((marks_items m0).below hb) (by omega)
    · have := shows_any w' _ (n + 1) x ((marks_items m1).below hb) (by omega)
      rwa [show ((n + 1 : Nat) : Int) = (n : Int) + 1 by omega] at this
    · have := shows_any w' _ (n + 2) x ((marks_items m2).below hb) (by omega)
      rwa [show ((n + 2 : Nat) : Int) = (n : Int) + 2 by omega] at this
    · have := shows_any w' _ (n + 3) x ((marks_items m3).below hb) (by omega)
      rwa [show ((n + 3 : Nat) : Int) = (n : Int) + 3 by omega] at this

abbrev cp73 (la a1 a2 a3 : Option Addr) (lc c1 c2 c3 n : Nat) (x0 : Int) (x1 : ByteArray) : Obj := .cells #[.slice la n lc, .slice a1 (n + 1) c1, .slice a2 (n + 2) c2, .slice a3 (n + 3) c3, .int .i64 n, .int .i64 x0, .string x1] 85
structure Cpy (w : World) (A : Nat) (la a1 a2 a3 : Option Addr) (lc c1 c2 c3 n : Nat) (x0 : Int) (x1 : ByteArray) : Prop where
  l1 : w.cell? ⟨A, 1, none⟩ = some (.slice a1 (n + 1) c1)
  l2 : w.cell? ⟨A, 2, none⟩ = some (.slice a2 (n + 2) c2)
  l3 : w.cell? ⟨A, 3, none⟩ = some (.slice a3 (n + 3) c3)
  l4 : w.cell? ⟨A, 4, none⟩ = some (.int .i64 n)
  l5 : w.cell? ⟨A, 5, none⟩ = some (.int .i64 x0)
  l6 : w.cell? ⟨A, 6, none⟩ = some (.string x1)
theorem cpy_of {wr w' : World} {la a1 a2 a3 : Option Addr} {lc c1 c2 c3 n : Nat} {x0 : Int} {x1 : ByteArray} (hb : Below (wr.heap.size + 1) (wr.alloc (cp73 la a1 a2 a3 lc c1 c2 c3 n x0 x1)) w') : Cpy w' wr.heap.size la a1 a2 a3 lc c1 c2 c3 n x0 x1 := by
  refine ⟨?_, ?_, ?_, ?_, ?_, ?_⟩ <;> exact (hb.cell (by simp)).trans (World.cell?_alloc_new wr _ _ _)

set_option maxRecDepth 100000 in
set_option maxHeartbeats 2000000 in
theorem looks_any (w0 w : World) (b : Nat) (L : List Kp) (K : Value) (hBk : Bk w0 b L K w) (hL : L.length ≤ 100) :
    Calls Try.prog 17 #[.pointer (some ⟨b, 0, none⟩)] w fun e w' => e = .returned (.bool true) ∧ Below w.heap.size w w' := by
  obtain ⟨ka, kn, kc, hk⟩ := row_shape hBk.row
  subst hk
  have hkn : kn = L.length := by
    rcases hBk.row.2 with ⟨hv, h0⟩ | ⟨g, cap, cur, hv, _⟩
    · cases hv
      omega
    · cases hv
      rfl
  have HKN := hide hkn
  rw [← hkn] at hL
  have HBK := hide hBk
  clear hBk hkn
  go_enter Try.func17, Try.ntmps17
  go_wp2
  go_loopw [3] (fun iv wr => ∃ i : Nat, i ≤ kn ∧ iv = .int .i64 i ∧ Below w.heap.size w wr) (fun iv _ => kn - (intOf iv).toNat)
  case atStart => exact ⟨0, Nat.zero_le _, rfl, Below.refl _ _⟩
  case round =>
    obtain ⟨i, hi, rfl, hb⟩ := hrel
    have hbk := (unhide HBK).go hb
    have hbc : wr.cell? ⟨b, 0, none⟩ = some (.slice ka kn kc) := by simp [World.cell?, hbk.cell]
    by_cases hlt : i < kn
    · obtain ⟨g, kc', hK, hgl, la, a1, a2, a3, lc, c1, c2, c3, n, x0, x1, hS⟩ := bk_seen hbk (i := i) (by rw [← unhide HKN]; exact hlt)
      obtain rfl : ka = some ⟨g, 0, none⟩ := by injection hK
      obtain ⟨e0, e1, e2, e3, e4, e5, e6, hn, s0, s1, s2, s3⟩ := hS
      have S0 := hide s0
      have S1 := hide s1
      have S2 := hide s2
      have S3 := hide s3
      have HB := hide hb
      clear hbk hK s0 s1 s2 s3 hb
      go_wp2_with fail
      have b0 : Below wr.heap.size wr (wr.alloc (cp73 la a1 a2 a3 lc c1 c2 c3 n x0 x1)) := (Below.refl _ _).alloc (Nat.le_refl _) _
      have hz : (wr.alloc (cp73 la a1 a2 a3 lc c1 c2 c3 n x0 x1)).heap.size = wr.heap.size + 1 := by simp
      refine ((unhide S0) _ b0).mono ?_
      rintro e w1 ⟨rfl, d1⟩
      rw [hz] at d1
      have b1 := b0.trans (d1.mono (by omega))
      obtain ⟨p1, p2, p3, p4, p5, p6⟩ := cpy_of d1
      have B1 := hide b1
      have D1 := hide d1
      clear b0 b1 d1 hz
      go_wp2_with fail
      refine ((unhide S1) _ (unhide B1)).mono ?_
      rintro e w2 ⟨rfl, d2⟩
      have D2 := hide ((unhide D1).trans (d2.mono (by have := (unhide D1).size; simpa using this)))
      have B2 := hide ((unhide B1).trans (d2.mono (unhide B1).size))
      obtain ⟨q1, q2, q3, q4, q5, q6⟩ := cpy_of (unhide D2)
      clear d2 p1 p2 p3 p4 p5 p6
      go_wp2_with fail
      refine ((unhide S2) _ (unhide B2)).mono ?_
      rintro e w3 ⟨rfl, d3⟩
      have D3 := hide ((unhide D2).trans (d3.mono (by have := (unhide D2).size; simpa using this)))
      have B3 := hide ((unhide B2).trans (d3.mono (unhide B2).size))
      obtain ⟨r1, r2, r3, r4, r5, r6⟩ := cpy_of (unhide D3)
      clear d3 q1 q2 q3 q4 q5 q6
      go_wp2_with fail
      refine ((unhide S3) _ (unhide B3)).mono ?_
      rintro e w4 ⟨rfl, d4⟩
      have B4 := hide ((unhide B3).trans (d4.mono (unhide B3).size))
      clear d4 r1 r2 r3 r4 r5 r6
      go_wp2
      go_roundw
      case rel => exact ⟨i + 1, by omega, by go_num, (unhide HB).trans ((unhide B4).mono (unhide HB).size)⟩
      case measure => simp [intOf]; omega
    · have HB := hide hb
      clear hb hbk
      go_wp2
      go_ret
      exact ⟨rfl, unhide HB⟩

end Go.Proofs.Ytblomippkddgiaa.V
