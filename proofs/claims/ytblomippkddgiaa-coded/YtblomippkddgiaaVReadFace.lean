/-
  The landed code's Read: a value out of its bytes, or it gives up; the face: Unmarshal catches what Read gave up with.
-/
import Derived.Test.YtblomippkddgiaaVReaderC
namespace Go.Proofs.Ytblomippkddgiaa.V
open Go.RowKit

theorem row_base {w : World} {B B' n size : Nat} {e : TypeId} {v : Value} {xs : List Value} (h : w.ownsRow B e size v n xs) (hB : B' ≤ B) : w.ownsRow B' e size v n xs := by
  obtain ⟨hl, h⟩ := h
  refine ⟨hl, ?_⟩
  rcases h with h | ⟨g, cap, cur, hv, hg, r⟩
  · exact Or.inl h
  · exact Or.inr ⟨g, cap, cur, hv, by omega, r⟩

/- the list v lies in a row of its own, in a block from B on -/
def Row (w : World) (B : Nat) (O : Value) (v : List It) : Prop := w.ownsRow B 31 2 O v.length (flat v)

set_option maxRecDepth 100000 in
set_option maxHeartbeats 400000 in
theorem read_big (w : World) (x0 x1 : Int) (ea : Option Addr) (en ec : Nat) (S : ByteArray) (hn : 70 < S.size) :
    Calls Try.prog 39 #[.agg #[.int .u8 x0, .int .i64 x1, .slice ea en ec], .string S] w fun e w' => e = gaveUp 5 0 ∧ Below w.heap.size w w' := by
  have HB := hide (fun w => tooBig_any S.size w)
  rw [show decide (70 < S.size) = true by simp [hn]] at HB
  clear hn
  go_enter Try.func39, Try.ntmps39
  go_wp2_with fail
  refine ((unhide HB) _).mono ?_
  rintro e w1 ⟨rfl, rfl⟩
  go_wp2
  exact ⟨rfl, rfl, (Below.refl _ _).alloc (Nat.le_refl _) _⟩

set_option maxRecDepth 100000 in
set_option maxHeartbeats 1000000 in
theorem read_none (w : World) (x0 x1 : Int) (ea : Option Addr) (en ec : Nat) (l : List UInt8) (hn : ¬ 70 < l.length)
    (HK : Calls Try.prog 55 #[.agg #[.int .u8 x0, .int .i64 x1, .slice ea en ec], .iface 120 (.pointer (some ⟨w.heap.size + 1, 0, none⟩))] ((w.alloc (box63 x0 x1 ea en ec)).alloc (.cells #[.string (str l), .int .i64 6, .slice none 0 0] 119)) fun e w' => e = gaveUp 6 0 ∧ Below w.heap.size w w') :
    Calls Try.prog 39 #[.agg #[.int .u8 x0, .int .i64 x1, .slice ea en ec], .string (str l)] w fun e w' => e = gaveUp 6 0 ∧ Below w.heap.size w w' := by
  have HKK := hide HK
  have HB := hide (fun w => tooBig_any (str l).size w)
  rw [show decide (70 < (str l).size) = false by rw [str_size]; simp; omega] at HB
  clear HK hn
  generalize str l = S at *
  go_enter Try.func39, Try.ntmps39
  go_wp2_with fail
  refine ((unhide HB) _).mono ?_
  rintro e w1 ⟨rfl, rfl⟩
  go_wp2_with fail
  refine (unhide HKK).mono ?_
  rintro e w1 ⟨rfl, hb⟩
  go_wp2
  exact ⟨rfl, rfl, hb⟩

set_option maxRecDepth 100000 in
set_option maxHeartbeats 400000 in
theorem end_yes (b : Nat) (w : World) (h : w.cell? ⟨b, 0, none⟩ = some (.string (str []))) : Calls Try.prog 61 #[.pointer (some ⟨b, 0, none⟩)] w fun e w' => e = .returned (.tuple #[]) ∧ w = w' := by
  go_enter Try.func61, Try.ntmps61
  go_wp2
  go_end0
  exact ⟨rfl, rfl⟩
set_option maxRecDepth 100000 in
set_option maxHeartbeats 400000 in
theorem end_no (b : Nat) (l : List UInt8) (w : World) (h : w.cell? ⟨b, 0, none⟩ = some (.string (str l))) (h1 : w.cell? ⟨b, 1, none⟩ = some (.int .i64 6)) (hl : ¬ l = []) : Calls Try.prog 61 #[.pointer (some ⟨b, 0, none⟩)] w fun e w' => e = gaveUp 6 0 ∧ w = w' := by
  have hpos : (0 : Int) < ((str l).size : Int) := by
    rw [str_size]
    have := List.length_pos_iff.2 hl
    omega
  have HR := hide (refuse_cell b w h1)
  clear hl h1
  generalize str l = S at *
  go_enter Try.func61, Try.ntmps61
  go_wp2_with fail
  refine (unhide HR).mono ?_
  rintro e w1 ⟨rfl, rfl⟩
  go_wp2
  exact ⟨rfl, rfl, rfl⟩

/- what the reader leaves, to Read's eyes -/
structure RLeft (w w' : World) (l : List UInt8) (O : Value) (v : List It) : Prop where
  left : w'.cell? ⟨w.heap.size + 1, 0, none⟩ = some (.string (str l))
  wrong : w'.cell? ⟨w.heap.size + 1, 1, none⟩ = some (.int .i64 6)
  out : w'.cell? ⟨w.heap.size + 1, 2, none⟩ = some O
  row : Row w' (w.heap.size + 2) O v
  below : Below w.heap.size w w'

set_option maxRecDepth 100000 in
set_option maxHeartbeats 1000000 in
theorem read_some (w : World) (x0 x1 : Int) (ea : Option Addr) (en ec : Nat) (l l' : List UInt8) (v : List It) (hn : ¬ 70 < l.length)
    (HK : Calls Try.prog 55 #[.agg #[.int .u8 x0, .int .i64 x1, .slice ea en ec], .iface 120 (.pointer (some ⟨w.heap.size + 1, 0, none⟩))] ((w.alloc (box63 x0 x1 ea en ec)).alloc (.cells #[.string (str l), .int .i64 6, .slice none 0 0] 119)) fun e w' => e = .returned (.tuple #[]) ∧ ∃ O, RLeft w w' l' O v) :
    Calls Try.prog 39 #[.agg #[.int .u8 x0, .int .i64 x1, .slice ea en ec], .string (str l)] w fun e w' => (if l' = [] then ∃ O, e = .returned O ∧ Row w' (w.heap.size + 2) O v else e = gaveUp 6 0) ∧ Below w.heap.size w w' := by
  have HKK := hide HK
  have HB := hide (fun w => tooBig_any (str l).size w)
  rw [show decide (70 < (str l).size) = false by rw [str_size]; simp; omega] at HB
  clear HK hn
  generalize str l = S at *
  by_cases h0 : l' = []
  · subst h0
    simp only [if_true]
    go_enter Try.func39, Try.ntmps39
    go_wp2_with fail
    refine ((unhide HB) _).mono ?_
    rintro e w1 ⟨rfl, rfl⟩
    go_wp2_with fail
    refine (unhide HKK).mono ?_
    rintro e w1 ⟨rfl, O, hL⟩
    have c1 := hL.out
    obtain ⟨oa, on, oc, hsh⟩ := row_shape hL.row
    subst hsh
    have HE := hide (end_yes (w.heap.size + 1) w1 hL.left)
    have HL := hide hL
    clear hL
    go_wp2_with fail
    refine (unhide HE).mono ?_
    rintro e w2 ⟨rfl, hw2⟩
    subst hw2
    go_wp2
    go_ret
    exact ⟨⟨_, rfl, (unhide HL).row⟩, (unhide HL).below⟩
  · simp only [h0, if_false]
    go_enter Try.func39, Try.ntmps39
    go_wp2_with fail
    refine ((unhide HB) _).mono ?_
    rintro e w1 ⟨rfl, rfl⟩
    go_wp2_with fail
    refine (unhide HKK).mono ?_
    rintro e w1 ⟨rfl, O, hL⟩
    have hb := hL.below
    have HE := hide (end_no (w.heap.size + 1) l' w1 hL.left hL.wrong h0)
    clear hL
    generalize str l' = S' at *
    go_wp2_with fail
    refine (unhide HE).mono ?_
    rintro e w2 ⟨rfl, hw2⟩
    subst hw2
    go_wp2
    exact ⟨rfl, rfl, hb⟩

/- Unmarshal's answer of a good type: the error, the items -/
def uRes (r : Option RSt) (l : List UInt8) : Nat × List It := if 70 < l.length then (5, []) else match r with
  | none => (6, [])
  | some (l', v) => if l' = [] then (0, v) else (6, [])
def RPost (B : Nat) (res : Nat × List It) (e : Ending) (w' : World) : Prop := if res.1 = 0 then ∃ O, e = .returned O ∧ Row w' B O res.2 else e = gaveUp res.1 0

theorem vread_any (s : ByteArray) (S : Nat → Prop) (c0 c1 c2 : Value) (l : List UInt8) (w : World) (hR : Rep w S (nx s) (s.size + 1) 0 c0 c1 c2) (hO : Okp s (s.size + 1) 0) (hd : Pt.dep (nx s) (s.size + 1) 0 ≤ 4) :
    Calls Try.prog 39 #[.agg #[c0, c1, c2], .string (str l)] w fun e w' => RPost w.heap.size (uRes (carryP rNum rTxt (nx s) (s.size + 1) 0 (l, [])) l) e w' ∧ Below w.heap.size w w' := by
  obtain ⟨⟨x0, rfl⟩, ⟨x1, rfl⟩, ⟨ea, en, ec, rfl⟩⟩ := rep_shape hR
  by_cases hbig : 70 < l.length
  · refine (read_big w x0 x1 ea en ec (str l) (by rw [str_size]; exact hbig)).mono ?_
    rintro e w' ⟨rfl, hb⟩
    refine ⟨?_, hb⟩
    simp [RPost, uRes, hbig]
  · have hb0 : Below w.heap.size w (w.alloc (box63 x0 x1 ea en ec)) := (Below.refl w.heap.size w).alloc (Nat.le_refl _) _
    have hR0 : Rep (w.alloc (box63 x0 x1 ea en ec)) S (nx s) (s.size + 1) 0 (.int .u8 x0) (.int .i64 x1) (.slice ea en ec) := rep_above ⟨hb0.size, fun k _ hl => hb0.block k hl⟩ hR
    have hz : (w.alloc (box63 x0 x1 ea en ec)).heap.size = w.heap.size + 1 := by simp
    have hrs : RS (w.alloc (box63 x0 x1 ea en ec)) ((w.alloc (box63 x0 x1 ea en ec)).alloc (.cells #[.string (str l), .int .i64 6, .slice none 0 0] 119)) l (.slice none 0 0) [] := by
      refine ⟨?_, (Below.refl _ _).alloc (Nat.le_refl _) _, World.ownsRow_nil _ _ _ _⟩
      unfold Rd
      show ((w.alloc (box63 x0 x1 ea en ec)).heap.push _)[(w.alloc (box63 x0 x1 ea en ec)).heap.size]? = _
      rw [Array.getElem?_push_size]
    have hM : 10 ^ Pt.dep (nx s) (s.size + 1) 0 ≤ 10 ^ 4 := Nat.pow_le_pow_right (by decide) hd
    have HK := carry_any (reader_carries (w.alloc (box63 x0 x1 ea en ec))) s (s.size + 1) 0 S _ _ _ hR0 hO _ 0 (l, []) _ ⟨_, hrs, rfl, by simp only; omega, Nat.le_refl _⟩ (by omega)
    have hptr : (reader (w.alloc (box63 x0 x1 ea en ec))).I = .iface 120 (.pointer (some ⟨w.heap.size + 1, 0, none⟩)) := by
      show Value.iface 120 (.pointer (some ⟨(w.alloc (box63 x0 x1 ea en ec)).heap.size, 0, none⟩)) = _
      rw [hz]
    rw [hptr] at HK
    rw [show carryP (reader (w.alloc (box63 x0 x1 ea en ec))).num (reader (w.alloc (box63 x0 x1 ea en ec))).txt (nx s) (s.size + 1) 0 (l, []) = carryP rNum rTxt (nx s) (s.size + 1) 0 (l, []) from rfl] at HK
    have hbb : ∀ w', Below (w.alloc (box63 x0 x1 ea en ec)).heap.size (w.alloc (box63 x0 x1 ea en ec)) w' → Below w.heap.size w w' := fun w' h => hb0.trans (h.mono (by omega))
    cases hr : carryP rNum rTxt (nx s) (s.size + 1) 0 (l, []) with
    | none =>
      rw [hr] at HK
      refine (read_none w x0 x1 ea en ec l hbig (HK.mono ?_)).mono ?_
      · rintro e w' (⟨rfl, _, hb⟩ | ⟨rfl, x', hx, _⟩)
        · exact ⟨rfl, hbb w' hb⟩
        · cases hx
      · rintro e w' ⟨rfl, hb⟩
        refine ⟨?_, hb⟩
        simp [RPost, uRes, hbig]
    | some a =>
      obtain ⟨l', v⟩ := a
      rw [hr] at HK
      have HL : Calls Try.prog 55 #[.agg #[.int .u8 x0, .int .i64 x1, .slice ea en ec], .iface 120 (.pointer (some ⟨w.heap.size + 1, 0, none⟩))] ((w.alloc (box63 x0 x1 ea en ec)).alloc (.cells #[.string (str l), .int .i64 6, .slice none 0 0] 119)) fun e w' => e = .returned (.tuple #[]) ∧ ∃ O, RLeft w w' l' O v := by
        refine HK.mono ?_
        rintro e w' (⟨rfl, hx, _⟩ | ⟨rfl, x', hx, c', O', _, ⟨Ov, hw2, _⟩, _⟩)
        · cases hx
        · cases hx
          have h1 := hw2.rd.left
          have h2 := hw2.rd.items
          have h4 := hw2.rd.wrong
          have h3 := hw2.own
          rw [hz] at h1 h2 h3 h4
          exact ⟨rfl, Ov, h1, h4, h2, h3, hbb w' hw2.below⟩
      refine (read_some w x0 x1 ea en ec l l' v hbig HL).mono ?_
      rintro e w' ⟨he, hb⟩
      refine ⟨?_, hb⟩
      by_cases h0 : l' = []
      · rw [if_pos h0] at he
        obtain ⟨O, rfl, hrow⟩ := he
        have : uRes (some (l', v)) l = (0, v) := by simp [uRes, hbig, h0]
        rw [this]
        exact ⟨O, rfl, row_base hrow (by omega)⟩
      · rw [if_neg h0] at he
        subst he
        have : uRes (some (l', v)) l = (6, []) := by simp [uRes, hbig, h0]
        rw [this]
        rfl

end Go.Proofs.Ytblomippkddgiaa.V
