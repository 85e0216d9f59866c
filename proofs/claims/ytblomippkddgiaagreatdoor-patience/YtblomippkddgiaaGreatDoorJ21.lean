/-
  Joined: VReadFace VUnmarshalFace RWorld2.
-/
import Derived.Test.YtblomippkddgiaaGreatDoorJ20
import Derived.Test.YtblomippkddgiaaGreatDoorJ18
/-
  The landed code's Read: a value out of its bytes, or it gives up; the face: Unmarshal catches what Read gave up with.
-/
namespace Go.Proofs.YtblomippkddgiaaGreatDoor.V
open Go.RowKit

theorem row_base {w : World} {B B' n size : Nat} {e : TypeId} {v : Value} {xs : List Value} (h : w.ownsRow B e size v n xs) (hB : B' ≤ B) : w.ownsRow B' e size v n xs := by
  obtain ⟨hl, h⟩ := h
  refine ⟨hl, ?_⟩
  rcases h with h | ⟨g, cap, cur, hv, hg, r⟩
  · exact Or.inl h
  · exact Or.inr ⟨g, cap, cur, hv, by omega, r⟩

/- the list v lies in a row of its own, in a block from B on -/
def Row (w : World) (B : Nat) (O : Value) (v : List It) : Prop := w.ownsRow B 106 2 O v.length (flat v)

set_option maxRecDepth 100000 in
set_option maxHeartbeats 400000 in
theorem read_big (w : World) (x0 x1 : Int) (ea : Option Addr) (en ec : Nat) (S : ByteArray) (hn : 70 < S.size) :
    Calls Tryz.prog 197 #[.agg #[.int .u8 x0, .int .i64 x1, .slice ea en ec], .string S] w fun e w' => e = gaveUp 5 0 ∧ Below w.heap.size w w' := by
  have HB := hide (fun w => tooBig_any S.size w)
  rw [show decide (70 < S.size) = true by simp [hn]] at HB
  clear hn
  go_enter Tryz.func197, Tryz.ntmps197
  go_wp2_with fail
  refine ((unhide HB) _).mono ?_
  rintro e w1 ⟨rfl, rfl⟩
  go_wp2
  exact ⟨rfl, rfl, (Below.refl _ _).alloc (Nat.le_refl _) _⟩

set_option maxRecDepth 100000 in
set_option maxHeartbeats 1000000 in
theorem read_none (w : World) (x0 x1 : Int) (ea : Option Addr) (en ec : Nat) (l : List UInt8) (hn : ¬ 70 < l.length)
    (HK : Calls Tryz.prog 125 #[.agg #[.int .u8 x0, .int .i64 x1, .slice ea en ec], .iface 311 (.pointer (some ⟨w.heap.size + 1, 0, none⟩))] ((w.alloc (box63 x0 x1 ea en ec)).alloc (.cells #[.string (str l), .int .i64 6, .slice none 0 0] 310)) fun e w' => e = gaveUp 6 0 ∧ Below w.heap.size w w') :
    Calls Tryz.prog 197 #[.agg #[.int .u8 x0, .int .i64 x1, .slice ea en ec], .string (str l)] w fun e w' => e = gaveUp 6 0 ∧ Below w.heap.size w w' := by
  have HKK := hide HK
  have HB := hide (fun w => tooBig_any (str l).size w)
  rw [show decide (70 < (str l).size) = false by rw [str_size]; simp; omega] at HB
  clear HK hn
  generalize str l = S at *
  go_enter Tryz.func197, Tryz.ntmps197
  go_wp2_with fail
  refine ((unhide HB) _).mono ?_
  rintro e w1 ⟨rfl, rfl⟩
  go_wp2_with fail
  refine (unhide HKK).mono ?_
  rintro e w1 ⟨rfl, hb⟩
  go_wp2
  exact ⟨rfl, rfl, hb⟩

set_option maxRecDepth 100000 in
set_option maxHeartbeats 400000 in
theorem end_yes (b : Nat) (w : World) (h : w.cell? ⟨b, 0, none⟩ = some (.string (str []))) : Calls Tryz.prog 69 #[.pointer (some ⟨b, 0, none⟩)] w fun e w' => e = .returned (.tuple #[]) ∧ w = w' := by
  go_enter Tryz.func69, Tryz.ntmps69
  go_wp2
  go_end0
  exact ⟨rfl, rfl⟩
set_option maxRecDepth 100000 in
set_option maxHeartbeats 400000 in
theorem end_no (b : Nat) (l : List UInt8) (w : World) (h : w.cell? ⟨b, 0, none⟩ = some (.string (str l))) (h1 : w.cell? ⟨b, 1, none⟩ = some (.int .i64 6)) (hl : ¬ l = []) : Calls Tryz.prog 69 #[.pointer (some ⟨b, 0, none⟩)] w fun e w' => e = gaveUp 6 0 ∧ w = w' := by
  have hpos : (0 : Int) < ((str l).size : Int) := by
    rw [str_size]
    have := List.length_pos_iff.2 hl
    omega
  have HR := hide (refuse_cell b w h1)
  clear hl h1
  generalize str l = S at *
  go_enter Tryz.func69, Tryz.ntmps69
  go_wp2_with fail
  refine (unhide HR).mono ?_
  rintro e w1 ⟨rfl, rfl⟩
  go_wp2
  exact ⟨rfl, rfl, rfl⟩

/- what the reader leaves, to Read's eyes -/
structure RLeft (w w' : World) (l : List UInt8) (O : Value) (v : List It) : Prop where
  left : w'.cell? ⟨w.heap.size + 1, 0, none⟩ = some (.string (str l))
  wrong : w'.cell? ⟨w.heap.size + 1, 1, none⟩ = some (.int .i64 6)
  out : w'.cell? ⟨w.heap.size + 1, 2, none⟩ = some O
  row : Row w' (w.heap.size + 2) O v
  below : Below w.heap.size w w'

set_option maxRecDepth 100000 in
set_option maxHeartbeats 1000000 in
theorem read_some (w : World) (x0 x1 : Int) (ea : Option Addr) (en ec : Nat) (l l' : List UInt8) (v : List It) (hn : ¬ 70 < l.length)
    (HK : Calls Tryz.prog 125 #[.agg #[.int .u8 x0, .int .i64 x1, .slice ea en ec], .iface 311 (.pointer (some ⟨w.heap.size + 1, 0, none⟩))] ((w.alloc (box63 x0 x1 ea en ec)).alloc (.cells #[.string (str l), .int .i64 6, .slice none 0 0] 310)) fun e w' => e = .returned (.tuple #[]) ∧ ∃ O, RLeft w w' l' O v) :
    Calls Tryz.prog 197 #[.agg #[.int .u8 x0, .int .i64 x1, .slice ea en ec], .string (str l)] w fun e w' => (if l' = [] then ∃ O, e = .returned O ∧ Row w' (w.heap.size + 2) O v else e = gaveUp 6 0) ∧ Below w.heap.size w w' := by
  have HKK := hide HK
  have HB := hide (fun w => tooBig_any (str l).size w)
  rw [show decide (70 < (str l).size) = false by rw [str_size]; simp; omega] at HB
  clear HK hn
  generalize str l = S at *
  by_cases h0 : l' = []
  · subst h0
    simp only [if_true]
    go_enter Tryz.func197, Tryz.ntmps197
    go_wp2_with fail
    refine ((unhide HB) _).mono ?_
    rintro e w1 ⟨rfl, rfl⟩
    go_wp2_with fail
    refine (unhide HKK).mono ?_
    rintro e w1 ⟨rfl, O, hL⟩
    have c1 := hL.out
    obtain ⟨oa, on, oc, hsh⟩ := row_shape hL.row
    subst hsh
    have HE := hide (end_yes (w.heap.size + 1) w1 hL.left)
    have HL := hide hL
    clear hL
    go_wp2_with fail
    refine (unhide HE).mono ?_
    rintro e w2 ⟨rfl, hw2⟩
    subst hw2
    go_wp2
    go_ret
    exact ⟨⟨_, rfl, (unhide HL).row⟩, (unhide HL).below⟩
  · simp only [h0, if_false]
    go_enter Tryz.func197, Tryz.ntmps197
    go_wp2_with fail
    refine ((unhide HB) _).mono ?_
    rintro e w1 ⟨rfl, rfl⟩
    go_wp2_with fail
    refine (unhide HKK).mono ?_
    rintro e w1 ⟨rfl, O, hL⟩
    have hb := hL.below
    have HE := hide (end_no (w.heap.size + 1) l' w1 hL.left hL.wrong h0)
    clear hL
    generalize str l' = S' at *
    go_wp2_with fail
    refine (unhide HE).mono ?_
    rintro e w2 ⟨rfl, hw2⟩
    subst hw2
    go_wp2
    exact ⟨rfl, rfl, hb⟩

/- Unmarshal's answer of a good type: the error, the items -/
def uRes (r : Option RSt) (l : List UInt8) : Nat × List It := if 70 < l.length then (5, []) else match r with
  | none => (6, [])
  | some (l', v) => if l' = [] then (0, v) else (6, [])
def RPost (B : Nat) (res : Nat × List It) (e : Ending) (w' : World) : Prop := if res.1 = 0 then ∃ O, e = .returned O ∧ Row w' B O res.2 else e = gaveUp res.1 0

theorem vread_any (s : ByteArray) (S : Nat → Prop) (c0 c1 c2 : Value) (l : List UInt8) (w : World) (hR : Rep w S (nx s) (s.size + 1) 0 c0 c1 c2) (hO : Okp s (s.size + 1) 0) (hd : Pt.dep (nx s) (s.size + 1) 0 ≤ 4) :
    Calls Tryz.prog 197 #[.agg #[c0, c1, c2], .string (str l)] w fun e w' => RPost w.heap.size (uRes (carryP rNum rTxt (nx s) (s.size + 1) 0 (l, [])) l) e w' ∧ Below w.heap.size w w' := by
  obtain ⟨⟨x0, rfl⟩, ⟨x1, rfl⟩, ⟨ea, en, ec, rfl⟩⟩ := rep_shape hR
  by_cases hbig : 70 < l.length
  · refine (read_big w x0 x1 ea en ec (str l) (by rw [str_size]; exact hbig)).mono ?_
    rintro e w' ⟨rfl, hb⟩
    refine ⟨?_, hb⟩
    simp [RPost, uRes, hbig]
  · have hb0 : Below w.heap.size w (w.alloc (box63 x0 x1 ea en ec)) := (Below.refl w.heap.size w).alloc (Nat.le_refl _) _
    have hR0 : Rep (w.alloc (box63 x0 x1 ea en ec)) S (nx s) (s.size + 1) 0 (.int .u8 x0) (.int .i64 x1) (.slice ea en ec) := rep_above ⟨hb0.size, fun k _ hl => hb0.block k hl⟩ hR
    have hz : (w.alloc (box63 x0 x1 ea en ec)).heap.size = w.heap.size + 1 := by simp
    have hrs : RS (w.alloc (box63 x0 x1 ea en ec)) ((w.alloc (box63 x0 x1 ea en ec)).alloc (.cells #[.string (str l), .int .i64 6, .slice none 0 0] 310)) l (.slice none 0 0) [] := by
      refine ⟨?_, (Below.refl _ _).alloc (Nat.le_refl _) _, World.ownsRow_nil _ _ _ _⟩
      unfold Rd
      show ((w.alloc (box63 x0 x1 ea en ec)).heap.push _)[(w.alloc (box63 x0 x1 ea en ec)).heap.size]? = _
      rw [Array.getElem?_push_size]
    have hM : 10 ^ Pt.dep (nx s) (s.size + 1) 0 ≤ 10 ^ 4 := Nat.pow_le_pow_right (by decide) hd
    have HK := carry_any (reader_carries (w.alloc (box63 x0 x1 ea en ec))) s (s.size + 1) 0 S _ _ _ hR0 hO _ 0 (l, []) _ ⟨_, hrs, rfl, by simp only; omega, Nat.le_refl _⟩ (by omega)
    have hptr : (reader (w.alloc (box63 x0 x1 ea en ec))).I = .iface 311 (.pointer (some ⟨w.heap.size + 1, 0, none⟩)) := by
      show Value.iface 311 (.pointer (some ⟨(w.alloc (box63 x0 x1 ea en ec)).heap.size, 0, none⟩)) = _
      rw [hz]
    rw [hptr] at HK
    rw [show carryP (reader (w.alloc (box63 x0 x1 ea en ec))).num (reader (w.alloc (box63 x0 x1 ea en ec))).txt (nx s) (s.size + 1) 0 (l, []) = carryP rNum rTxt (nx s) (s.size + 1) 0 (l, []) from rfl] at HK
    have hbb : ∀ w', Below (w.alloc (box63 x0 x1 ea en ec)).heap.size (w.alloc (box63 x0 x1 ea en ec)) w' → Below w.heap.size w w' := fun w' h => hb0.trans (h.mono (by omega))
    cases hr : carryP rNum rTxt (nx s) (s.size + 1) 0 (l, []) with
    | none =>
      rw [hr] at HK
      refine (read_none w x0 x1 ea en ec l hbig (HK.mono ?_)).mono ?_
      · rintro e w' (⟨rfl, _, hb⟩ | ⟨rfl, x', hx, _⟩)
        · exact ⟨rfl, hbb w' hb⟩
        · cases hx
      · rintro e w' ⟨rfl, hb⟩
        refine ⟨?_, hb⟩
        simp [RPost, uRes, hbig]
    | some a =>
      obtain ⟨l', v⟩ := a
      rw [hr] at HK
      have HL : Calls Tryz.prog 125 #[.agg #[.int .u8 x0, .int .i64 x1, .slice ea en ec], .iface 311 (.pointer (some ⟨w.heap.size + 1, 0, none⟩))] ((w.alloc (box63 x0 x1 ea en ec)).alloc (.cells #[.string (str l), .int .i64 6, .slice none 0 0] 310)) fun e w' => e = .returned (.tuple #[]) ∧ ∃ O, RLeft w w' l' O v := by
        refine HK.mono ?_
        rintro e w' (⟨rfl, hx, _⟩ | ⟨rfl, x', hx, c', O', _, ⟨Ov, hw2, _⟩, _⟩)
        · cases hx
        · cases hx
          have h1 := hw2.rd.left
          have h2 := hw2.rd.items
          have h4 := hw2.rd.wrong
          have h3 := hw2.own
          rw [hz] at h1 h2 h3 h4
          exact ⟨rfl, Ov, h1, h4, h2, h3, hbb w' hw2.below⟩
      refine (read_some w x0 x1 ea en ec l l' v hbig HL).mono ?_
      rintro e w' ⟨he, hb⟩
      refine ⟨?_, hb⟩
      by_cases h0 : l' = []
      · rw [if_pos h0] at he
        obtain ⟨O, rfl, hrow⟩ := he
        have : uRes (some (l', v)) l = (0, v) := by simp [uRes, hbig, h0]
        rw [this]
        exact ⟨O, rfl, row_base hrow (by omega)⟩
      · rw [if_neg h0] at he
        subst he
        have : uRes (some (l', v)) l = (6, []) := by simp [uRes, hbig, h0]
        rw [this]
        rfl

end Go.Proofs.YtblomippkddgiaaGreatDoor.V
/-
  The face: Unmarshal catches what Read gave up with.
-/
namespace Go.Proofs.YtblomippkddgiaaGreatDoor.V
open Go.RowKit

set_option maxRecDepth 100000 in
set_option maxHeartbeats 1000000 in
theorem ucatch_panicking (a0 a1 B : Nat) (n q : Nat) (older : List PanicEntry) (w : World) (h0 : w.cell? ⟨a0, 0, none⟩ = some (.slice none 0 0)) (h1 : w.cell? ⟨a1, 0, none⟩ = some (.int .i64 0)) (z0 : w.frozen? ⟨a0, 0, none⟩ = false) (z1 : w.frozen? ⟨a1, 0, none⟩ = false) (hb0 : B ≤ a0) (hb1 : B ≤ a1) (hne : ¬ a0 = a1) :
    CallsD Tryz.prog 209 #[.pointer (some ⟨a0, 0, none⟩), .pointer (some ⟨a1, 0, none⟩)] (.panicking ({ v := .iface 86 (faultOf n q), recovered := false } :: older)) w fun e u' w' =>
      e = .returned (.tuple #[]) ∧ u' = .panicking ({ v := .iface 86 (faultOf n q), recovered := true } :: older) ∧ w'.cell? ⟨a0, 0, none⟩ = some (.slice none 0 0) ∧ w'.cell? ⟨a1, 0, none⟩ = some (.int .i64 n) ∧ Below B w w' := by
  refine callsD_of_wpS Tryz.func209 rfl fun c₀ cs hu => ?_
  apply wpS_seq
  apply wpS_region
  simp [wpOpsS, go_sem, recoverD, hu, Tryz.ntmps209, Exit.thenS]
  rw [show (#[Value.pointer (some { block := a0, off := 0 }), Value.pointer (some { block := a1, off := 0 })] ++ ((Array.replicate 7 undef).setIfInBounds 1 (Value.iface 86 (faultOf n q))).setIfInBounds 0 (Value.iface 86 (faultOf n q))) = #[.pointer (some { block := a0, off := 0 }), .pointer (some { block := a1, off := 0 }), .iface 86 (faultOf n q), .iface 86 (faultOf n q), undef, undef, undef, undef, undef] from rfl]
  refine wpS_of_wp ?_
  have hfl := field_fault n q
  have l0 := lt_of_cell h0
  have l1 := lt_of_cell h1
  go_wp2_with fail
  refine (caught_any n q _).mono ?_
  rintro e w1 ⟨rfl, hb⟩
  have s1 := hb.size
  have g0 : w1.cell? ⟨a0, 0, none⟩ = some (.slice none 0 0) := (hb.cell (p := ⟨a0, 0, none⟩) l0).trans h0
  have g1 : w1.cell? ⟨a1, 0, none⟩ = some (.int .i64 0) := (hb.cell (p := ⟨a1, 0, none⟩) l1).trans h1
  have y0 : w1.frozen? ⟨a0, 0, none⟩ = false := (hb.frozen (p := ⟨a0, 0, none⟩) l0).trans z0
  have y1 : w1.frozen? ⟨a1, 0, none⟩ = false := (hb.frozen (p := ⟨a1, 0, none⟩) l1).trans z1
  have m0 : a0 < w1.heap.size := by omega
  have m1 : a1 < w1.heap.size := by omega
  have e2 : ¬ a1 = a0 := by omega
  clear h0 h1 z0 z1
  go_wp2
  have F0 : ((w1.setCell { block := a0, off := 0 } (.slice none 0 0)).setCell { block := a1, off := 0 } (Value.int IntKind.i64 ↑n)).cell? ⟨a0, 0, none⟩ = some (.slice none 0 0) := by simp [go_sem, g0]
  have F1 : ((w1.setCell { block := a0, off := 0 } (.slice none 0 0)).setCell { block := a1, off := 0 } (Value.int IntKind.i64 ↑n)).cell? ⟨a1, 0, none⟩ = some (.int .i64 n) := by simp [go_sem, g1]
  have FB : Below B w ((w1.setCell { block := a0, off := 0 } (.slice none 0 0)).setCell { block := a1, off := 0 } (Value.int IntKind.i64 ↑n)) :=
    ((hb.mono (by omega)).setCell (by simpa using hb0) _).setCell (by simpa using hb1) _
  show bodyPostS Tryz.prog Tryz.f209 c₀ cs _ _ _ _ _
  exact ⟨rfl, _, rfl, _, results_none rfl _ _ _, rfl, rfl, F0, F1, FB⟩

theorem ucatch_idle (p0 p1 : Addr) (w : World) :
    CallsD Tryz.prog 209 #[.pointer (some p0), .pointer (some p1)] .returning w fun e u' w' => e = .returned (.tuple #[]) ∧ u' = .returning ∧ w' = w := by
  refine callsD_of_wpS Tryz.func209 rfl fun c₀ cs hu => ?_
  apply wpS_seq
  apply wpS_region
  simp [wpOpsS, go_sem, recoverD, hu, Tryz.ntmps209, Exit.thenS]
  rw [show (#[Value.pointer (some p0), Value.pointer (some p1)] ++ ((Array.replicate 7 undef).setIfInBounds 1 (Value.nilIface)).setIfInBounds 0 (Value.nilIface)) = #[.pointer (some p0), .pointer (some p1), .nilIface, .nilIface, undef, undef, undef, undef, undef] from rfl]
  refine wpS_of_wp ?_
  go_wp2
  exact ⟨rfl, .returning, by cases c₀; simp_all, _, results_none rfl _ _ _, rfl, rfl, rfl⟩

abbrev uface (w : World) : World := (w.alloc (.cells #[.slice none 0 0] 44)).alloc (.cells #[.int .i64 0] 32)

set_option maxRecDepth 100000 in
set_option maxHeartbeats 1000000 in
theorem unmarshal_bad (s S : ByteArray) (w : World) (n q : Nat) (H : Calls Tryz.prog 78 #[.string s] (uface w) fun e w' => e = gaveUp n q ∧ Below (uface w).heap.size (uface w) w') :
    Calls Tryz.prog 151 #[.string s, .string S] w fun e w' => e = .returned (.tuple #[.slice none 0 0, .int .i64 n]) ∧ Below w.heap.size w w' := by
  have hmf : ∀ (fn : Fn) (first cap : Array Value) (w : World), (Instr.makeFunc fn first cap).run Tryz.prog w = .ok (.func fn first cap) w := fun _ _ _ _ => rfl
  have HH := hide H
  clear H
  go_enter_defers Tryz.func151, Tryz.ntmps151
  go_wp2_with fail
  refine (unhide HH).mono ?_
  rintro e w1 ⟨rfl, hb⟩
  have hs := hb.size
  simp at hs
  have c0 : w1.cell? ⟨w.heap.size, 0, none⟩ = some (.slice none 0 0) := (hb.cell (p := ⟨w.heap.size, 0, none⟩) (by simp; omega)).trans (by simp [go_sem])
  have c1 : w1.cell? ⟨w.heap.size + 1, 0, none⟩ = some (.int .i64 0) := (hb.cell (p := ⟨w.heap.size + 1, 0, none⟩) (by simp)).trans (by simp [go_sem])
  have z0 : w1.frozen? ⟨w.heap.size, 0, none⟩ = false := (hb.frozen (p := ⟨w.heap.size, 0, none⟩) (by simp; omega)).trans (by simp [go_sem])
  have z1 : w1.frozen? ⟨w.heap.size + 1, 0, none⟩ = false := (hb.frozen (p := ⟨w.heap.size + 1, 0, none⟩) (by simp)).trans (by simp [go_sem])
  have hb0 : Below w.heap.size w w1 := (((Below.refl _ _).alloc (Nat.le_refl _) _).alloc (by simp) _).trans (hb.mono (by simp; omega))
  go_wp2
  refine leaves_cons (f := 209) (args := #[.pointer (some ⟨w.heap.size, 0, none⟩), .pointer (some ⟨w.heap.size + 1, 0, none⟩)]) (by simp) (by simp [go_sem]) ?_
  refine (ucatch_panicking w.heap.size (w.heap.size + 1) w.heap.size n q [] _ c0 c1 z0 z1 (Nat.le_refl _) (by omega) (by omega)).mono ?_
  rintro e u' w'' ⟨rfl, rfl, f0, f1, fb⟩
  simp [Leaves, settle, results, Tryz.results151, go_sem, f0, f1]
  exact hb0.trans fb

set_option maxRecDepth 100000 in
set_option maxHeartbeats 1000000 in
theorem unmarshal_worse (s S : ByteArray) (w : World) (n q : Nat) (B : Value → World → Prop) (H : Calls Tryz.prog 78 #[.string s] (uface w) fun e w' => ∃ T, e = .returned T ∧ B T w' ∧ Below (uface w).heap.size (uface w) w')
    (H2 : ∀ T w', B T w' → Below (uface w).heap.size (uface w) w' → Calls Tryz.prog 197 #[T, .string S] w' fun e w'' => e = gaveUp n q ∧ Below w'.heap.size w' w'') :
    Calls Tryz.prog 151 #[.string s, .string S] w fun e w' => e = .returned (.tuple #[.slice none 0 0, .int .i64 n]) ∧ Below w.heap.size w w' := by
  have hmf : ∀ (fn : Fn) (first cap : Array Value) (w : World), (Instr.makeFunc fn first cap).run Tryz.prog w = .ok (.func fn first cap) w := fun _ _ _ _ => rfl
  have HH := hide H
  have HH2 := hide H2
  clear H H2
  go_enter_defers Tryz.func151, Tryz.ntmps151
  go_wp2_with fail
  refine (unhide HH).mono ?_
  rintro e w0 ⟨T, rfl, hB, hb1⟩
  have HC := hide ((unhide HH2) T w0 hB hb1)
  go_wp2_with fail
  refine (unhide HC).mono ?_
  rintro e w1 ⟨rfl, hb2⟩
  have hb := hb1.trans (hb2.mono hb1.size)
  have hs := hb.size
  simp at hs
  have c0 : w1.cell? ⟨w.heap.size, 0, none⟩ = some (.slice none 0 0) := (hb.cell (p := ⟨w.heap.size, 0, none⟩) (by simp; omega)).trans (by simp [go_sem])
  have c1 : w1.cell? ⟨w.heap.size + 1, 0, none⟩ = some (.int .i64 0) := (hb.cell (p := ⟨w.heap.size + 1, 0, none⟩) (by simp)).trans (by simp [go_sem])
  have z0 : w1.frozen? ⟨w.heap.size, 0, none⟩ = false := (hb.frozen (p := ⟨w.heap.size, 0, none⟩) (by simp; omega)).trans (by simp [go_sem])
  have z1 : w1.frozen? ⟨w.heap.size + 1, 0, none⟩ = false := (hb.frozen (p := ⟨w.heap.size + 1, 0, none⟩) (by simp)).trans (by simp [go_sem])
  have hb0 : Below w.heap.size w w1 := (((Below.refl _ _).alloc (Nat.le_refl _) _).alloc (by simp) _).trans (hb.mono (by simp; omega))
  go_wp2
  refine leaves_cons (f := 209) (args := #[.pointer (some ⟨w.heap.size, 0, none⟩), .pointer (some ⟨w.heap.size + 1, 0, none⟩)]) (by simp) (by simp [go_sem]) ?_
  refine (ucatch_panicking w.heap.size (w.heap.size + 1) w.heap.size n q [] _ c0 c1 z0 z1 (Nat.le_refl _) (by omega) (by omega)).mono ?_
  rintro e u' w'' ⟨rfl, rfl, f0, f1, fb⟩
  simp [Leaves, settle, results, Tryz.results151, go_sem, f0, f1]
  exact hb0.trans fb

set_option maxRecDepth 100000 in
set_option maxHeartbeats 1000000 in
theorem unmarshal_good (s S : ByteArray) (v : List It) (w : World) (B : Value → World → Prop) (H : Calls Tryz.prog 78 #[.string s] (uface w) fun e w' => ∃ T, e = .returned T ∧ B T w' ∧ Below (uface w).heap.size (uface w) w')
    (H2 : ∀ T w', B T w' → Below (uface w).heap.size (uface w) w' → Calls Tryz.prog 197 #[T, .string S] w' fun e w'' => (∃ O, e = .returned O ∧ Row w'' w'.heap.size O v) ∧ Below w'.heap.size w' w'') :
    Calls Tryz.prog 151 #[.string s, .string S] w fun e w' => ∃ O, e = .returned (.tuple #[O, .int .i64 0]) ∧ Row w' w.heap.size O v ∧ Below w.heap.size w w' := by
  have hmf : ∀ (fn : Fn) (first cap : Array Value) (w : World), (Instr.makeFunc fn first cap).run Tryz.prog w = .ok (.func fn first cap) w := fun _ _ _ _ => rfl
  have HH := hide H
  have HH2 := hide H2
  clear H H2
  go_enter_defers Tryz.func151, Tryz.ntmps151
  go_wp2_with fail
  refine (unhide HH).mono ?_
  rintro e w0 ⟨T, rfl, hB, hb1⟩
  have HC := hide ((unhide HH2) T w0 hB hb1)
  go_wp2_with fail
  refine (unhide HC).mono ?_
  rintro e w1 ⟨⟨O, rfl, hrow⟩, hb2⟩
  have hsz0 := hb1.size
  have hb := hb1.trans (hb2.mono hb1.size)
  have hs := hb.size
  simp at hs hsz0
  obtain ⟨oa, on, oc, hsh⟩ := row_shape hrow
  subst hsh
  have c0 : w1.cell? ⟨w.heap.size, 0, none⟩ = some (.slice none 0 0) := (hb.cell (p := ⟨w.heap.size, 0, none⟩) (by simp; omega)).trans (by simp [go_sem])
  have c1 : w1.cell? ⟨w.heap.size + 1, 0, none⟩ = some (.int .i64 0) := (hb.cell (p := ⟨w.heap.size + 1, 0, none⟩) (by simp)).trans (by simp [go_sem])
  have z0 : w1.frozen? ⟨w.heap.size, 0, none⟩ = false := (hb.frozen (p := ⟨w.heap.size, 0, none⟩) (by simp; omega)).trans (by simp [go_sem])
  have z1 : w1.frozen? ⟨w.heap.size + 1, 0, none⟩ = false := (hb.frozen (p := ⟨w.heap.size + 1, 0, none⟩) (by simp)).trans (by simp [go_sem])
  have hb0 : Below w.heap.size w w1 := (((Below.refl _ _).alloc (Nat.le_refl _) _).alloc (by simp) _).trans (hb.mono (by simp; omega))
  have FR : Hid (Row ((w1.setCell ⟨w.heap.size, 0, none⟩ (.slice oa on oc)).setCell ⟨w.heap.size + 1, 0, none⟩ (.int .i64 0)) w.heap.size (.slice oa on oc) v) :=
    row_base (row_set (row_set hrow (by omega)) (by omega)) (B := w0.heap.size) (by omega)
  clear hrow
  go_wp2
  refine leaves_cons (f := 209) (args := #[.pointer (some ⟨w.heap.size, 0, none⟩), .pointer (some ⟨w.heap.size + 1, 0, none⟩)]) (by simp) (by simp [go_sem]) ?_
  refine (ucatch_idle _ _ _).mono ?_
  rintro e u' w'' ⟨rfl, rfl, rfl⟩
  simp [Leaves, settle, results, Tryz.results151, go_sem, c0, c1]
  exact ⟨unhide FR, (hb0.setCell (by simp) _).setCell (by simp) _⟩

/- Unmarshal's answer: the error, the items -/
def uFull (s : ByteArray) (l : List UInt8) : Nat × List It := if (Pt.chk (nx s) s.size).1 = 0 then uRes (carryP rNum rTxt (nx s) (s.size + 1) 0 (l, [])) l else ((Pt.chk (nx s) s.size).1, [])

theorem uRes_no {r : Option RSt} {l : List UInt8} (h : ¬ (uRes r l).1 = 0) : (uRes r l).2 = [] := by
  unfold uRes at h ⊢
  split
  · rfl
  · rename_i hb
    rw [if_neg hb] at h
    cases r with
    | none => rfl
    | some a =>
      obtain ⟨l', v⟩ := a
      simp only at h ⊢
      split
      · rename_i h0
        rw [if_pos h0] at h
        exact absurd rfl h
      · rfl

theorem row_nil (w : World) (B : Nat) : Row w B (.slice none 0 0) [] := World.ownsRow_nil _ _ _ _

theorem unmarshal_any (s : ByteArray) (l : List UInt8) (w : World) :
    Calls Tryz.prog 151 #[.string s, .string (str l)] w fun e w' => ∃ O, e = .returned (.tuple #[O, .int .i64 (uFull s l).1]) ∧ Row w' w.heap.size O (uFull s l).2 ∧ Below w.heap.size w w' := by
  have H := shape_any s (uface w)
  unfold ReadPost at H
  by_cases hc : (Pt.chk (nx s) s.size).1 = 0
  · have hg := good_of hc
    simp only [hc, if_true] at H
    have hur : uFull s l = uRes (carryP rNum rTxt (nx s) (s.size + 1) 0 (l, [])) l := by simp [uFull, hc]
    rw [hur]
    have H1 : Calls Tryz.prog 78 #[.string s] (uface w) fun e w' => ∃ T, e = .returned T ∧ (∃ c0 c1 c2, T = .agg #[c0, c1, c2] ∧ Rep w' (fun k => (uface w).heap.size ≤ k) (nx s) (s.size + 1) 0 c0 c1 c2) ∧ Below (uface w).heap.size (uface w) w' := by
      refine H.mono ?_
      rintro e w' ⟨⟨c0, c1, c2, rfl, hr⟩, hb⟩
      exact ⟨_, rfl, ⟨c0, c1, c2, rfl, hr⟩, hb⟩
    have H2 : ∀ T w', (∃ c0 c1 c2, T = .agg #[c0, c1, c2] ∧ Rep w' (fun k => (uface w).heap.size ≤ k) (nx s) (s.size + 1) 0 c0 c1 c2) → Below (uface w).heap.size (uface w) w' → Calls Tryz.prog 197 #[T, .string (str l)] w' fun e w'' => RPost w'.heap.size (uRes (carryP rNum rTxt (nx s) (s.size + 1) 0 (l, [])) l) e w'' ∧ Below w'.heap.size w' w'' := by
      rintro T w' ⟨c0, c1, c2, rfl, hr⟩ hb
      exact vread_any s _ c0 c1 c2 l w' hr hg.ok hg.dep
    generalize hres : uRes (carryP rNum rTxt (nx s) (s.size + 1) 0 (l, [])) l = res at *
    have hno : ¬ res.1 = 0 → res.2 = [] := by rw [← hres]; exact uRes_no
    obtain ⟨n, bs⟩ := res
    simp only at hno
    by_cases h0 : n = 0
    · subst h0
      simp only [RPost, if_true] at H2
      exact unmarshal_good s (str l) bs w _ H1 H2
    · have := hno h0
      subst this
      simp only [RPost, if_neg h0] at H2
      refine (unmarshal_worse s (str l) w n 0 _ H1 H2).mono ?_
      rintro e w' ⟨rfl, hb⟩
      exact ⟨_, rfl, row_nil _ _, hb⟩
  · simp only [hc, if_false] at H
    have hur : uFull s l = ((Pt.chk (nx s) s.size).1, []) := by simp [uFull, hc]
    rw [hur]
    refine (unmarshal_bad s (str l) w _ _ H).mono ?_
    rintro e w' ⟨rfl, hb⟩
    exact ⟨_, rfl, row_nil _ _, hb⟩

end Go.Proofs.YtblomippkddgiaaGreatDoor.V
/-
  A world as the document's answer keeps it, with no program in sight: what comes to the hosts, the queue of jobs, the services, the logs, and crashes (P14 to P19).
-/
namespace Go.Proofs.YtblomippkddgiaaGreatDoor.R

/- P14: a packet at a client -/
def restP (w : Wd) (client line : Int) : Wd := setLine w client line { lineP w client line with wait := w.c.retry, tries := w.c.tries }
def gotP (w : Wd) (client : Int) (p : Pk) : Wd :=
  let l := lineP w client p.line
  sendP w (-1) ⟨6, client, lifeP w client, p.line, l.seq, l.uid, p.part, p.off, false, []⟩
def resultP (w : Wd) (client : Int) (p : Pk) : Wd :=
  let l := lineP w client p.line
  let n := piecesP l.message
  if l.acked < n - 1 ∨ l.pieces < p.part then w
  else if p.part = l.pieces then
    if l.pieces + 1 = p.off then setLine w client p.line { l with came := l.came ++ p.body, pieces := l.pieces + 1, acked := n, result := (V.uFull l.to (l.came ++ p.body)).2, state := 2 }
    else restP (gotP (setLine w client p.line { l with came := l.came ++ p.body, pieces := l.pieces + 1, acked := n }) client p) client p.line
  else gotP w client p
def heardP (w : Wd) (client : Int) (p : Pk) : Wd :=
  let l := lineP w client p.line
  if l.state ≠ 1 ∨ p.life ≠ lifeP w client ∨ p.seq ≠ l.seq then w
  else if p.kind = 2 then
    if p.part = l.acked then
      let w1 := setLine w client p.line { l with acked := l.acked + 1 }
      restP (if l.acked + 1 < piecesP l.message then sendPieceP w1 client p.line false else w1) client p.line
    else w
  else if p.kind = 4 then restP w client p.line
  else if p.kind = 5 then resultP w client p
  else if p.kind = 7 then setLine w client p.line { l with state := 4 + p.part }
  else w

/- P15, P16: a packet at the server -/
def replyP (w : Wd) (p : Pk) (kind k of' : Int) : Wd := sendP w p.client ⟨kind, p.client, p.life, p.line, p.seq, p.uid, k, of', false, []⟩
def tellP (w : Wd) (i : Nat) : Wd :=
  let w1 := sendResultP w i
  let r := seenP w1 i
  setSeen w1 i { r with timed := decide (8 * r.at' + 8 < (r.result.length : Int)), wait := w.c.retry, tries := w.c.tries }
def aliveP (w : Wd) (uid : Int) : Bool := decide (1 ≤ uid) && ((w.services[(uid - 1).toNat]?).map (·.alive)).getD false
def rememberedP (w : Wd) : Nat := (w.seen.filter fun r => decide (0 < r.seq)).length
def ackP (w : Wd) (p : Pk) : Wd := if p.please = true then replyP w p 2 p.part p.off else w
def gatherP (w : Wd) (i : Nat) (p : Pk) : Wd :=
  let r := seenP w i
  if p.part = r.pieces then
    if p.part = p.off - 1 then
      if w.c.table ≤ (w.jobs.length : Int) then w
      else ackP { setSeen w i { r with state := 2, message := r.message ++ p.body, pieces := r.pieces + 1 } with jobs := w.jobs ++ [⟨p.client, p.line, p.life, p.seq, p.uid⟩] } p
    else ackP (setSeen w i { r with message := r.message ++ p.body, pieces := r.pieces + 1 }) p
  else ackP w p
def knownP (w : Wd) (i : Nat) (p : Pk) : Wd :=
  let r := seenP w i
  if r.state = 1 then (if p.kind = 1 ∧ p.part ≤ r.pieces then gatherP w i p else w)
  else if r.state = 4 then replyP w p 7 0 2
  else if p.please = false then w
  else if r.state = 3 then tellP w i
  else if p.kind = 3 then replyP w p 4 0 1
  else replyP w p 2 p.part p.off
def livesP (w : Wd) (p : Pk) : Wd :=
  if (w.lives.getD p.client.toNat 0) < p.life then { w with lives := w.lives.set p.client.toNat p.life, seen := ((w.seen.set (3 * p.client.toNat) sn0).set (3 * p.client.toNat + 1) sn0).set (3 * p.client.toNat + 2) sn0 } else w
def askP (w : Wd) (i : Nat) (p : Pk) : Wd :=
  let r := seenP w i
  if p.kind = 6 then
    if r.seq = p.seq ∧ r.state = 3 ∧ p.off = piecesP r.result ∧ p.part = r.at' ∧ r.at' < piecesP r.result - 1 then tellP (setSeen w i { r with at' := r.at' + 1 }) i else w
  else if r.seq = p.seq then knownP w i p
  else if p.seq < r.seq then w
  else if aliveP w p.uid = false then replyP w p 7 0 2
  else if p.kind = 3 ∨ p.part ≠ 0 then w
  else if r.seq = 0 ∧ w.c.table ≤ (rememberedP w : Int) then replyP w p 7 1 2
  else knownP (setSeen w i { sn0 with seq := p.seq, uid := p.uid, state := 1 }) i p
def askedP (w : Wd) (p : Pk) : Wd :=
  if p.life < w.lives.getD p.client.toNat 0 then w else askP (livesP w p) (3 * p.client.toNat + p.line.toNat) p

def deliverP (w : Wd) (i : Int) : Int × Wd := if off w i then (9, w) else match w.flying[i.toNat]? with
  | none => (9, w)
  | some f =>
    let w1 := { w with flying := w.flying.eraseIdx i.toNat }
    (0, if f.bent = true then w1 else match readP f.s with
      | none => w1
      | some p => if f.to = -1 then askedP w1 p else heardP w1 f.to p)

/- the services -/
def argN (v : List It) (k : Nat) : Int := ((v[k]?).map (·.1)).getD 0
def argS (v : List It) (k : Nat) : ByteArray := ((v[k]?).map (·.2)).getD ⟨#[]⟩
def countedP : List En → Int → Int
  | [], n => n
  | e :: es, n => countedP es (if e.proc = 0 then (n + argN e.arg 0 + 65536) % 65536 else if argN e.arg 0 = 1 then 0 else n)
def postedP (l : List En) : List ByteArray :=
  let out := (l.filter fun e => decide (e.proc = 0)).map fun e => argS e.arg 0
  out.drop (out.length - 4)
def laidP : List En → Int → List It → List It
  | [], _, was => was
  | e :: es, d, was => laidP es d (if argN e.arg 0 = d then e.arg.drop 2 else was)
def num (n : Int) : It := (n, ⟨#[]⟩)
def doesP (kind : Int) (l : List En) (proc : Int) (arg : List It) : List It :=
  if kind = 0 then [num (if proc = 0 then (countedP l 0 + argN arg 0 + 65536) % 65536 else countedP l 0)]
  else if kind = 1 then
    if proc = 0 then [num (min 4 (((postedP l).length : Int) + 1))]
    else let b := (postedP l).take (argN arg 0).toNat; num b.length :: b.map fun s => (0, s)
  else
    let was := laidP l (argN arg 0) []
    if was.length = 0 then [num 0, num 0] else num 1 :: num was.length :: was

/- P17: Serve -/
def doneP (w : Wd) (i : Nat) : Wd :=
  let r := seenP w i
  let k := (r.uid - 1).toNat
  let s := (w.services[k]?).getD ⟨0, false, []⟩
  let proc := 256 * ((r.message.getD 0 0).toNat : Int) + ((r.message.getD 1 0).toNat : Int)
  let t := (sigP s.kind proc).getD (⟨#[]⟩, ⟨#[]⟩)
  let arg := (V.uFull t.1 (r.message.drop 2)).2
  let out := doesP s.kind s.log proc arg
  let w1 := { w with services := w.services.set k { s with log := s.log ++ [⟨((i / 3 : Nat) : Int), w.lives.getD (i / 3) 0, ((i % 3 : Nat) : Int), r.seq, proc, arg, out⟩] } }
  tellP (setSeen w1 i { r with state := 3, result := (bytesP t.2 out).getD [], at' := 0 }) i
def waitsP (w : Wd) (j : Jb) : Prop := (seenP w (3 * j.client.toNat + j.line.toNat)).state = 2 ∧ (seenP w (3 * j.client.toNat + j.line.toNat)).seq = j.seq ∧ w.lives.getD j.client.toNat 0 = j.life
instance (w : Wd) (j : Jb) : Decidable (waitsP w j) := by unfold waitsP; infer_instance
def serveGo (w : Wd) : List Jb → Int × Wd
  | [] => (19, { w with jobs := [] })
  | j :: js => if waitsP w j then (0, doneP { w with jobs := js } (3 * j.client.toNat + j.line.toNat)) else serveGo w js
def serveP (w : Wd) : Int × Wd := serveGo w w.jobs

/- P18 -/
def madeP (w : Wd) (uid : Int) : Prop := 1 ≤ uid ∧ uid ≤ (w.services.length : Int)
instance (w : Wd) (uid : Int) : Decidable (madeP w uid) := by unfold madeP; infer_instance
def logOf (w : Wd) (uid : Int) : List En := ((w.services[(uid - 1).toNat]?).map (·.log)).getD []
def logP (w : Wd) (uid : Int) : Int × Int := if madeP w uid then ((logOf w uid).length, 0) else (0, 9)
def entryAtP (w : Wd) (uid k : Int) : Option En := if madeP w uid ∧ 0 ≤ k then (logOf w uid)[k.toNat]? else none

/- P19 -/
def crashP (w : Wd) (host : Int) : Int × Wd :=
  if host = -1 then (0, { w with services := w.services.map fun s => { s with alive := false }, lives := [0, 0, 0], seen := List.replicate 9 sn0, jobs := [] })
  else if host < 0 ∨ (w.clients.length : Int) ≤ host then (13, w)
  else if lifeP w host = 255 then (11, w)
  else (0, { w with clients := w.clients.set host.toNat (cl0 (lifeP w host + 1) w.c.lines) })
end Go.Proofs.YtblomippkddgiaaGreatDoor.R
