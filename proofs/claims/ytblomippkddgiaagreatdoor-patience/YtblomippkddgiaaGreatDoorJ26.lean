/-
  Joined: VReaderC VReadFace.
-/
import Derived.Test.YtblomippkddgiaaGreatDoorJ25
/-
  The landed code's reader carries.
-/
namespace Go.Proofs.YtblomippkddgiaaGreatDoor.V
open Go.RowKit

abbrev RSt := List UInt8 × List It
def rNum (lo hi : Int) (x : RSt) : Option (Int × RSt) := match x.1 with
  | a :: c :: r => if turned lo hi (num2 a c) < lo ∨ hi < turned lo hi (num2 a c) then none else some (turned lo hi (num2 a c), (r, x.2 ++ [(turned lo hi (num2 a c), ⟨#[]⟩)]))
  | _ => none
def rTxt (x : RSt) : Option RSt := match x.1 with
  | a :: c :: r => if num2 a c ≤ 14 ∧ num2 a c ≤ r.length then
      (if num2 a c % 2 = 0 then some (r.drop (num2 a c), x.2 ++ [(0, str (r.take (num2 a c)))])
       else match r.drop (num2 a c) with
        | p :: r' => if p = 0 then some (r', x.2 ++ [(0, str (r.take (num2 a c)))]) else none
        | [] => none)
      else none
  | _ => none
def reader (w0 : World) : Carrier RSt where
  tid := 311
  fnum := 285
  ftxt := 286
  er := 6
  ptr := ⟨w0.heap.size, 0, none⟩
  w0 := w0
  St := fun w c x O => ∃ Ov, RS w0 w x.1 Ov x.2 ∧ O = wOwn w0 Ov ∧ x.1.length ≤ 490 ∧ x.2.length ≤ c
  num := rNum
  txt := rTxt

theorem no_two {w0 w : World} {l : List UInt8} {O : Value} {v : List It} (h : RS w0 w l O v) (hn : ¬ 2 ≤ l.length) : Calls Tryz.prog 114 #[.pointer (some ⟨w0.heap.size, 0, none⟩)] w fun e w' => e = gaveUp 6 0 ∧ Below w0.heap.size w0 w' := by
  refine (twoBytes_no w0.heap.size l O w h.rd hn).mono ?_
  rintro e w' ⟨rfl, hb⟩
  exact ⟨rfl, h.below.trans hb⟩

theorem rnum_said (w0 w : World) (c : Nat) (l : List UInt8) (v : List It) (Ov : Value) (lo hi : Int) (h : RS w0 w l Ov v) (hl : l.length ≤ 490) (hv : v.length ≤ c) (hc : c ≤ 40000) :
    Calls Tryz.prog 285 #[.pointer (some ⟨w0.heap.size, 0, none⟩), .int .i64 lo, .int .i64 hi] w
      (OrN 6 ((reader w0).No (rNum lo hi (l, v) = none)) (fun i w' => ∃ x', rNum lo hi (l, v) = some (i, x') ∧ (reader w0).Lv (wOwn w0 Ov) (c + 1) x' w w')) := by
  have bad : rNum lo hi (l, v) = none → ∀ e w', e = gaveUp 6 0 ∧ Below w0.heap.size w0 w' → OrN 6 ((reader w0).No (rNum lo hi (l, v) = none)) (fun i w' => ∃ x', rNum lo hi (l, v) = some (i, x') ∧ (reader w0).Lv (wOwn w0 Ov) (c + 1) x' w w') e w' := by
    rintro hno e w' ⟨rfl, hb⟩
    exact Or.inl ⟨rfl, hno, hb⟩
  match l, h, hl, bad with
  | [], h, _, bad => exact (rnumber_none w0 w lo hi (no_two h (by simp))).mono (bad rfl)
  | [a], h, _, bad => exact (rnumber_none w0 w lo hi (no_two h (by simp))).mono (bad rfl)
  | a :: b :: r, h, hl, bad =>
    simp only [List.length_cons] at hl
    have H := two_said w0 w a b r Ov v h (by omega)
    by_cases hb : turned lo hi (num2 a b) < lo ∨ hi < turned lo hi (num2 a b)
    · exact (rnumber_bad w0 w r Ov v lo hi _ (num2_lt a b) hb H).mono (bad (by simp only [rNum]; rw [if_pos hb]))
    · refine (rnumber_ok w0 w r Ov v lo hi _ _ (num2_lt a b) rfl ⟨fun h => hb (Or.inl h), fun h => hb (Or.inr h)⟩ (by omega) H).mono ?_
      rintro e w' ⟨rfl, O', hrs, hwk⟩
      refine Or.inr ⟨_, rfl, (r, v ++ [(turned lo hi (num2 a b), ⟨#[]⟩)]), by simp only [rNum]; rw [if_neg hb], c + 1, wOwn w0 O', Nat.le_refl _, ⟨O', hrs, rfl, by simp only; omega, ?_⟩, hwk.kept⟩
      simp only [List.length_append, List.length_cons, List.length_nil]
      omega

theorem rtxt_said (w0 w : World) (c : Nat) (l : List UInt8) (v : List It) (Ov : Value) (h : RS w0 w l Ov v) (hl : l.length ≤ 490) (hv : v.length ≤ c) (hc : c ≤ 40000) :
    Calls Tryz.prog 286 #[.pointer (some ⟨w0.heap.size, 0, none⟩)] w
      (Or2 6 ((reader w0).No (rTxt (l, v) = none)) (fun w' => ∃ x', rTxt (l, v) = some x' ∧ (reader w0).Lv (wOwn w0 Ov) (c + 1) x' w w')) := by
  have bad : rTxt (l, v) = none → ∀ e w', e = gaveUp 6 0 ∧ Below w0.heap.size w0 w' → Or2 6 ((reader w0).No (rTxt (l, v) = none)) (fun w' => ∃ x', rTxt (l, v) = some x' ∧ (reader w0).Lv (wOwn w0 Ov) (c + 1) x' w w') e w' := by
    rintro hno e w' ⟨rfl, hb⟩
    exact Or.inl ⟨rfl, hno, hb⟩
  have good : ∀ r' S, rTxt (l, v) = some (r', v ++ [(0, S)]) → r'.length ≤ 490 → ∀ e w', (e = .returned (.tuple #[]) ∧ ∃ O', RS w0 w' r' O' (v ++ [(0, S)]) ∧ Wk w0.heap.size Ov O' w w') → Or2 6 ((reader w0).No (rTxt (l, v) = none)) (fun w' => ∃ x', rTxt (l, v) = some x' ∧ (reader w0).Lv (wOwn w0 Ov) (c + 1) x' w w') e w' := by
    rintro r' S hr hrl e w' ⟨rfl, O', hrs, hwk⟩
    refine Or.inr ⟨rfl, _, hr, c + 1, wOwn w0 O', Nat.le_refl _, ⟨O', hrs, rfl, hrl, ?_⟩, hwk.kept⟩
    simp only [List.length_append, List.length_cons, List.length_nil]
    omega
  match l, h, hl, bad, good with
  | [], h, _, bad, _ => exact (rtext_none w0 w (no_two h (by simp))).mono (bad rfl)
  | [a], h, _, bad, _ => exact (rtext_none w0 w (no_two h (by simp))).mono (bad rfl)
  | a :: b :: r, h, hl, bad, good =>
    simp only [List.length_cons] at hl
    have H := two_said w0 w a b r Ov v h (by omega)
    have hT : rTxt (a :: b :: r, v) = if num2 a b ≤ 14 ∧ num2 a b ≤ r.length then
        (if num2 a b % 2 = 0 then some (r.drop (num2 a b), v ++ [(0, str (r.take (num2 a b)))])
         else match r.drop (num2 a b) with
          | p :: r' => if p = 0 then some (r', v ++ [(0, str (r.take (num2 a b)))]) else none
          | [] => none)
        else none := rfl
    generalize num2 a b = n at H hT
    by_cases h14 : n ≤ 14
    · by_cases hs : n ≤ r.length
      · rw [if_pos ⟨h14, hs⟩] at hT
        by_cases he : n % 2 = 0
        · rw [if_pos he] at hT
          exact (rtext_even w0 w r Ov v n h14 hs (by omega) (by omega) he H).mono (good _ _ hT (by rw [List.length_drop]; omega))
        · rw [if_neg he] at hT
          cases hd : r.drop n with
          | nil =>
            rw [hd] at hT
            have : r.length = n := by
              have := congrArg List.length hd
              rw [List.length_drop] at this
              simp at this
              omega
            exact (rtext_end w0 w r Ov v n h14 this.symm (by omega) (by omega) H).mono (bad hT)
          | cons p r' =>
            rw [hd] at hT
            simp only at hT
            by_cases hp : p = 0
            · subst hp
              rw [if_pos rfl] at hT
              refine (rtext_odd w0 w r r' Ov v n h14 hs hd (by omega) (by omega) (by omega) H).mono (good _ _ hT ?_)
              have := congrArg List.length hd
              rw [List.length_drop] at this
              simp at this
              omega
            · rw [if_neg hp] at hT
              exact (rtext_pad w0 w r r' p Ov v n h14 hs hd hp (by omega) (by omega) H).mono (bad hT)
      · exact (rtext_short w0 w r Ov v n h14 hs H).mono (bad (by rw [hT, if_neg (fun h => hs h.2)]))
    · exact (rtext_long w0 w r Ov v n h14 H).mono (bad (by rw [hT, if_neg (fun h => h14 h.1)]))

set_option maxRecDepth 100000 in
theorem reader_carries (w0 : World) : Carries (reader w0) where
  below := by
    rintro w c x O ⟨Ov, h, _⟩
    exact h.below
  fresh := by
    rintro w c x O ⟨Ov, h, rfl, _⟩ k (rfl | hk)
    · exact ⟨Nat.le_refl _, h.rd.lt⟩
    · have := h.row hk
      exact ⟨by simp only [reader]; omega, this.2⟩
  go := by
    rintro w c x O w' ⟨Ov, h, r⟩ hb
    exact ⟨Ov, h.go hb, r⟩
  range := by
    rintro lo hi ⟨l, v⟩ n x' h
    simp only [reader, rNum] at h
    split at h
    · split at h
      · cases h
      · rename_i hb
        cases h
        omega
    · cases h
  mnum := ⟨fun _ => by kernel_rfl, fun _ _ => rfl⟩
  mtxt := ⟨fun _ => by kernel_rfl, fun _ _ => rfl⟩
  number := by
    rintro w c ⟨l, v⟩ O lo hi ⟨Ov, h, rfl, hl, hv⟩ hc _
    exact rnum_said w0 w c l v Ov lo hi h hl hv hc
  text := by
    rintro w c ⟨l, v⟩ O ⟨Ov, h, rfl, hl, hv⟩ hc
    exact rtxt_said w0 w c l v Ov h hl hv hc

end Go.Proofs.YtblomippkddgiaaGreatDoor.V
/-
  The landed code's Read: a value out of its bytes, or it gives up; the face: Unmarshal catches what Read gave up with.
-/
namespace Go.Proofs.YtblomippkddgiaaGreatDoor.V
open Go.RowKit

theorem row_base {w : World} {B B' n size : Nat} {e : TypeId} {v : Value} {xs : List Value} (h : w.ownsRow B e size v n xs) (hB : B' ≤ B) : w.ownsRow B' e size v n xs := by
  obtain ⟨hl, h⟩ := h
  refine ⟨hl, ?_⟩
  rcases h with h | ⟨g, cap, cur, hv, hg, r⟩
  · exact Or.inl h
  · exact Or.inr ⟨g, cap, cur, hv, by omega, r⟩

/- the list v lies in a row of its own, in a block from B on -/
def Row (w : World) (B : Nat) (O : Value) (v : List It) : Prop := w.ownsRow B 106 2 O v.length (flat v)

set_option maxRecDepth 100000 in
set_option maxHeartbeats 400000 in
theorem read_big (w : World) (x0 x1 : Int) (ea : Option Addr) (en ec : Nat) (S : ByteArray) (hn : 70 < S.size) :
    Calls Tryz.prog 197 #[.agg #[.int .u8 x0, .int .i64 x1, .slice ea en ec], .string S] w fun e w' => e = gaveUp 5 0 ∧ Below w.heap.size w w' := by
  have HB := hide (fun w => tooBig_any S.size w)
  rw [show decide (70 < S.size) = true by simp [hn]] at HB
  clear hn
  go_enter Tryz.func197, Tryz.ntmps197
  go_wp2_with fail
  refine ((unhide HB) _).mono ?_
  rintro e w1 ⟨rfl, rfl⟩
  go_wp2
  exact ⟨rfl, rfl, (Below.refl _ _).alloc (Nat.le_refl _) _⟩

set_option maxRecDepth 100000 in
set_option maxHeartbeats 1000000 in
theorem read_none (w : World) (x0 x1 : Int) (ea : Option Addr) (en ec : Nat) (l : List UInt8) (hn : ¬ 70 < l.length)
    (HK : Calls Tryz.prog 125 #[.agg #[.int .u8 x0, .int .i64 x1, .slice ea en ec], .iface 311 (.pointer (some ⟨w.heap.size + 1, 0, none⟩))] ((w.alloc (box63 x0 x1 ea en ec)).alloc (.cells #[.string (str l), .int .i64 6, .slice none 0 0] 310)) fun e w' => e = gaveUp 6 0 ∧ Below w.heap.size w w') :
    Calls Tryz.prog 197 #[.agg #[.int .u8 x0, .int .i64 x1, .slice ea en ec], .string (str l)] w fun e w' => e = gaveUp 6 0 ∧ Below w.heap.size w w' := by
  have HKK := hide HK
  have HB := hide (fun w => tooBig_any (str l).size w)
  rw [show decide (70 < (str l).size) = false by rw [str_size]; simp; omega] at HB
  clear HK hn
  generalize str l = S at *
  go_enter Tryz.func197, Tryz.ntmps197
  go_wp2_with fail
  refine ((unhide HB) _).mono ?_
  rintro e w1 ⟨rfl, rfl⟩
  go_wp2_with fail
  refine (unhide HKK).mono ?_
  rintro e w1 ⟨rfl, hb⟩
  go_wp2
  exact ⟨rfl, rfl, hb⟩

set_option maxRecDepth 100000 in
set_option maxHeartbeats 400000 in
theorem end_yes (b : Nat) (w : World) (h : w.cell? ⟨b, 0, none⟩ = some (.string (str []))) : Calls Tryz.prog 69 #[.pointer (some ⟨b, 0, none⟩)] w fun e w' => e = .returned (.tuple #[]) ∧ w = w' := by
  go_enter Tryz.func69, Tryz.ntmps69
  go_wp2
  go_end0
  exact ⟨rfl, rfl⟩
set_option maxRecDepth 100000 in
set_option maxHeartbeats 400000 in
theorem end_no (b : Nat) (l : List UInt8) (w : World) (h : w.cell? ⟨b, 0, none⟩ = some (.string (str l))) (h1 : w.cell? ⟨b, 1, none⟩ = some (.int .i64 6)) (hl : ¬ l = []) : Calls Tryz.prog 69 #[.pointer (some ⟨b, 0, none⟩)] w fun e w' => e = gaveUp 6 0 ∧ w = w' := by
  have hpos : (0 : Int) < ((str l).size : Int) := by
    rw [str_size]
    have := List.length_pos_iff.2 hl
    omega
  have HR := hide (refuse_cell b w h1)
  clear hl h1
  generalize str l = S at *
  go_enter Tryz.func69, Tryz.ntmps69
  go_wp2_with fail
  refine (unhide HR).mono ?_
  rintro e w1 ⟨rfl, rfl⟩
  go_wp2
  exact ⟨rfl, rfl, rfl⟩

/- what the reader leaves, to Read's eyes -/
structure RLeft (w w' : World) (l : List UInt8) (O : Value) (v : List It) : Prop where
  left : w'.cell? ⟨w.heap.size + 1, 0, none⟩ = some (.string (str l))
  wrong : w'.cell? ⟨w.heap.size + 1, 1, none⟩ = some (.int .i64 6)
  out : w'.cell? ⟨w.heap.size + 1, 2, none⟩ = some O
  row : Row w' (w.heap.size + 2) O v
  below : Below w.heap.size w w'

set_option maxRecDepth 100000 in
set_option maxHeartbeats 1000000 in
theorem read_some (w : World) (x0 x1 : Int) (ea : Option Addr) (en ec : Nat) (l l' : List UInt8) (v : List It) (hn : ¬ 70 < l.length)
    (HK : Calls Tryz.prog 125 #[.agg #[.int .u8 x0, .int .i64 x1, .slice ea en ec], .iface 311 (.pointer (some ⟨w.heap.size + 1, 0, none⟩))] ((w.alloc (box63 x0 x1 ea en ec)).alloc (.cells #[.string (str l), .int .i64 6, .slice none 0 0] 310)) fun e w' => e = .returned (.tuple #[]) ∧ ∃ O, RLeft w w' l' O v) :
    Calls Tryz.prog 197 #[.agg #[.int .u8 x0, .int .i64 x1, .slice ea en ec], .string (str l)] w fun e w' => (if l' = [] then ∃ O, e = .returned O ∧ Row w' (w.heap.size + 2) O v else e = gaveUp 6 0) ∧ Below w.heap.size w w' := by
  have HKK := hide HK
  have HB := hide (fun w => tooBig_any (str l).size w)
  rw [show decide (70 < (str l).size) = false by rw [str_size]; simp; omega] at HB
  clear HK hn
  generalize str l = S at *
  by_cases h0 : l' = []
  · subst h0
    simp only [if_true]
    go_enter Tryz.func197, Tryz.ntmps197
    go_wp2_with fail
    refine ((unhide HB) _).mono ?_
    rintro e w1 ⟨rfl, rfl⟩
    go_wp2_with fail
    refine (unhide HKK).mono ?_
    rintro e w1 ⟨rfl, O, hL⟩
    have c1 := hL.out
    obtain ⟨oa, on, oc, hsh⟩ := row_shape hL.row
    subst hsh
    have HE := hide (end_yes (w.heap.size + 1) w1 hL.left)
    have HL := hide hL
    clear hL
    go_wp2_with fail
    refine (unhide HE).mono ?_
    rintro e w2 ⟨rfl, hw2⟩
    subst hw2
    go_wp2
    go_ret
    exact ⟨⟨_, rfl, (unhide HL).row⟩, (unhide HL).below⟩
  · simp only [h0, if_false]
    go_enter Tryz.func197, Tryz.ntmps197
    go_wp2_with fail
    refine ((unhide HB) _).mono ?_
    rintro e w1 ⟨rfl, rfl⟩
    go_wp2_with fail
    refine (unhide HKK).mono ?_
    rintro e w1 ⟨rfl, O, hL⟩
    have hb := hL.below
    have HE := hide (end_no (w.heap.size + 1) l' w1 hL.left hL.wrong h0)
    clear hL
    generalize str l' = S' at *
    go_wp2_with fail
    refine (unhide HE).mono ?_
    rintro e w2 ⟨rfl, hw2⟩
    subst hw2
    go_wp2
    exact ⟨rfl, rfl, hb⟩

/- Unmarshal's answer of a good type: the error, the items -/
def uRes (r : Option RSt) (l : List UInt8) : Nat × List It := if 70 < l.length then (5, []) else match r with
  | none => (6, [])
  | some (l', v) => if l' = [] then (0, v) else (6, [])
def RPost (B : Nat) (res : Nat × List It) (e : Ending) (w' : World) : Prop := if res.1 = 0 then ∃ O, e = .returned O ∧ Row w' B O res.2 else e = gaveUp res.1 0

theorem vread_any (s : ByteArray) (S : Nat → Prop) (c0 c1 c2 : Value) (l : List UInt8) (w : World) (hR : Rep w S (nx s) (s.size + 1) 0 c0 c1 c2) (hO : Okp s (s.size + 1) 0) (hd : Pt.dep (nx s) (s.size + 1) 0 ≤ 4) :
    Calls Tryz.prog 197 #[.agg #[c0, c1, c2], .string (str l)] w fun e w' => RPost w.heap.size (uRes (carryP rNum rTxt (nx s) (s.size + 1) 0 (l, [])) l) e w' ∧ Below w.heap.size w w' := by
  obtain ⟨⟨x0, rfl⟩, ⟨x1, rfl⟩, ⟨ea, en, ec, rfl⟩⟩ := rep_shape hR
  by_cases hbig : 70 < l.length
  · refine (read_big w x0 x1 ea en ec (str l) (by rw [str_size]; exact hbig)).mono ?_
    rintro e w' ⟨rfl, hb⟩
    refine ⟨?_, hb⟩
    simp [RPost, uRes, hbig]
  · have hb0 : Below w.heap.size w (w.alloc (box63 x0 x1 ea en ec)) := (Below.refl w.heap.size w).alloc (Nat.le_refl _) _
    have hR0 : Rep (w.alloc (box63 x0 x1 ea en ec)) S (nx s) (s.size + 1) 0 (.int .u8 x0) (.int .i64 x1) (.slice ea en ec) := rep_above ⟨hb0.size, fun k _ hl => hb0.block k hl⟩ hR
    have hz : (w.alloc (box63 x0 x1 ea en ec)).heap.size = w.heap.size + 1 := by simp
    have hrs : RS (w.alloc (box63 x0 x1 ea en ec)) ((w.alloc (box63 x0 x1 ea en ec)).alloc (.cells #[.string (str l), .int .i64 6, .slice none 0 0] 310)) l (.slice none 0 0) [] := by
      refine ⟨?_, (Below.refl _ _).alloc (Nat.le_refl _) _, World.ownsRow_nil _ _ _ _⟩
      unfold Rd
      show ((w.alloc (box63 x0 x1 ea en ec)).heap.push _)[(w.alloc (box63 x0 x1 ea en ec)).heap.size]? = _
      rw [Array.getElem?_push_size]
    have hM : 10 ^ Pt.dep (nx s) (s.size + 1) 0 ≤ 10 ^ 4 := Nat.pow_le_pow_right (by decide) hd
    have HK := carry_any (reader_carries (w.alloc (box63 x0 x1 ea en ec))) s (s.size + 1) 0 S _ _ _ hR0 hO _ 0 (l, []) _ ⟨_, hrs, rfl, by simp only; omega, Nat.le_refl _⟩ (by omega)
    have hptr : (reader (w.alloc (box63 x0 x1 ea en ec))).I = .iface 311 (.pointer (some ⟨w.heap.size + 1, 0, none⟩)) := by
      show Value.iface 311 (.pointer (some ⟨(w.alloc (box63 x0 x1 ea en ec)).heap.size, 0, none⟩)) = _
      rw [hz]
    rw [hptr] at HK
    rw [show carryP (reader (w.alloc (box63 x0 x1 ea en ec))).num (reader (w.alloc (box63 x0 x1 ea en ec))).txt (nx s) (s.size + 1) 0 (l, []) = carryP rNum rTxt (nx s) (s.size + 1) 0 (l, []) from rfl] at HK
    have hbb : ∀ w', Below (w.alloc (box63 x0 x1 ea en ec)).heap.size (w.alloc (box63 x0 x1 ea en ec)) w' → Below w.heap.size w w' := fun w' h => hb0.trans (h.mono (by omega))
    cases hr : carryP rNum rTxt (nx s) (s.size + 1) 0 (l, []) with
    | none =>
      rw [hr] at HK
      refine (read_none w x0 x1 ea en ec l hbig (HK.mono ?_)).mono ?_
      · rintro e w' (⟨rfl, _, hb⟩ | ⟨rfl, x', hx, _⟩)
        · exact ⟨rfl, hbb w' hb⟩
        · cases hx
      · rintro e w' ⟨rfl, hb⟩
        refine ⟨?_, hb⟩
        simp [RPost, uRes, hbig]
    | some a =>
      obtain ⟨l', v⟩ := a
      rw [hr] at HK
      have HL : Calls Tryz.prog 125 #[.agg #[.int .u8 x0, .int .i64 x1, .slice ea en ec], .iface 311 (.pointer (some ⟨w.heap.size + 1, 0, none⟩))] ((w.alloc (box63 x0 x1 ea en ec)).alloc (.cells #[.string (str l), .int .i64 6, .slice none 0 0] 310)) fun e w' => e = .returned (.tuple #[]) ∧ ∃ O, RLeft w w' l' O v := by
        refine HK.mono ?_
        rintro e w' (⟨rfl, hx, _⟩ | ⟨rfl, x', hx, c', O', _, ⟨Ov, hw2, _⟩, _⟩)
        · cases hx
        · cases hx
          have h1 := hw2.rd.left
          have h2 := hw2.rd.items
          have h4 := hw2.rd.wrong
          have h3 := hw2.own
          rw [hz] at h1 h2 h3 h4
          exact ⟨rfl, Ov, h1, h4, h2, h3, hbb w' hw2.below⟩
      refine (read_some w x0 x1 ea en ec l l' v hbig HL).mono ?_
      rintro e w' ⟨he, hb⟩
      refine ⟨?_, hb⟩
      by_cases h0 : l' = []
      · rw [if_pos h0] at he
        obtain ⟨O, rfl, hrow⟩ := he
        have : uRes (some (l', v)) l = (0, v) := by simp [uRes, hbig, h0]
        rw [this]
        exact ⟨O, rfl, row_base hrow (by omega)⟩
      · rw [if_neg h0] at he
        subst he
        have : uRes (some (l', v)) l = (6, []) := by simp [uRes, hbig, h0]
        rw [this]
        rfl

end Go.Proofs.YtblomippkddgiaaGreatDoor.V
