/-
  Joined: Msg Msg2 VShort Maps.
-/
import Derived.Test.YtblomippkddgiaaGreatDoorJ34
import Derived.Test.YtblomippkddgiaaGreatDoorJ22
import Derived.Test.YtblomippkddgiaaGreatDoorJ17
import Derived.Test.YtblomippkddgiaaGreatDoorJ27
import Derived.StringKeys
/-
  The messages of calls and results: written and read.
-/
namespace Go.Proofs.YtblomippkddgiaaGreatDoor
open Go.RowKit

theorem rep_below {S : Nat → Prop} {g : Nat → Nat} {w w' : World} {f p : Nat} {c0 c1 c2 : Value} (h : V.Rep w S g f p c0 c1 c2) (hb : Below w.heap.size w w') : V.Rep w' S g f p c0 c1 c2 := V.rep_above ⟨hb.size, fun k _ hl => hb.block k hl⟩ h

/- value.Write of a type that was read -/
def wrPost (T : ByteArray) (v : List V.It) (w : World) (e : Ending) (w' : World) : Prop :=
  (((V.mRes T v).1 = 0 ∧ e = .returned (.string (str (V.mRes T v).2))) ∨ (¬ (V.mRes T v).1 = 0 ∧ e = gaveUp (V.mRes T v).1 0)) ∧ Below w.heap.size w w'
theorem vwrite_any (T : ByteArray) (hT : (V.Pt.chk (V.nx T) T.size).1 = 0) (S : Nat → Prop) (c0 c1 c2 X : Value) (v : List V.It) (w : World) (hR : V.Rep w S (V.nx T) (T.size + 1) 0 c0 c1 c2) (hI : V.Items w X v) (hn : v.length ≤ 9000000000000) : Calls Tryz.prog 77 #[.agg #[c0, c1, c2], X] w (wrPost T v w) := by
  have hG := V.good_of hT
  refine (V.write_any T S c0 c1 c2 X v w hR hG.ok hG.dep hI hn).mono ?_
  rintro e w'' ⟨h1, h2⟩
  have e1 : V.wRes (V.eat (V.nx T) (T.size + 1) 0 v) v = V.mRes T v := by unfold V.mRes; rw [if_pos hT]
  rw [e1] at h1
  unfold V.WPost at h1
  refine ⟨?_, h2⟩
  by_cases h0 : (V.mRes T v).1 = 0
  · rw [if_pos h0] at h1
    exact Or.inl ⟨h0, h1⟩
  · rw [if_neg h0] at h1
    exact Or.inr ⟨h0, h1⟩
theorem mRes_len (T : ByteArray) (v : List V.It) : (V.mRes T v).2.length ≤ 70 := by
  unfold V.mRes V.wRes
  split
  · split
    · simp
    · split
      · split
        · simp
        · rename_i h; simp only; omega
      · simp
  · simp

def msgPost (proc : Int) (T : ByteArray) (v : List V.It) (w : World) (e : Ending) (w' : World) : Prop :=
  (((V.mRes T v).1 = 0 ∧ e = .returned (.string (str (two8 proc ++ (V.mRes T v).2)))) ∨ (¬ (V.mRes T v).1 = 0 ∧ e = gaveUp (V.mRes T v).1 0)) ∧ Below w.heap.size w w'

set_option maxRecDepth 100000 in
set_option maxHeartbeats 2000000 in
theorem writeCall_none (k p : Int) (hk : 0 ≤ k ∧ k ≤ 2) (h : R.sigP k p = none) (X : Value) (w : World) (ht : Tab0 w) : Calls Tryz.prog 109 #[.int .i64 k, .int .i64 p, X] w fun e w' => e = gaveUp 16 0 ∧ Below w.heap.size w w' := by
  have HS := hide (types_none k p hk h w ht)
  go_enter Tryz.func109, Tryz.ntmps109
  go_wp2_with fail
  refine (unhide HS).mono ?_
  rintro e w1 ⟨rfl, hb1⟩
  go_wp2
  exact ⟨rfl, rfl, hb1⟩

theorem two_str (proc : Int) (l : List UInt8) (hl : l.length ≤ 1000) (w : World) : (Op.stringOp .add (str (two8 proc)) (str l)).run Tryz.prog w = .ok (.string (str (two8 proc ++ l))) w := by
  have e1 : str (two8 proc) ++ str l = str (two8 proc ++ l) := by
    apply ByteArray.ext
    simp
  rw [← e1]
  exact run_string_add_sum w _ _ (by rw [str_size, str_size]; simp [two8]; omega)

abbrev boxT (x0 x1 : Int) (a : Option Addr) (n c : Nat) : Obj := .cells #[.int .u8 x0, .int .i64 x1, .slice a n c] 153

set_option maxRecDepth 100000 in
set_option maxHeartbeats 2000000 in
theorem writeCall_some (k p : Int) (f t : ByteArray) (h : R.sigP k p = some (f, t)) (X : Value) (v : List V.It) (w : World) (ht : Tab0 w) (hI : V.Items w X v) (hn : v.length ≤ 9000000000000) : Calls Tryz.prog 109 #[.int .i64 k, .int .i64 p, X] w (msgPost p f v w) := by
  obtain ⟨_, hf, _, hp, _⟩ := sig_some h
  have HS := hide (types_some k p f t h w ht)
  have HA : Hid (∀ w', Calls Tryz.prog 186 #[.slice none 0 0, .int .i64 p] w' fun e w'' => ∃ O, e = .returned O ∧ Own w'' w'.heap.size O (two8 p) ∧ Below w'.heap.size w' w'') := fun w' => by
    refine (appendTwo_any w'.heap.size (.slice none 0 0) [] p w' (World.ownsRow_nil _ _ _ _) (Nat.le_refl _) (by simp) (by omega)).mono ?_
    rintro e w'' ⟨O, rfl, hown, hb⟩
    exact ⟨O, rfl, by simpa using hown, hb⟩
  have HW : Hid (∀ w' c0 c1 c2 S, V.Rep w' S (V.nx f) (f.size + 1) 0 c0 c1 c2 → Below w.heap.size w w' → Calls Tryz.prog 77 #[.agg #[c0, c1, c2], X] w' (wrPost f v w')) := fun w' c0 c1 c2 S hR hb => vwrite_any f hf S c0 c1 c2 X v w' hR (hI.below hb) hn
  have hbl := mRes_len f v
  have HSUM := hide (two_str p (V.mRes f v).2 (by omega))
  unfold msgPost
  unfold wrPost at HW
  generalize V.mRes f v = r at *
  clear hI hn ht
  go_enter Tryz.func109, Tryz.ntmps109
  go_wp2_with fail
  refine (unhide HS).mono ?_
  rintro e w1 ⟨⟨a0, a1, a2, b0, b1, b2, rfl, ⟨S1, hR1⟩, ⟨S2, hR2⟩⟩, hb1⟩
  obtain ⟨⟨x0, rfl⟩, ⟨x1, rfl⟩, ⟨ea, en, ec, rfl⟩⟩ := V.rep_shape hR1
  obtain ⟨⟨y0, rfl⟩, ⟨y1, rfl⟩, ⟨fa, fn, fc, rfl⟩⟩ := V.rep_shape hR2
  have HB1 : Hid (Below w.heap.size w ((w1.alloc (boxT x0 x1 ea en ec)).alloc (boxT y0 y1 fa fn fc))) := (hb1.alloc hb1.size _).alloc (by have := hb1.size; simp; omega) _
  have HBB : Hid (Below w1.heap.size w1 ((w1.alloc (boxT x0 x1 ea en ec)).alloc (boxT y0 y1 fa fn fc))) := ((Below.refl _ _).alloc (Nat.le_refl _) _).alloc (by simp) _
  have HR1 := hide (rep_below hR1 (unhide HBB))
  have HE : Hid (((w1.alloc (boxT x0 x1 ea en ec)).alloc (boxT y0 y1 fa fn fc)).heap[w1.heap.size]? = some (.cells #[.int .u8 x0, .int .i64 x1, .slice ea en ec] 153 (0, 0))) := (Below.heap_alloc _ _ _ (by simp)).trans (heap_alloc_new w1 _)
  clear hR1 hR2 hb1 HS
  go_wp2_with fail
  refine ((unhide HA) _).mono ?_
  rintro e w2 ⟨O, rfl, hown, hb2⟩
  obtain ⟨oa, on, oc, hO⟩ := row_shape hown
  subst hO
  have hcv := hown.conv
  have HB2 := hide ((unhide HB1).trans (hb2.mono (unhide HB1).size))
  have HR2 := hide (rep_below (unhide HR1) hb2)
  have hk := (hb2.block w1.heap.size (by simp; omega)).trans (unhide HE)
  have p0 : w2.cell? ⟨w1.heap.size, 0, none⟩ = some (.int .u8 x0) := cell_of hk 0 _ rfl
  have p1 : w2.cell? ⟨w1.heap.size, 1, none⟩ = some (.int .i64 x1) := cell_of hk 1 _ rfl
  have p2 : w2.cell? ⟨w1.heap.size, 2, none⟩ = some (.slice ea en ec) := cell_of hk 2 _ rfl
  have hl2 := lt_of_block hk
  have HC := hide ((unhide HW) w2 _ _ _ _ (unhide HR2) (unhide HB2))
  clear hown hb2 hk HE HR1 HB1 HBB
  generalize str (two8 p) = S2' at *
  go_wp2_with fail
  refine (unhide HC).mono ?_
  rintro e w3 ⟨⟨h0, rfl⟩ | ⟨h0, rfl⟩, hb3⟩
  · have HB3 := hide ((unhide HB2).trans (hb3.mono (unhide HB2).size))
    have hsum := (unhide HSUM) w3
    clear hb3
    have H0 := hide h0
    clear h0
    go_wp2
    go_returns
    exact ⟨Or.inl ⟨unhide H0, rfl⟩, unhide HB3⟩
  · have HB3 := hide ((unhide HB2).trans (hb3.mono (unhide HB2).size))
    have H0 := hide h0
    clear h0 hb3
    go_wp2
    exact ⟨rfl, Or.inr ⟨unhide H0, rfl⟩, unhide HB3⟩
end Go.Proofs.YtblomippkddgiaaGreatDoor
/-
  The messages of results, and reading a call's.
-/
namespace Go.Proofs.YtblomippkddgiaaGreatDoor
open Go.RowKit

set_option maxRecDepth 100000 in
set_option maxHeartbeats 2000000 in
theorem writeResult_some (k p : Int) (f t : ByteArray) (h : R.sigP k p = some (f, t)) (X : Value) (v : List V.It) (w : World) (ht : Tab0 w) (hI : V.Items w X v) (hn : v.length ≤ 9000000000000) : Calls Tryz.prog 136 #[.int .i64 k, .int .i64 p, X] w (wrPost t v w) := by
  obtain ⟨_, _, htt, _, _⟩ := sig_some h
  have HS := hide (types_some k p f t h w ht)
  have HW : Hid (∀ w' c0 c1 c2 S, V.Rep w' S (V.nx t) (t.size + 1) 0 c0 c1 c2 → Below w.heap.size w w' → Calls Tryz.prog 77 #[.agg #[c0, c1, c2], X] w' (wrPost t v w')) := fun w' c0 c1 c2 S hR hb => vwrite_any t htt S c0 c1 c2 X v w' hR (hI.below hb) hn
  unfold wrPost at HW ⊢
  generalize V.mRes t v = r at *
  clear hI hn ht
  go_enter Tryz.func136, Tryz.ntmps136
  go_wp2_with fail
  refine (unhide HS).mono ?_
  rintro e w1 ⟨⟨a0, a1, a2, b0, b1, b2, rfl, ⟨S1, hR1⟩, ⟨S2, hR2⟩⟩, hb1⟩
  obtain ⟨⟨x0, rfl⟩, ⟨x1, rfl⟩, ⟨ea, en, ec, rfl⟩⟩ := V.rep_shape hR1
  obtain ⟨⟨y0, rfl⟩, ⟨y1, rfl⟩, ⟨fa, fn, fc, rfl⟩⟩ := V.rep_shape hR2
  have HB1 : Hid (Below w.heap.size w ((w1.alloc (boxT x0 x1 ea en ec)).alloc (boxT y0 y1 fa fn fc))) := (hb1.alloc hb1.size _).alloc (by have := hb1.size; simp; omega) _
  have HBB : Hid (Below w1.heap.size w1 ((w1.alloc (boxT x0 x1 ea en ec)).alloc (boxT y0 y1 fa fn fc))) := ((Below.refl _ _).alloc (Nat.le_refl _) _).alloc (by simp) _
  have HR2 := hide (rep_below hR2 (unhide HBB))
  have HC := hide ((unhide HW) _ _ _ _ _ (unhide HR2) (unhide HB1))
  clear hR1 hR2 hb1 HS HBB
  go_wp2_with fail
  refine (unhide HC).mono ?_
  rintro e w3 ⟨⟨h0, rfl⟩ | ⟨h0, rfl⟩, hb3⟩
  · have HB3 := hide ((unhide HB1).trans (hb3.mono (unhide HB1).size))
    clear hb3
    have H0 := hide h0
    clear h0
    go_wp2
    go_returns
    exact ⟨Or.inl ⟨unhide H0, rfl⟩, unhide HB3⟩
  · have HB3 := hide ((unhide HB1).trans (hb3.mono (unhide HB1).size))
    have H0 := hide h0
    clear h0 hb3
    go_wp2
    exact ⟨rfl, Or.inr ⟨unhide H0, rfl⟩, unhide HB3⟩

/- value.Read of the bytes of a value -/
theorem vread_ok (T : ByteArray) (hT : (V.Pt.chk (V.nx T) T.size).1 = 0) (S : Nat → Prop) (c0 c1 c2 : Value) (l : List UInt8) (v : List V.It) (hu : V.uFull T l = (0, v)) (w : World) (hR : V.Rep w S (V.nx T) (T.size + 1) 0 c0 c1 c2) : Calls Tryz.prog 197 #[.agg #[c0, c1, c2], .string (str l)] w fun e w' => (∃ O, e = .returned O ∧ V.Row w' w.heap.size O v) ∧ Below w.heap.size w w' := by
  have hG := V.good_of hT
  refine (V.vread_any T S c0 c1 c2 l w hR hG.ok hG.dep).mono ?_
  rintro e w' ⟨h1, h2⟩
  have e1 : V.uRes (V.carryP V.rNum V.rTxt (V.nx T) (T.size + 1) 0 (l, [])) l = V.uFull T l := by unfold V.uFull; rw [if_pos hT]
  rw [e1, hu] at h1
  exact ⟨h1, h2⟩
set_option maxRecDepth 100000 in
set_option maxHeartbeats 2000000 in
theorem readResult_some (k p : Int) (f t : ByteArray) (h : R.sigP k p = some (f, t)) (l : List UInt8) (v : List V.It) (hu : V.uFull t l = (0, v)) (w : World) (ht : Tab0 w) : Calls Tryz.prog 203 #[.int .i64 k, .int .i64 p, .string (str l)] w fun e w' => (∃ O, e = .returned O ∧ V.Row w' w.heap.size O v) ∧ Below w.heap.size w w' := by
  obtain ⟨_, _, htt, _, _⟩ := sig_some h
  have HS := hide (types_some k p f t h w ht)
  have HW : Hid (∀ w' c0 c1 c2 S, V.Rep w' S (V.nx t) (t.size + 1) 0 c0 c1 c2 → Calls Tryz.prog 197 #[.agg #[c0, c1, c2], .string (str l)] w' fun e w'' => (∃ O, e = .returned O ∧ V.Row w'' w'.heap.size O v) ∧ Below w'.heap.size w' w'') := fun w' c0 c1 c2 S hR => vread_ok t htt S c0 c1 c2 l v hu w' hR
  generalize str l = SL at *
  clear ht hu
  go_enter Tryz.func203, Tryz.ntmps203
  go_wp2_with fail
  refine (unhide HS).mono ?_
  rintro e w1 ⟨⟨a0, a1, a2, b0, b1, b2, rfl, ⟨S1, hR1⟩, ⟨S2, hR2⟩⟩, hb1⟩
  obtain ⟨⟨x0, rfl⟩, ⟨x1, rfl⟩, ⟨ea, en, ec, rfl⟩⟩ := V.rep_shape hR1
  obtain ⟨⟨y0, rfl⟩, ⟨y1, rfl⟩, ⟨fa, fn, fc, rfl⟩⟩ := V.rep_shape hR2
  have HB1 : Hid (Below w.heap.size w ((w1.alloc (boxT x0 x1 ea en ec)).alloc (boxT y0 y1 fa fn fc))) := (hb1.alloc hb1.size _).alloc (by have := hb1.size; simp; omega) _
  have HBB : Hid (Below w1.heap.size w1 ((w1.alloc (boxT x0 x1 ea en ec)).alloc (boxT y0 y1 fa fn fc))) := ((Below.refl _ _).alloc (Nat.le_refl _) _).alloc (by simp) _
  have HR2 := hide (rep_below hR2 (unhide HBB))
  have HC := hide ((unhide HW) _ _ _ _ _ (unhide HR2))
  clear hR1 hR2 hb1 HS HBB
  go_wp2_with fail
  refine (unhide HC).mono ?_
  rintro e w3 ⟨⟨O, rfl, hrow⟩, hb3⟩
  have HB3 := hide ((unhide HB1).trans (hb3.mono (unhide HB1).size))
  obtain ⟨oa, on, oc, hsh⟩ := row_shape hrow
  subst hsh
  have HRW := hide (V.row_base hrow (unhide HB1).size)
  clear hb3 hrow
  go_wp2
  go_ret
  exact ⟨⟨_, rfl, unhide HRW⟩, unhide HB3⟩

/- a wire.Reader -/
set_option maxRecDepth 100000 in
set_option maxHeartbeats 1000000 in
theorem take_c (b : Nat) (l : List UInt8) (n : Nat) (w : World) (h1 : w.cell? ⟨b, 0, none⟩ = some (.string (str l))) (h2 : w.frozen? ⟨b, 0, none⟩ = false) (hn : n ≤ l.length) (hl : l.length ≤ 1000) :
    Calls Tryz.prog 190 #[ptr b, .int .i64 n] w fun e w' => e = .returned (.string (str (l.take n))) ∧ w' = w.setCell ⟨b, 0, none⟩ (.string (str (l.drop n))) := by
  have hsz := str_size l
  have e1 : (str l).extract 0 n = str (l.take n) := by rw [str_extract]; simp
  have e2 : (str l).extract n (str l).size = str (l.drop n) := by
    rw [str_extract, str_size, List.take_of_length_le (by rw [List.length_drop]; omega)]
  generalize hS : str l = S at *
  generalize hA : str (l.take n) = A at *
  generalize hB : str (l.drop n) = B at *
  clear hS hA hB
  generalize l.length = m at *
  subst hsz
  have hlt : ¬ ((S.size : Int) < (n : Int)) := by omega
  go_enter Tryz.func190, Tryz.ntmps190
  go_wp2
  go_ret
  exact ⟨rfl, rfl⟩
set_option maxRecDepth 100000 in
set_option maxHeartbeats 1000000 in
theorem byte_c (b : Nat) (c : UInt8) (r : List UInt8) (w : World) (h1 : w.cell? ⟨b, 0, none⟩ = some (.string (str (c :: r)))) (h2 : w.frozen? ⟨b, 0, none⟩ = false) (hl : r.length ≤ 900) : Calls Tryz.prog 113 #[ptr b] w fun e w' => e = .returned (.int .i64 (c.toNat : Int)) ∧ w' = w.setCell ⟨b, 0, none⟩ (.string (str r)) := by
  have H := hide (take_c b (c :: r) 1 w h1 h2 (by simp) (by simp; omega))
  rw [show (c :: r).take 1 = [c] from rfl, show (c :: r).drop 1 = r from rfl] at H
  have i0 : (str [c])[0]'(by rw [str_size]; simp) = c := rfl
  have hc := c.toNat_lt
  have hw : wrap64 (c.toNat : Int) = (c.toNat : Int) := by unfold wrap64; omega
  clear h1 h2
  go_enter Tryz.func113, Tryz.ntmps113
  go_wp2_with fail
  refine (unhide H).mono ?_
  rintro e w1 ⟨rfl, rfl⟩
  go_wp2
  go_ret
  exact ⟨rfl, rfl⟩
set_option maxRecDepth 100000 in
set_option maxHeartbeats 1000000 in
theorem two_c (b : Nat) (a c : UInt8) (r : List UInt8) (w : World) (h1 : w.cell? ⟨b, 0, none⟩ = some (.string (str (a :: c :: r)))) (h2 : w.frozen? ⟨b, 0, none⟩ = false) (hl : r.length ≤ 500) :
    Calls Tryz.prog 114 #[ptr b] w fun e w' => e = .returned (.int .i64 (V.num2 a c)) ∧ w' = (w.setCell ⟨b, 0, none⟩ (.string (str (c :: r)))).setCell ⟨b, 0, none⟩ (.string (str r)) := by
  have H := hide (byte_c b a (c :: r) w h1 h2 (by simp; omega))
  have hlb := lt_of_cell h1
  have H2 := hide (byte_c b c r (w.setCell ⟨b, 0, none⟩ (.string (str (c :: r)))) (by simp [go_sem, h1]) (by simp [go_sem, h2]) (by omega))
  have ha := a.toNat_lt
  have hc := c.toNat_lt
  have hw : wrap64 ((a.toNat : Int) * 256) = (a.toNat : Int) * 256 := by unfold wrap64; omega
  have ho : bits .or .i64 ((a.toNat : Int) * 256) (c.toNat : Int) = ((V.num2 a c : Nat) : Int) := by
    have := V.or_two a.toNat c.toNat (by omega) (by omega)
    rw [show ((a.toNat * 256 : Nat) : Int) = (a.toNat : Int) * 256 by omega] at this
    exact this
  clear h1 h2
  generalize str (c :: r) = S1 at *
  generalize str r = S2 at *
  go_enter Tryz.func114, Tryz.ntmps114
  go_wp2_with fail
  refine (unhide H).mono ?_
  rintro e w1 ⟨rfl, rfl⟩
  go_wp2_with fail
  refine (unhide H2).mono ?_
  rintro e w2 ⟨rfl, rfl⟩
  go_wp2
  go_ret
  exact ⟨rfl, rfl⟩

set_option maxRecDepth 100000 in
set_option maxHeartbeats 2000000 in
theorem readCall_some (k p : Int) (f t : ByteArray) (h : R.sigP k p = some (f, t)) (l : List UInt8) (hl : l.length ≤ 500) (v : List V.It) (hu : V.uFull f l = (0, v)) (w : World) (ht : Tab0 w) : Calls Tryz.prog 133 #[.int .i64 k, .string (str (two8 p ++ l))] w fun e w' => (∃ O, e = .returned (.tuple #[.int .i64 p, O]) ∧ V.Row w' w.heap.size O v) ∧ Below w.heap.size w w' := by
  obtain ⟨_, hf, _, hp, _⟩ := sig_some h
  obtain ⟨BX, hBX⟩ : ∃ BX, w.alloc (.cells #[.string (str (two8 p ++ l)), .int .i64 6] 125) = BX := ⟨_, rfl⟩
  have hb0 : Below w.heap.size w BX := by
    rw [← hBX]
    exact (Below.refl _ _).alloc (Nat.le_refl _) _
  have hbx : BX.heap[w.heap.size]? = some (.cells #[.string (str (two8 p ++ l)), .int .i64 6] 125 (0, 0)) := by
    rw [← hBX]
    exact heap_alloc_new w _
  have hn2 : ((V.num2 (b8 (p / 256)) (b8 (p % 256)) : Nat) : Int) = p := by
    have h1 := b8_val (n := p / 256) (by omega) (by omega)
    have h2 := b8_val (n := p % 256) (by omega) (by omega)
    unfold V.num2
    omega
  have H2 := hide (two_c w.heap.size (b8 (p / 256)) (b8 (p % 256)) l BX (cell_of hbx 0 _ rfl) (open_list hbx) hl)
  rw [hn2] at H2
  obtain ⟨W, hW⟩ : ∃ W, W = (BX.setCell ⟨w.heap.size, 0, none⟩ (.string (str (b8 (p % 256) :: l)))).setCell ⟨w.heap.size, 0, none⟩ (.string (str l)) := ⟨_, rfl⟩
  rw [← hW] at H2
  have hbW : Below w.heap.size w W := by
    rw [hW]
    exact (hb0.setCell (by simp) _).setCell (by simp) _
  have hWx : W.heap[w.heap.size]? = some (.cells #[.string (str l), .int .i64 6] 125 (0, 0)) := by
    rw [hW]
    have e1 := heap_store (cs := [.string (str (two8 p ++ l)), .int .i64 6]) (off := 0) hbx (.string (str (b8 (p % 256) :: l)))
    exact heap_store (cs := [.string (str (b8 (p % 256) :: l)), .int .i64 6]) (off := 0) e1 (.string (str l))
  have HS := hide (types_some k p f t h W (ht.below hbW))
  have HW : Hid (∀ w' c0 c1 c2 S, V.Rep w' S (V.nx f) (f.size + 1) 0 c0 c1 c2 → Calls Tryz.prog 197 #[.agg #[c0, c1, c2], .string (str l)] w' fun e w'' => (∃ O, e = .returned O ∧ V.Row w'' w'.heap.size O v) ∧ Below w'.heap.size w' w'') := fun w' c0 c1 c2 S hR => vread_ok f hf S c0 c1 c2 l v hu w' hR
  have HBX := hide hBX
  have HBW := hide hbW
  have HWX := hide hWx
  clear hW hbW hWx hb0 hbx ht hu hBX
  generalize str l = SL at *
  generalize str (two8 p ++ l) = SM at *
  go_enter Tryz.func133, Tryz.ntmps133
  go_wp2_with fail
  rw [unhide HBX]
  refine (unhide H2).mono ?_
  rintro e w0 ⟨rfl, hw0⟩
  rw [hw0]
  clear hw0
  go_wp2_with fail
  refine (unhide HS).mono ?_
  rintro e w1 ⟨⟨a0, a1, a2, b0, b1, b2, rfl, ⟨S1, hR1⟩, ⟨S2, hR2⟩⟩, hb1⟩
  obtain ⟨⟨x0, rfl⟩, ⟨x1, rfl⟩, ⟨ea, en, ec, rfl⟩⟩ := V.rep_shape hR1
  obtain ⟨⟨y0, rfl⟩, ⟨y1, rfl⟩, ⟨fa, fn, fc, rfl⟩⟩ := V.rep_shape hR2
  have hw1 : Below w.heap.size w w1 := (unhide HBW).trans (hb1.mono (unhide HBW).size)
  have HB1 : Hid (Below w.heap.size w ((w1.alloc (boxT x0 x1 ea en ec)).alloc (boxT y0 y1 fa fn fc))) := (hw1.alloc hw1.size _).alloc (by have := hw1.size; simp; omega) _
  have HBB : Hid (Below w1.heap.size w1 ((w1.alloc (boxT x0 x1 ea en ec)).alloc (boxT y0 y1 fa fn fc))) := ((Below.refl _ _).alloc (Nat.le_refl _) _).alloc (by simp) _
  have HR1 := hide (rep_below hR1 (unhide HBB))
  have HC := hide ((unhide HW) _ _ _ _ _ (unhide HR1))
  have k1 := (hb1.block w.heap.size (lt_of_block (unhide HWX))).trans (unhide HWX)
  have c0 : w1.cell? ⟨w.heap.size, 0, none⟩ = some (.string SL) := cell_of k1 0 _ rfl
  have hl1 := lt_of_block k1
  clear hR1 hR2 hb1 HS HBB hw1 k1
  go_wp2_with fail
  refine (unhide HC).mono ?_
  rintro e w3 ⟨⟨O, rfl, hrow⟩, hb3⟩
  have HB3 := hide ((unhide HB1).trans (hb3.mono (unhide HB1).size))
  obtain ⟨oa, on, oc, hsh⟩ := row_shape hrow
  subst hsh
  have HRW := hide (V.row_base hrow (unhide HB1).size)
  clear hb3 hrow
  go_wp2
  go_ret2
  exact ⟨⟨_, rfl, unhide HRW⟩, unhide HB3⟩
end Go.Proofs.YtblomippkddgiaaGreatDoor
/-
  The arguments of the five procedures are short.
-/
namespace Go.Proofs.YtblomippkddgiaaGreatDoor.V

/- what a value comes to, of a type that is one -/
def eaten (s : ByteArray) (v : List It) : Option (List UInt8) := match eat (nx s) (s.size + 1) 0 v with
  | some (ks, []) => some (bytesOf ks v)
  | _ => none
/- what is written is what is eaten, where it is not too long -/
theorem eaten_mRes (s : ByteArray) (hc : (Pt.chk (nx s) s.size).1 = 0) (v : List It) (hb : ∀ out, eaten s v = some out → out.length ≤ 70) : (match eaten s v with | some out => mRes s v = (0, out) | none => ¬ (mRes s v).1 = 0) := by
  have hmr : mRes s v = wRes (eat (nx s) (s.size + 1) 0 v) v := by simp [mRes, hc]
  rw [hmr]
  unfold eaten at hb ⊢
  cases he : eat (nx s) (s.size + 1) 0 v with
  | none => simp [wRes]
  | some x =>
    obtain ⟨ks, r⟩ := x
    rw [he] at hb
    cases r with
    | cons y r => simp [wRes]
    | nil =>
      have := hb _ rfl
      simp [wRes, this]
theorem eat_leaf {g : Nat → Nat} {f p : Nat} {v r : List It} {ks : List Bool} (h : eat g (f + 1) p v = some (ks, r)) (h97 : g p ≠ 97) (h114 : g p ≠ 114) (h115 : g p ≠ 115) (h117 : g p ≠ 117) (h113 : g p ≠ 113) : ks = [false] := by
  unfold eat headOf at h
  rw [if_neg h97, if_neg h114] at h
  cases v with
  | nil => cases h
  | cons x v =>
    simp only at h
    rw [if_neg h115] at h
    split at h
    · cases h
    · rename_i k0 qs r0 hh
      split at hh
      · cases hh
        simp only [seqE, joinE] at h
        cases h
        rfl
      · cases hh
theorem eat_str {g : Nat → Nat} {f p : Nat} {v r : List It} {ks : List Bool} (h : eat g (f + 1) p v = some (ks, r)) (h115 : g p = 115) : ks = [true] ∧ ∃ x, v = x :: r ∧ x.2.size ≤ 14 := by
  unfold eat headOf at h
  rw [if_neg (by omega), if_neg (by omega)] at h
  cases v with
  | nil => cases h
  | cons x v =>
    simp only at h
    rw [if_pos h115] at h
    split at h
    · cases h
    · rename_i k0 qs r0 hh
      split at hh
      · rename_i hx
        cases hh
        simp only [seqE, joinE] at h
        cases h
        exact ⟨rfl, x, rfl, hx.2⟩
      · cases hh
theorem seq_leaf {E : Nat → List It → Eaten} {q : Nat} (hE : ∀ v ks r, E q v = some (ks, r) → ks = [false]) : ∀ (k : Nat) (v r : List It) (ks : List Bool), seqE E (List.replicate k q) v = some (ks, r) → ks = List.replicate k false
  | 0, v, r, ks, h => by
    simp only [List.replicate_zero, seqE] at h
    cases h
    rfl
  | k + 1, v, r, ks, h => by
    rw [List.replicate_succ, seqE] at h
    cases he : E q v with
    | none => rw [he] at h; cases h
    | some x =>
      obtain ⟨k1, r1⟩ := x
      rw [he] at h
      simp only at h
      cases hs : seqE E (List.replicate k q) r1 with
      | none => rw [hs] at h; cases h
      | some y =>
        obtain ⟨k2, r2⟩ := y
        rw [hs] at h
        simp only [joinE] at h
        cases h
        rw [hE v k1 r1 he, seq_leaf hE k r1 _ _ hs, List.replicate_succ]
        rfl
/- numbers alone: two bytes each -/
theorem bytes_nums : ∀ (k : Nat) (v : List It), (bytesOf (List.replicate k false) v).length ≤ 2 * k
  | 0, v => by simp [bytesOf]
  | k + 1, [] => by simp [List.replicate_succ, bytesOf]
  | k + 1, x :: v => by
    have := bytes_nums k v
    rw [List.replicate_succ, bytesOf, List.length_append]
    simp only [enc8, two8]
    simp
    omega
theorem eaten_leaf {s : ByteArray} {v : List It} {out : List UInt8} (h : eaten s v = some out) (h97 : nx s 0 ≠ 97) (h114 : nx s 0 ≠ 114) (h115 : nx s 0 ≠ 115) (h117 : nx s 0 ≠ 117) (h113 : nx s 0 ≠ 113) : out.length ≤ 70 := by
  unfold eaten at h
  split at h
  · rename_i ks he
    cases h
    rw [eat_leaf he h97 h114 h115 h117 h113]
    have := bytes_nums 1 v
    simp only [List.replicate_one] at this
    omega
  · cases h
theorem eaten_str {s : ByteArray} {v : List It} {out : List UInt8} (h : eaten s v = some out) (h115 : nx s 0 = 115) : out.length ≤ 70 := by
  unfold eaten at h
  split at h
  · rename_i ks he
    cases h
    obtain ⟨h1, x, h2, h3⟩ := eat_str he h115
    rw [h1, h2]
    have e0 : x.2.data.toList.length = x.2.size := Array.length_toList
    have e1 : (if x.2.size % 2 = 1 then [(0 : UInt8)] else []).length ≤ 1 := by split <;> simp
    have e2 : (bytesOf [true] (x :: [])).length = (two8 x.2.size).length + (x.2.data.toList.length + (if x.2.size % 2 = 1 then [(0 : UInt8)] else []).length) := by
      simp only [bytesOf, enc8, if_true, List.append_nil, List.length_append]
    have e3 : (two8 x.2.size).length = 2 := rfl
    omega
  · cases h
/- r(e3q3i) -/
def deskT : ByteArray := { data := #[114, 40, 101, 51, 113, 51, 105, 41] }
theorem desk_kids : Pt.kids (nx deskT) 8 0 = [2, 4] := by decide +kernel
theorem desk_at : nx deskT 0 = 114 ∧ nx deskT 2 = 101 ∧ nx deskT 4 = 113 ∧ nx deskT 6 = 105 := by decide +kernel
theorem desk_hi : hiOf (nx deskT) 7 4 = 3 := by decide +kernel
theorem eaten_desk {v : List It} {out : List UInt8} (h : eaten deskT v = some out) : out.length ≤ 70 := by
  unfold eaten at h
  obtain ⟨a0, a2, a4, a6⟩ := desk_at
  split at h
  · rename_i ks he
    cases h
    rw [show deskT.size + 1 = 8 + 1 from rfl] at he
    unfold eat headOf at he
    rw [if_neg (by omega), if_pos a0, desk_kids] at he
    simp only [seqE] at he
    cases h1 : eat (nx deskT) 8 2 v with
    | none => rw [h1] at he; cases he
    | some x1 =>
      obtain ⟨k1, r1⟩ := x1
      rw [h1] at he
      simp only at he
      have e1 := eat_leaf (f := 7) h1 (by omega) (by omega) (by omega) (by omega) (by omega)
      cases h2 : eat (nx deskT) 8 4 r1 with
      | none => rw [h2] at he; cases he
      | some x2 =>
        obtain ⟨k2, r2⟩ := x2
        rw [h2] at he
        simp only [joinE] at he
        cases he
        have e2 : ∃ n, n ≤ 4 ∧ k2 = List.replicate n false := by
          rw [show (8 : Nat) = 7 + 1 from rfl] at h2
          unfold eat headOf at h2
          rw [if_neg (by omega), if_neg (by omega)] at h2
          cases r1 with
          | nil => cases h2
          | cons x r1 =>
            simp only at h2
            rw [if_neg (show ¬ nx deskT 4 = 115 by omega)] at h2
            split at h2
            · cases h2
            · rename_i k0 qs r0 hh
              split at hh
              · rename_i hx
                rw [if_neg (by omega)] at hh
                cases hh
                cases hs : seqE (eat (nx deskT) 7) (List.replicate x.1.toNat 6) r1 with
                | none => rw [hs] at h2; cases h2
                | some y =>
                  obtain ⟨k3, r3⟩ := y
                  rw [hs] at h2
                  simp only [joinE] at h2
                  cases h2
                  have e3 := seq_leaf (E := eat (nx deskT) 7) (q := 6) (fun v ks r hq => eat_leaf (f := 6) hq (by omega) (by omega) (by omega) (by omega) (by omega)) x.1.toNat r1 _ _ hs
                  have hhi := hx.2.2
                  rw [desk_hi] at hhi
                  exact ⟨x.1.toNat + 1, by omega, by rw [e3, List.replicate_succ]; rfl⟩
              · cases hh
        obtain ⟨n, hn, e2⟩ := e2
        subst e1 e2
        have := bytes_nums (n + 1) v
        rw [List.replicate_succ] at this
        simp only [List.append_nil, List.singleton_append, List.nil_append]
        omega
  · cases h
theorem mRes_four {s : ByteArray} {v : List It} (hc : (Pt.chk (nx s) s.size).1 = 0) (hb : ∀ out, eaten s v = some out → out.length ≤ 70) (h : ¬ (mRes s v).1 = 0) : (mRes s v).1 = 4 := by
  have hm : mRes s v = wRes (eat (nx s) (s.size + 1) 0 v) v := by unfold mRes; rw [if_pos hc]
  rw [hm] at h ⊢
  unfold eaten at hb
  cases he : eat (nx s) (s.size + 1) 0 v with
  | none => rfl
  | some x =>
    obtain ⟨ks, r⟩ := x
    rw [he] at h hb
    cases r with
    | nil =>
      have := hb _ rfl
      have hn : ¬ 70 < (bytesOf ks v).length := by omega
      simp [wRes, hn] at h
    | cons y r => rfl
end Go.Proofs.YtblomippkddgiaaGreatDoor.V
/-
  Maps of the landed code: looking up, laying down, striking.
-/
namespace Go.Proofs.YtblomippkddgiaaGreatDoor
open Go.RowKit Go.Maps

theorem zero3 (w : World) : (zeroValue 3).run Tryz.prog w = .ok (.int .i64 0) w := by kernel_rfl
theorem wf64 {u : Int} (h : -9223372036854775808 ≤ u ∧ u ≤ 9223372036854775807) : (Lit.int .i64 u).wf = true := by
  simp [Lit.wf, IntKind.min, IntKind.max, IntKind.bits, IntKind.signed]
  omega

section
variable {α : Type} {w : World} {k t : TypeId} {b n : Nat} {lit : α → Lit} {g : α → Option Int}

theorem Mp.look (h : Mp w k b lit g n) (K : Keyed Tryz.prog k) (ht : Tryz.prog.underlying t = some (.map k 3)) {key : Value} {a : α} (hkey : keyOf Tryz.prog k key = some (lit a)) : (Instr.lookup t (.map (some b)) key true).run Tryz.prog w = .ok (.tuple #[.int .i64 ((g a).getD 0), .bool (g a).isSome]) w := by
  obtain ⟨D, h1, h2, h3⟩ := h
  obtain ⟨v, ps, hrun, hv⟩ := h1.look_ok K ht (zero3 w) (plainElem_int Tryz.underlying3 (wf64 (by omega))) hkey
  obtain ⟨c, rfl, hc, _⟩ := plainElem_int_inv Tryz.underlying3 hv
  simp only [Prod.mk.injEq] at hc
  rw [hrun, (h3 a).1]
  cases hg : g a with
  | some x =>
    have := (h3 a).2 x hg
    rw [hc.1] at this
    cases this
    rfl
  | none =>
    have hn := (h3 a).1
    rw [hg] at hn
    have := atKey_of_not_has hn (.lit (.int .i64 0))
    rw [hc.1] at this
    cases this
    rfl

theorem Mp.put (h : Mp w k b lit g n) (K : Keyed Tryz.prog k) (ht : Tryz.prog.underlying t = some (.map k 3)) (hn : n < 1000) {key : Value} {a : α} (hkey : keyOf Tryz.prog k key = some (lit a)) (hl : ∀ x y, lit x = lit y → x = y) (hil : WideAt.IsKeyLit (lit a)) {v : Int} (hv : -9223372036854775808 ≤ v ∧ v ≤ 9223372036854775807) (g' : α → Option Int) (hg' : ∀ x, (x = a → g' x = some v) ∧ (¬ x = a → g' x = g x)) :
    ∃ w', (Instr.mapUpdate t (.map (some b)) key (.int .i64 v)).run Tryz.prog w = .ok () w' ∧ Mp w' k b lit g' (if (g a).isSome then n else n + 1) ∧ w.mapTurned w' b := by
  obtain ⟨D, h1, h2, h3⟩ := h
  obtain ⟨w', hrun, h4, h5⟩ := h1.store K ht (by unfold maxLen; omega) hkey (plainElem_int Tryz.underlying3 (wf64 hv))
  have hs := size_put (k := lit a) (h1.tidy K) (.lit (.int .i64 v))
  rw [(h3 a).1, h2] at hs
  refine ⟨w', hrun, ⟨_, ?_, hs, fun x => ?_⟩, h5⟩
  · obtain ⟨es, cl, q1, q2, q3, q4⟩ := h4
    refine ⟨es, cl, q1, q2, ?_, q4⟩
    rw [← hs, q4]
    simp [Maps.size, length_sorted]
  · by_cases hx : x = a
    · subst hx
      rw [(hg' x).1 rfl]
      refine ⟨has_put_same h1.isMap hil _, fun y hy => ?_⟩
      cases hy
      exact atKey_put_same h1.isMap hil _ _
    · have hne : lit x ≠ lit a := fun e => hx (hl _ _ e)
      rw [(hg' x).2 hx, has_put_other hne]
      refine ⟨(h3 x).1, fun y hy => ?_⟩
      rw [atKey_put_other hne]
      exact (h3 x).2 y hy

theorem Mp.len (h : Mp w k b lit g n) (ht : Tryz.prog.underlying t = some (.map k 3)) (ty : TypeId) : (Builtin.len_ #[t] ty #[.map (some b)]).run Tryz.prog w = .ok (.int .i64 (n : Int)) w := by
  obtain ⟨D, h1, h2, h3⟩ := h
  rw [h1.len ht ty, h2]
end

theorem Mp.made (w : World) (k : TypeId) {α : Type} (lit : α → Lit) : Mp (w.alloc (.map #[] 0)) k w.heap.size lit (fun _ => none) 0 :=
  ⟨.map [], World.ownsMap_made w _ _ _, rfl, fun _ => ⟨rfl, fun _ h => by cases h⟩⟩

set_option maxRecDepth 100000 in
theorem look_int {w : World} {b n : Nat} {g : Int → Option Int} (h : Mp w 3 b keyI g n) {u : Int} (hu : -9223372036854775808 ≤ u ∧ u ≤ 9223372036854775807) : (Instr.lookup 131 (.map (some b)) (.int .i64 u) true).run Tryz.prog w = .ok (.tuple #[.int .i64 ((g u).getD 0), .bool (g u).isSome]) w :=
  h.look (int_keyed Tryz.underlying3) Tryz.underlying131 (keyOf_int_mk Tryz.underlying3 (wf64 hu))
set_option maxRecDepth 100000 in
theorem look_str {w : World} {b n : Nat} {g : List UInt8 → Option Int} (h : Mp w 9 b keyS g n) {s : List UInt8} (hs : s.length ≤ maxLen) : (Instr.lookup 159 (.map (some b)) (.string (str s)) true).run Tryz.prog w = .ok (.tuple #[.int .i64 ((g s).getD 0), .bool (g s).isSome]) w :=
  h.look (string_keyed Tryz.underlying9) Tryz.underlying159 (by rw [Go.WideMaps.keyOf_string_mk Tryz.underlying9 (by rw [str_size]; exact hs)])
set_option maxRecDepth 100000 in
theorem put_int {w : World} {b n : Nat} {g : Int → Option Int} (h : Mp w 3 b keyI g n) (hn : n < 1000) {u v : Int} (hu : -9223372036854775808 ≤ u ∧ u ≤ 9223372036854775807) (hv : -9223372036854775808 ≤ v ∧ v ≤ 9223372036854775807) (g' : Int → Option Int) (hg' : ∀ x, (x = u → g' x = some v) ∧ (¬ x = u → g' x = g x)) :
    ∃ w', (Instr.mapUpdate 131 (.map (some b)) (.int .i64 u) (.int .i64 v)).run Tryz.prog w = .ok () w' ∧ Mp w' 3 b keyI g' (if (g u).isSome then n else n + 1) ∧ w.mapTurned w' b :=
  h.put (int_keyed Tryz.underlying3) Tryz.underlying131 hn (keyOf_int_mk Tryz.underlying3 (wf64 hu)) (fun x y e => by cases e; rfl) trivial hv g' hg'
set_option maxRecDepth 100000 in
theorem put_str {w : World} {b n : Nat} {g : List UInt8 → Option Int} (h : Mp w 9 b keyS g n) (hn : n < 1000) {s : List UInt8} (hs : s.length ≤ maxLen) {v : Int} (hv : -9223372036854775808 ≤ v ∧ v ≤ 9223372036854775807) (g' : List UInt8 → Option Int) (hg' : ∀ x, (x = s → g' x = some v) ∧ (¬ x = s → g' x = g x)) :
    ∃ w', (Instr.mapUpdate 159 (.map (some b)) (.string (str s)) (.int .i64 v)).run Tryz.prog w = .ok () w' ∧ Mp w' 9 b keyS g' (if (g s).isSome then n else n + 1) ∧ w.mapTurned w' b :=
  h.put (string_keyed Tryz.underlying9) Tryz.underlying159 hn (by rw [Go.WideMaps.keyOf_string_mk Tryz.underlying9 (by rw [str_size]; exact hs)]) (fun x y e => by cases e; rfl) trivial hv g' hg'
theorem turned_keeps {w w' : World} {b : Nat} (h : w.mapTurned w' b) : Keeps (fun k => k = b) w w' := by
  have hg := h.grown
  exact ⟨hg.os, hg.tape, hg.output, hg.size, fun k hk hne => hg.block k hk (fun e => hne (by cases e; rfl))⟩
end Go.Proofs.YtblomippkddgiaaGreatDoor
