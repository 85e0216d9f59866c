/-
  Joined: SigT Msg Msg2.
-/
import Derived.Test.YtblomippkddgiaaGreatDoorJ42
import Derived.Test.YtblomippkddgiaaGreatDoorJ43
import Derived.Test.YtblomippkddgiaaGreatDoorJ27
import Derived.Test.YtblomippkddgiaaGreatDoorJ28
/-
  The types of a procedure, read.
-/
namespace Go.Proofs.YtblomippkddgiaaGreatDoor
open Go.RowKit

def Tab0 (w : World) : Prop := ∃ tt fr, w.heap[0]? = some (.cells tabCells tt fr)
theorem Tab0.below {w w' : World} (h : Tab0 w) (hb : Below w.heap.size w w') : Tab0 w' := by
  obtain ⟨tt, fr, hg⟩ := h
  exact ⟨tt, fr, heap0 hg hb⟩
theorem Tab0.keeps {F : Foot} {w w' : World} (h : Tab0 w) (hk : Keeps F w w') (h0 : ¬ F 0) : Tab0 w' := by
  obtain ⟨tt, fr, hg⟩ := h
  exact ⟨tt, fr, hk.at hg h0⟩

/- what a procedure's types are, by the document -/
theorem sig_some {k p : Int} {f t : ByteArray} (h : R.sigP k p = some (f, t)) : sgTuple k p = .tuple #[.string f, .string t, .int .i64 0] ∧ (V.Pt.chk (V.nx f) f.size).1 = 0 ∧ (V.Pt.chk (V.nx t) t.size).1 = 0 ∧ (p = 0 ∨ p = 1) ∧ (0 ≤ k ∧ k ≤ 2) := by
  unfold R.sigP at h
  split at h
  · rename_i q; obtain ⟨rfl, rfl⟩ := q; cases h; exact ⟨rfl, by decide +kernel, by decide +kernel, by omega, by omega⟩
  · split at h
    · rename_i q; obtain ⟨rfl, rfl⟩ := q; cases h; exact ⟨rfl, by decide +kernel, by decide +kernel, by omega, by omega⟩
    · split at h
      · rename_i q; obtain ⟨rfl, rfl⟩ := q; cases h; exact ⟨rfl, by decide +kernel, by decide +kernel, by omega, by omega⟩
      · split at h
        · rename_i q; obtain ⟨rfl, rfl⟩ := q; cases h; exact ⟨rfl, by decide +kernel, by decide +kernel, by omega, by omega⟩
        · split at h
          · rename_i q; obtain ⟨rfl, rfl⟩ := q; cases h; exact ⟨rfl, by decide +kernel, by decide +kernel, by omega, by omega⟩
          · cases h
theorem sig_none {k p : Int} (hk : 0 ≤ k ∧ k ≤ 2) (h : R.sigP k p = none) : sgTuple k p = .tuple #[.string ⟨#[]⟩, .string ⟨#[]⟩, .int .i64 16] := by
  obtain rfl | rfl | rfl : k = 0 ∨ k = 1 ∨ k = 2 := by omega
  · have h0 : ¬ p = 0 := fun e => by subst e; simp [R.sigP] at h
    have h1 : ¬ p = 1 := fun e => by subst e; simp [R.sigP] at h
    exact tup_0 p h0 h1
  · have h0 : ¬ p = 0 := fun e => by subst e; simp [R.sigP] at h
    have h1 : ¬ p = 1 := fun e => by subst e; simp [R.sigP] at h
    exact tup_1 p h0 h1
  · have h0 : ¬ p = 0 := fun e => by subst e; simp [R.sigP] at h
    exact tup_2 p h0

set_option maxRecDepth 100000 in
set_option maxHeartbeats 2000000 in
theorem types_none (k p : Int) (hk : 0 ≤ k ∧ k ≤ 2) (h : R.sigP k p = none) (w : World) (ht : Tab0 w) : Calls Tryz.prog 185 #[.int .i64 k, .int .i64 p] w fun e w' => e = gaveUp 16 0 ∧ Below w.heap.size w w' := by
  have HS : Hid (∀ w', Below w.heap.size w w' → Calls Tryz.prog 75 #[.int .i64 k, .int .i64 p] w' fun e w'' => e = .returned (.tuple #[.string ⟨#[]⟩, .string ⟨#[]⟩, .int .i64 16]) ∧ Below w'.heap.size w' w'') := fun w' hb => by
    obtain ⟨tt, fr, hg⟩ := ht.below hb
    refine (sig_any k p w' tt fr hg).mono ?_
    rintro e w'' ⟨rfl, q⟩
    exact ⟨by rw [sig_none hk h], q⟩
  have HB : Hid (Below w.heap.size w ((w.alloc (.cells #[.int .u8 0, .int .i64 0, .slice none 0 0] 153)).alloc (.cells #[.int .u8 0, .int .i64 0, .slice none 0 0] 153))) := ((Below.refl _ _).alloc (Nat.le_refl _) _).alloc (by simp) _
  go_enter Tryz.func185, Tryz.ntmps185
  go_wp2_with fail
  refine ((unhide HS) _ (unhide HB)).mono ?_
  rintro e w1 ⟨rfl, hb1⟩
  have HB1 := hide ((unhide HB).trans (hb1.mono (unhide HB).size))
  clear hb1
  go_wp2
  exact ⟨rfl, rfl, unhide HB1⟩

set_option maxRecDepth 100000 in
set_option maxHeartbeats 2000000 in
theorem types_some (k p : Int) (f t : ByteArray) (h : R.sigP k p = some (f, t)) (w : World) (ht : Tab0 w) : Calls Tryz.prog 185 #[.int .i64 k, .int .i64 p] w fun e w' => (∃ a0 a1 a2 b0 b1 b2, e = .returned (.tuple #[.agg #[a0, a1, a2], .agg #[b0, b1, b2]]) ∧ (∃ S, V.Rep w' S (V.nx f) (f.size + 1) 0 a0 a1 a2) ∧ (∃ S, V.Rep w' S (V.nx t) (t.size + 1) 0 b0 b1 b2)) ∧ Below w.heap.size w w' := by
  obtain ⟨hs, hf, htt, _, _⟩ := sig_some h
  have HS : Hid (∀ w', Below w.heap.size w w' → Calls Tryz.prog 75 #[.int .i64 k, .int .i64 p] w' fun e w'' => e = .returned (.tuple #[.string f, .string t, .int .i64 0]) ∧ Below w'.heap.size w' w'') := fun w' hb => by
    obtain ⟨tt, fr, hg⟩ := ht.below hb
    refine (sig_any k p w' tt fr hg).mono ?_
    rintro e w'' ⟨rfl, q⟩
    exact ⟨by rw [hs], q⟩
  have HR : Hid (∀ T w', (V.Pt.chk (V.nx T) T.size).1 = 0 → Calls Tryz.prog 78 #[.string T] w' fun e w'' => ∃ c0 c1 c2, e = .returned (.agg #[c0, c1, c2]) ∧ V.Rep w'' (fun k => w'.heap.size ≤ k) (V.nx T) (T.size + 1) 0 c0 c1 c2 ∧ Below w'.heap.size w' w'') := fun T w' hT => by
    refine (V.shape_any T w').mono ?_
    rintro e w'' ⟨h1, h2⟩
    rw [if_pos hT] at h1
    obtain ⟨c0, c1, c2, rfl, h3⟩ := h1
    exact ⟨c0, c1, c2, rfl, h3, h2⟩
  have HB : Hid (Below w.heap.size w ((w.alloc (.cells #[.int .u8 0, .int .i64 0, .slice none 0 0] 153)).alloc (.cells #[.int .u8 0, .int .i64 0, .slice none 0 0] 153))) := ((Below.refl _ _).alloc (Nat.le_refl _) _).alloc (by simp) _
  have hz0 : Hid (((w.alloc (.cells #[.int .u8 0, .int .i64 0, .slice none 0 0] 153)).alloc (.cells #[.int .u8 0, .int .i64 0, .slice none 0 0] 153)).heap[w.heap.size]? = some (.cells #[.int .u8 0, .int .i64 0, .slice none 0 0] 153 (0, 0))) := (Below.heap_alloc _ _ _ (by simp)).trans (heap_alloc_new w _)
  have hz1 : Hid (((w.alloc (.cells #[.int .u8 0, .int .i64 0, .slice none 0 0] 153)).alloc (.cells #[.int .u8 0, .int .i64 0, .slice none 0 0] 153)).heap[w.heap.size + 1]? = some (.cells #[.int .u8 0, .int .i64 0, .slice none 0 0] 153 (0, 0))) := by
    show _ = _
    have := heap_alloc_new (w.alloc (.cells #[.int .u8 0, .int .i64 0, .slice none 0 0] 153)) (.cells #[.int .u8 0, .int .i64 0, .slice none 0 0] 153)
    simpa using this
  have hz2 : Hid (((w.alloc (.cells #[.int .u8 0, .int .i64 0, .slice none 0 0] 153)).alloc (.cells #[.int .u8 0, .int .i64 0, .slice none 0 0] 153)).heap.size = w.heap.size + 2) := by show _ = _; simp
  go_enter Tryz.func185, Tryz.ntmps185
  go_wp2_with fail
  refine ((unhide HS) _ (unhide HB)).mono ?_
  rintro e w1 ⟨rfl, hb1⟩
  have HC1 := hide ((unhide HR) f w1 hf)
  have HB1 := hide hb1
  clear hb1
  go_wp2_with fail
  refine (unhide HC1).mono ?_
  rintro e w2 ⟨a0, a1, a2, rfl, hR1, hb2⟩
  have HC2 := hide ((unhide HR) t w2 htt)
  have HR1 := hide hR1
  have HB2 := hide hb2
  clear hb2 hR1
  go_wp2_with fail
  refine (unhide HC2).mono ?_
  rintro e w3 ⟨b0, b1, b2, rfl, hR2, hb3⟩
  obtain ⟨⟨x0, rfl⟩, ⟨x1, rfl⟩, ⟨ea, en, ec, rfl⟩⟩ := V.rep_shape (unhide HR1)
  obtain ⟨⟨y0, rfl⟩, ⟨y1, rfl⟩, ⟨fa, fn, fc, rfl⟩⟩ := V.rep_shape hR2
  have hs1 := (unhide HB1).size
  have hs2 := (unhide HB2).size
  rw [unhide hz2] at hs1
  have hB13 : Below w1.heap.size w1 w3 := (unhide HB2).trans (hb3.mono (unhide HB2).size)
  have hB03 := (unhide HB1).trans (hB13.mono (unhide HB1).size)
  rw [unhide hz2] at hB03
  have k0 := (hB03.block w.heap.size (by omega)).trans (unhide hz0)
  have k1 := (hB03.block (w.heap.size + 1) (by omega)).trans (unhide hz1)
  have p0 : w3.cell? ⟨w.heap.size, 0, none⟩ = some (.int .u8 0) := cell_of k0 0 _ rfl
  have p1 : w3.cell? ⟨w.heap.size, 1, none⟩ = some (.int .i64 0) := cell_of k0 1 _ rfl
  have p2 : w3.cell? ⟨w.heap.size, 2, none⟩ = some (.slice none 0 0) := cell_of k0 2 _ rfl
  have q0 : w3.cell? ⟨w.heap.size + 1, 0, none⟩ = some (.int .u8 0) := cell_of k1 0 _ rfl
  have q1 : w3.cell? ⟨w.heap.size + 1, 1, none⟩ = some (.int .i64 0) := cell_of k1 1 _ rfl
  have q2 : w3.cell? ⟨w.heap.size + 1, 2, none⟩ = some (.slice none 0 0) := cell_of k1 2 _ rfl
  have u0 : ∀ j, w3.frozen? ⟨w.heap.size, j, none⟩ = false := fun j => open_list k0
  have u1 : ∀ j, w3.frozen? ⟨w.heap.size + 1, j, none⟩ = false := fun j => open_list k1
  have hs3 := hb3.size
  have HEND : Hid (∀ W : World, Keeps (fun k => k = w.heap.size ∨ k = w.heap.size + 1) w3 W → (∃ S, V.Rep W S (V.nx f) (f.size + 1) 0 (.int .u8 x0) (.int .i64 x1) (.slice ea en ec)) ∧ (∃ S, V.Rep W S (V.nx t) (t.size + 1) 0 (.int .u8 y0) (.int .i64 y1) (.slice fa fn fc)) ∧ Below w.heap.size w W) := fun W hk => by
    refine ⟨⟨_, V.rep_above ⟨Nat.le_trans hs3 hk.size, fun k hS hl => ?_⟩ (unhide HR1)⟩, ⟨_, V.rep_above ⟨hk.size, fun k hS hl => ?_⟩ hR2⟩, ?_⟩
    · have hS : w1.heap.size ≤ k := hS
      rw [hk.block k (by omega) (by omega)]
      exact hb3.block k hl
    · have hS : w2.heap.size ≤ k := hS
      exact hk.block k hl (by omega)
    · exact ((unhide HB).trans (hB03.mono (by omega))).trans (hk.below (by omega) (fun k e => by omega))
  have l0 : w.heap.size < w3.heap.size := by omega
  have l1 : w.heap.size + 1 < w3.heap.size := by omega
  clear hR2 hb3 hB13 hB03 k0 k1 HR1 HB1 HB2 HC1 HC2 HR HS HB hz0 hz1 hz2 hs1 hs2 hs3
  go_wp2
  have hK : Keeps (fun k => k = w.heap.size ∨ k = w.heap.size + 1) w3 ((((((w3.setCell ⟨w.heap.size, 0, none⟩ (.int .u8 x0)).setCell ⟨w.heap.size, 1, none⟩ (.int .i64 x1)).setCell ⟨w.heap.size, 2, none⟩ (.slice ea en ec)).setCell ⟨w.heap.size + 1, 0, none⟩ (.int .u8 y0)).setCell ⟨w.heap.size + 1, 1, none⟩ (.int .i64 y1)).setCell ⟨w.heap.size + 1, 2, none⟩ (.slice fa fn fc)) :=
    ((((((Keeps.refl _ w3).setCell (p := ⟨w.heap.size, 0, none⟩) (Or.inl (Or.inl rfl)) _).setCell (p := ⟨w.heap.size, 1, none⟩) (Or.inl (Or.inl rfl)) _).setCell (p := ⟨w.heap.size, 2, none⟩) (Or.inl (Or.inl rfl)) _).setCell (p := ⟨w.heap.size + 1, 0, none⟩) (Or.inl (Or.inr rfl)) _).setCell (p := ⟨w.heap.size + 1, 1, none⟩) (Or.inl (Or.inr rfl)) _).setCell (p := ⟨w.heap.size + 1, 2, none⟩) (Or.inl (Or.inr rfl)) _
  obtain ⟨r1, r2, r3⟩ := (unhide HEND) _ hK
  refine ⟨rfl, .tuple #[.agg #[.int .u8 x0, .int .i64 x1, .slice ea en ec], .agg #[.int .u8 y0, .int .i64 y1, .slice fa fn fc]], ?_, ⟨_, _, _, _, _, _, rfl, r1, r2⟩, r3⟩
  clear r1 r2 r3 hK HEND
  simp [results, Tryz.results185, go_sem, p0, p1, p2, q0, q1, q2]
end Go.Proofs.YtblomippkddgiaaGreatDoor
/-
  The messages of calls and results: written and read.
-/
namespace Go.Proofs.YtblomippkddgiaaGreatDoor
open Go.RowKit

theorem rep_below {S : Nat → Prop} {g : Nat → Nat} {w w' : World} {f p : Nat} {c0 c1 c2 : Value} (h : V.Rep w S g f p c0 c1 c2) (hb : Below w.heap.size w w') : V.Rep w' S g f p c0 c1 c2 := V.rep_above ⟨hb.size, fun k _ hl => hb.block k hl⟩ h

/- value.Write of a type that was read -/
def wrPost (T : ByteArray) (v : List V.It) (w : World) (e : Ending) (w' : World) : Prop :=
  (((V.mRes T v).1 = 0 ∧ e = .returned (.string (str (V.mRes T v).2))) ∨ (¬ (V.mRes T v).1 = 0 ∧ e = gaveUp (V.mRes T v).1 0)) ∧ Below w.heap.size w w'
theorem vwrite_any (T : ByteArray) (hT : (V.Pt.chk (V.nx T) T.size).1 = 0) (S : Nat → Prop) (c0 c1 c2 X : Value) (v : List V.It) (w : World) (hR : V.Rep w S (V.nx T) (T.size + 1) 0 c0 c1 c2) (hI : V.Items w X v) (hn : v.length ≤ 9000000000000) : Calls Tryz.prog 77 #[.agg #[c0, c1, c2], X] w (wrPost T v w) := by
  have hG := V.good_of hT
  refine (V.write_any T S c0 c1 c2 X v w hR hG.ok hG.dep hI hn).mono ?_
  rintro e w'' ⟨h1, h2⟩
  have e1 : V.wRes (V.eat (V.nx T) (T.size + 1) 0 v) v = V.mRes T v := by unfold V.mRes; rw [if_pos hT]
  rw [e1] at h1
  unfold V.WPost at h1
  refine ⟨?_, h2⟩
  by_cases h0 : (V.mRes T v).1 = 0
  · rw [if_pos h0] at h1
    exact Or.inl ⟨h0, h1⟩
  · rw [if_neg h0] at h1
    exact Or.inr ⟨h0, h1⟩
theorem mRes_len (T : ByteArray) (v : List V.It) : (V.mRes T v).2.length ≤ 70 := by
  unfold V.mRes V.wRes
  split
  · split
    · simp
    · split
      · split
        · simp
        · rename_i h; simp only; omega
      · simp
  · simp

def msgPost (proc : Int) (T : ByteArray) (v : List V.It) (w : World) (e : Ending) (w' : World) : Prop :=
  (((V.mRes T v).1 = 0 ∧ e = .returned (.string (str (two8 proc ++ (V.mRes T v).2)))) ∨ (¬ (V.mRes T v).1 = 0 ∧ e = gaveUp (V.mRes T v).1 0)) ∧ Below w.heap.size w w'

set_option maxRecDepth 100000 in
set_option maxHeartbeats 2000000 in
theorem writeCall_none (k p : Int) (hk : 0 ≤ k ∧ k ≤ 2) (h : R.sigP k p = none) (X : Value) (w : World) (ht : Tab0 w) : Calls Tryz.prog 109 #[.int .i64 k, .int .i64 p, X] w fun e w' => e = gaveUp 16 0 ∧ Below w.heap.size w w' := by
  have HS := hide (types_none k p hk h w ht)
  go_enter Tryz.func109, Tryz.ntmps109
  go_wp2_with fail
  refine (unhide HS).mono ?_
  rintro e w1 ⟨rfl, hb1⟩
  go_wp2
  exact ⟨rfl, rfl, hb1⟩

theorem two_str (proc : Int) (l : List UInt8) (hl : l.length ≤ 1000) (w : World) : (Op.stringOp .add (str (two8 proc)) (str l)).run Tryz.prog w = .ok (.string (str (two8 proc ++ l))) w := by
  have e1 : str (two8 proc) ++ str l = str (two8 proc ++ l) := by
    apply ByteArray.ext
    simp
  rw [← e1]
  exact run_string_add_sum w _ _ (by rw [str_size, str_size]; simp [two8]; omega)

abbrev boxT (x0 x1 : Int) (a : Option Addr) (n c : Nat) : Obj := .cells #[.int .u8 x0, .int .i64 x1, .slice a n c] 153

set_option maxRecDepth 100000 in
set_option maxHeartbeats 2000000 in
theorem writeCall_some (k p : Int) (f t : ByteArray) (h : R.sigP k p = some (f, t)) (X : Value) (v : List V.It) (w : World) (ht : Tab0 w) (hI : V.Items w X v) (hn : v.length ≤ 9000000000000) : Calls Tryz.prog 109 #[.int .i64 k, .int .i64 p, X] w (msgPost p f v w) := by
  obtain ⟨_, hf, _, hp, _⟩ := sig_some h
  have HS := hide (types_some k p f t h w ht)
  have HA : Hid (∀ w', Calls Tryz.prog 186 #[.slice none 0 0, .int .i64 p] w' fun e w'' => ∃ O, e = .returned O ∧ Own w'' w'.heap.size O (two8 p) ∧ Below w'.heap.size w' w'') := fun w' => by
    refine (appendTwo_any w'.heap.size (.slice none 0 0) [] p w' (World.ownsRow_nil _ _ _ _) (Nat.le_refl _) (by simp) (by omega)).mono ?_
    rintro e w'' ⟨O, rfl, hown, hb⟩
    exact ⟨O, rfl, by simpa using hown, hb⟩
  have HW : Hid (∀ w' c0 c1 c2 S, V.Rep w' S (V.nx f) (f.size + 1) 0 c0 c1 c2 → Below w.heap.size w w' → Calls Tryz.prog 77 #[.agg #[c0, c1, c2], X] w' (wrPost f v w')) := fun w' c0 c1 c2 S hR hb => vwrite_any f hf S c0 c1 c2 X v w' hR (hI.below hb) hn
  have hbl := mRes_len f v
  have HSUM := hide (two_str p (V.mRes f v).2 (by omega))
  unfold msgPost
  unfold wrPost at HW
  generalize V.mRes f v = r at *
  clear hI hn ht
  go_enter Tryz.func109, Tryz.ntmps109
  go_wp2_with fail
  refine (unhide HS).mono ?_
  rintro e w1 ⟨⟨a0, a1, a2, b0, b1, b2, rfl, ⟨S1, hR1⟩, ⟨S2, hR2⟩⟩, hb1⟩
  obtain ⟨⟨x0, rfl⟩, ⟨x1, rfl⟩, ⟨ea, en, ec, rfl⟩⟩ := V.rep_shape hR1
  obtain ⟨⟨y0, rfl⟩, ⟨y1, rfl⟩, ⟨fa, fn, fc, rfl⟩⟩ := V.rep_shape hR2
  have HB1 : Hid (Below w.heap.size w ((w1.alloc (boxT x0 x1 ea en ec)).alloc (boxT y0 y1 fa fn fc))) := (hb1.alloc hb1.size _).alloc (by have := hb1.size; simp; omega) _
  have HBB : Hid (Below w1.heap.size w1 ((w1.alloc (boxT x0 x1 ea en ec)).alloc (boxT y0 y1 fa fn fc))) := ((Below.refl _ _).alloc (Nat.le_refl _) _).alloc (by simp) _
  have HR1 := hide (rep_below hR1 (unhide HBB))
  have HE : Hid (((w1.alloc (boxT x0 x1 ea en ec)).alloc (boxT y0 y1 fa fn fc)).heap[w1.heap.size]? = some (.cells #[.int .u8 x0, .int .i64 x1, .slice ea en ec] 153 (0, 0))) := (Below.heap_alloc _ _ _ (by simp)).trans (heap_alloc_new w1 _)
  clear hR1 hR2 hb1 HS
  go_wp2_with fail
  refine ((unhide HA) _).mono ?_
  rintro e w2 ⟨O, rfl, hown, hb2⟩
  obtain ⟨oa, on, oc, hO⟩ := row_shape hown
  subst hO
  have hcv := hown.conv
  have HB2 := hide ((unhide HB1).trans (hb2.mono (unhide HB1).size))
  have HR2 := hide (rep_below (unhide HR1) hb2)
  have hk := (hb2.block w1.heap.size (by simp; omega)).trans (unhide HE)
  have p0 : w2.cell? ⟨w1.heap.size, 0, none⟩ = some (.int .u8 x0) := cell_of hk 0 _ rfl
  have p1 : w2.cell? ⟨w1.heap.size, 1, none⟩ = some (.int .i64 x1) := cell_of hk 1 _ rfl
  have p2 : w2.cell? ⟨w1.heap.size, 2, none⟩ = some (.slice ea en ec) := cell_of hk 2 _ rfl
  have hl2 := lt_of_block hk
  have HC := hide ((unhide HW) w2 _ _ _ _ (unhide HR2) (unhide HB2))
  clear hown hb2 hk HE HR1 HB1 HBB
  generalize str (two8 p) = S2' at *
  go_wp2_with fail
  refine (unhide HC).mono ?_
  rintro e w3 ⟨⟨h0, rfl⟩ | ⟨h0, rfl⟩, hb3⟩
  · have HB3 := hide ((unhide HB2).trans (hb3.mono (unhide HB2).size))
    have hsum := (unhide HSUM) w3
    clear hb3
    have H0 := hide h0
    clear h0
    go_wp2
    go_returns
    exact ⟨Or.inl ⟨unhide H0, rfl⟩, unhide HB3⟩
  · have HB3 := hide ((unhide HB2).trans (hb3.mono (unhide HB2).size))
    have H0 := hide h0
    clear h0 hb3
    go_wp2
    exact ⟨rfl, Or.inr ⟨unhide H0, rfl⟩, unhide HB3⟩
end Go.Proofs.YtblomippkddgiaaGreatDoor
/-
  The messages of results, and reading a call's.
-/
namespace Go.Proofs.YtblomippkddgiaaGreatDoor
open Go.RowKit

set_option maxRecDepth 100000 in
set_option maxHeartbeats 2000000 in
theorem writeResult_some (k p : Int) (f t : ByteArray) (h : R.sigP k p = some (f, t)) (X : Value) (v : List V.It) (w : World) (ht : Tab0 w) (hI : V.Items w X v) (hn : v.length ≤ 9000000000000) : Calls Tryz.prog 136 #[.int .i64 k, .int .i64 p, X] w (wrPost t v w) := by
  obtain ⟨_, _, htt, _, _⟩ := sig_some h
  have HS := hide (types_some k p f t h w ht)
  have HW : Hid (∀ w' c0 c1 c2 S, V.Rep w' S (V.nx t) (t.size + 1) 0 c0 c1 c2 → Below w.heap.size w w' → Calls Tryz.prog 77 #[.agg #[c0, c1, c2], X] w' (wrPost t v w')) := fun w' c0 c1 c2 S hR hb => vwrite_any t htt S c0 c1 c2 X v w' hR (hI.below hb) hn
  unfold wrPost at HW ⊢
  generalize V.mRes t v = r at *
  clear hI hn ht
  go_enter Tryz.func136, Tryz.ntmps136
  go_wp2_with fail
  refine (unhide HS).mono ?_
  rintro e w1 ⟨⟨a0, a1, a2, b0, b1, b2, rfl, ⟨S1, hR1⟩, ⟨S2, hR2⟩⟩, hb1⟩
  obtain ⟨⟨x0, rfl⟩, ⟨x1, rfl⟩, ⟨ea, en, ec, rfl⟩⟩ := V.rep_shape hR1
  obtain ⟨⟨y0, rfl⟩, ⟨y1, rfl⟩, ⟨fa, fn, fc, rfl⟩⟩ := V.rep_shape hR2
  have HB1 : Hid (Below w.heap.size w ((w1.alloc (boxT x0 x1 ea en ec)).alloc (boxT y0 y1 fa fn fc))) := (hb1.alloc hb1.size _).alloc (by have := hb1.size; simp; omega) _
  have HBB : Hid (Below w1.heap.size w1 ((w1.alloc (boxT x0 x1 ea en ec)).alloc (boxT y0 y1 fa fn fc))) := ((Below.refl _ _).alloc (Nat.le_refl _) _).alloc (by simp) _
  have HR2 := hide (rep_below hR2 (unhide HBB))
  have HC := hide ((unhide HW) _ _ _ _ _ (unhide HR2) (unhide HB1))
  clear hR1 hR2 hb1 HS HBB
  go_wp2_with fail
  refine (unhide HC).mono ?_
  rintro e w3 ⟨⟨h0, rfl⟩ | ⟨h0, rfl⟩, hb3⟩
  · have HB3 := hide ((unhide HB1).trans (hb3.mono (unhide HB1).size))
    clear hb3
    have H0 := hide h0
    clear h0
    go_wp2
    go_returns
    exact ⟨Or.inl ⟨unhide H0, rfl⟩, unhide HB3⟩
  · have HB3 := hide ((unhide HB1).trans (hb3.mono (unhide HB1).size))
    have H0 := hide h0
    clear h0 hb3
    go_wp2
    exact ⟨rfl, Or.inr ⟨unhide H0, rfl⟩, unhide HB3⟩

/- value.Read of the bytes of a value -/
theorem vread_ok (T : ByteArray) (hT : (V.Pt.chk (V.nx T) T.size).1 = 0) (S : Nat → Prop) (c0 c1 c2 : Value) (l : List UInt8) (v : List V.It) (hu : V.uFull T l = (0, v)) (w : World) (hR : V.Rep w S (V.nx T) (T.size + 1) 0 c0 c1 c2) : Calls Tryz.prog 197 #[.agg #[c0, c1, c2], .string (str l)] w fun e w' => (∃ O, e = .returned O ∧ V.Row w' w.heap.size O v) ∧ Below w.heap.size w w' := by
  have hG := V.good_of hT
  refine (V.vread_any T S c0 c1 c2 l w hR hG.ok hG.dep).mono ?_
  rintro e w' ⟨h1, h2⟩
  have e1 : V.uRes (V.carryP V.rNum V.rTxt (V.nx T) (T.size + 1) 0 (l, [])) l = V.uFull T l := by unfold V.uFull; rw [if_pos hT]
  rw [e1, hu] at h1
  exact ⟨h1, h2⟩
set_option maxRecDepth 100000 in
set_option maxHeartbeats 2000000 in
theorem readResult_some (k p : Int) (f t : ByteArray) (h : R.sigP k p = some (f, t)) (l : List UInt8) (v : List V.It) (hu : V.uFull t l = (0, v)) (w : World) (ht : Tab0 w) : Calls Tryz.prog 203 #[.int .i64 k, .int .i64 p, .string (str l)] w fun e w' => (∃ O, e = .returned O ∧ V.Row w' w.heap.size O v) ∧ Below w.heap.size w w' := by
  obtain ⟨_, _, htt, _, _⟩ := sig_some h
  have HS := hide (types_some k p f t h w ht)
  have HW : Hid (∀ w' c0 c1 c2 S, V.Rep w' S (V.nx t) (t.size + 1) 0 c0 c1 c2 → Calls Tryz.prog 197 #[.agg #[c0, c1, c2], .string (str l)] w' fun e w'' => (∃ O, e = .returned O ∧ V.Row w'' w'.heap.size O v) ∧ Below w'.heap.size w' w'') := fun w' c0 c1 c2 S hR => vread_ok t htt S c0 c1 c2 l v hu w' hR
  generalize str l = SL at *
  clear ht hu
  go_enter Tryz.func203, Tryz.ntmps203
  go_wp2_with fail
  refine (unhide HS).mono ?_
  rintro e w1 ⟨⟨a0, a1, a2, b0, b1, b2, rfl, ⟨S1, hR1⟩, ⟨S2, hR2⟩⟩, hb1⟩
  obtain ⟨⟨x0, rfl⟩, ⟨x1, rfl⟩, ⟨ea, en, ec, rfl⟩⟩ := V.rep_shape hR1
  obtain ⟨⟨y0, rfl⟩, ⟨y1, rfl⟩, ⟨fa, fn, fc, rfl⟩⟩ := V.rep_shape hR2
  have HB1 : Hid (Below w.heap.size w ((w1.alloc (boxT x0 x1 ea en ec)).alloc (boxT y0 y1 fa fn fc))) := (hb1.alloc hb1.size _).alloc (by have := hb1.size; simp; omega) _
  have HBB : Hid (Below w1.heap.size w1 ((w1.alloc (boxT x0 x1 ea en ec)).alloc (boxT y0 y1 fa fn fc))) := ((Below.refl _ _).alloc (Nat.le_refl _) _).alloc (by simp) _
  have HR2 := hide (rep_below hR2 (unhide HBB))
  have HC := hide ((unhide HW) _ _ _ _ _ (unhide HR2))
  clear hR1 hR2 hb1 HS HBB
  go_wp2_with fail
  refine (unhide HC).mono ?_
  rintro e w3 ⟨⟨O, rfl, hrow⟩, hb3⟩
  have HB3 := hide ((unhide HB1).trans (hb3.mono (unhide HB1).size))
  obtain ⟨oa, on, oc, hsh⟩ := row_shape hrow
  subst hsh
  have HRW := hide (V.row_base hrow (unhide HB1).size)
  clear hb3 hrow
  go_wp2
  go_ret
  exact ⟨⟨_, rfl, unhide HRW⟩, unhide HB3⟩

/- a wire.Reader -/
set_option maxRecDepth 100000 in
set_option maxHeartbeats 1000000 in
theorem take_c (b : Nat) (l : List UInt8) (n : Nat) (w : World) (h1 : w.cell? ⟨b, 0, none⟩ = some (.string (str l))) (h2 : w.frozen? ⟨b, 0, none⟩ = false) (hn : n ≤ l.length) (hl : l.length ≤ 1000) :
    Calls Tryz.prog 190 #[ptr b, .int .i64 n] w fun e w' => e = .returned (.string (str (l.take n))) ∧ w' = w.setCell ⟨b, 0, none⟩ (.string (str (l.drop n))) := by
  have hsz := str_size l
  have e1 : (str l).extract 0 n = str (l.take n) := by rw [str_extract]; simp
  have e2 : (str l).extract n (str l).size = str (l.drop n) := by
    rw [str_extract, str_size, List.take_of_length_le (by rw [List.length_drop]; omega)]
  generalize hS : str l = S at *
  generalize hA : str (l.take n) = A at *
  generalize hB : str (l.drop n) = B at *
  clear hS hA hB
  generalize l.length = m at *
  subst hsz
  have hlt : ¬ ((S.size : Int) < (n : Int)) := by omega
  go_enter Tryz.func190, Tryz.ntmps190
  go_wp2
  go_ret
  exact ⟨rfl, rfl⟩
set_option maxRecDepth 100000 in
set_option maxHeartbeats 1000000 in
theorem byte_c (b : Nat) (c : UInt8) (r : List UInt8) (w : World) (h1 : w.cell? ⟨b, 0, none⟩ = some (.string (str (c :: r)))) (h2 : w.frozen? ⟨b, 0, none⟩ = false) (hl : r.length ≤ 900) : Calls Tryz.prog 113 #[ptr b] w fun e w' => e = .returned (.int .i64 (c.toNat : Int)) ∧ w' = w.setCell ⟨b, 0, none⟩ (.string (str r)) := by
  have H := hide (take_c b (c :: r) 1 w h1 h2 (by simp) (by simp; omega))
  rw [show (c :: r).take 1 = [c] from rfl, show (c :: r).drop 1 = r from rfl] at H
  have i0 : (str [c])[0]'(by rw [str_size]; simp) = c := rfl
  have hc := c.toNat_lt
  have hw : wrap64 (c.toNat : Int) = (c.toNat : Int) := by unfold wrap64; omega
  clear h1 h2
  go_enter Tryz.func113, Tryz.ntmps113
  go_wp2_with fail
  refine (unhide H).mono ?_
  rintro e w1 ⟨rfl, rfl⟩
  go_wp2
  go_ret
  exact ⟨rfl, rfl⟩
set_option maxRecDepth 100000 in
set_option maxHeartbeats 1000000 in
theorem two_c (b : Nat) (a c : UInt8) (r : List UInt8) (w : World) (h1 : w.cell? ⟨b, 0, none⟩ = some (.string (str (a :: c :: r)))) (h2 : w.frozen? ⟨b, 0, none⟩ = false) (hl : r.length ≤ 500) :
    Calls Tryz.prog 114 #[ptr b] w fun e w' => e = .returned (.int .i64 (V.num2 a c)) ∧ w' = (w.setCell ⟨b, 0, none⟩ (.string (str (c :: r)))).setCell ⟨b, 0, none⟩ (.string (str r)) := by
  have H := hide (byte_c b a (c :: r) w h1 h2 (by simp; omega))
  have hlb := lt_of_cell h1
  have H2 := hide (byte_c b c r (w.setCell ⟨b, 0, none⟩ (.string (str (c :: r)))) (by simp [go_sem, h1]) (by simp [go_sem, h2]) (by omega))
  have ha := a.toNat_lt
  have hc := c.toNat_lt
  have hw : wrap64 ((a.toNat : Int) * 256) = (a.toNat : Int) * 256 := by unfold wrap64; omega
  have ho : bits .or .i64 ((a.toNat : Int) * 256) (c.toNat : Int) = ((V.num2 a c : Nat) : Int) := by
    have := V.or_two a.toNat c.toNat (by omega) (by omega)
    rw [show ((a.toNat * 256 : Nat) : Int) = (a.toNat : Int) * 256 by omega] at this
    exact this
  clear h1 h2
  generalize str (c :: r) = S1 at *
  generalize str r = S2 at *
  go_enter Tryz.func114, Tryz.ntmps114
  go_wp2_with fail
  refine (unhide H).mono ?_
  rintro e w1 ⟨rfl, rfl⟩
  go_wp2_with fail
  refine (unhide H2).mono ?_
  rintro e w2 ⟨rfl, rfl⟩
  go_wp2
  go_ret
  exact ⟨rfl, rfl⟩

set_option maxRecDepth 100000 in
set_option maxHeartbeats 2000000 in
theorem readCall_some (k p : Int) (f t : ByteArray) (h : R.sigP k p = some (f, t)) (l : List UInt8) (hl : l.length ≤ 500) (v : List V.It) (hu : V.uFull f l = (0, v)) (w : World) (ht : Tab0 w) : Calls Tryz.prog 133 #[.int .i64 k, .string (str (two8 p ++ l))] w fun e w' => (∃ O, e = .returned (.tuple #[.int .i64 p, O]) ∧ V.Row w' w.heap.size O v) ∧ Below w.heap.size w w' := by
  obtain ⟨_, hf, _, hp, _⟩ := sig_some h
  obtain ⟨BX, hBX⟩ : ∃ BX, w.alloc (.cells #[.string (str (two8 p ++ l)), .int .i64 6] 125) = BX := ⟨_, rfl⟩
  have hb0 : Below w.heap.size w BX := by
    rw [← hBX]
    exact (Below.refl _ _).alloc (Nat.le_refl _) _
  have hbx : BX.heap[w.heap.size]? = some (.cells #[.string (str (two8 p ++ l)), .int .i64 6] 125 (0, 0)) := by
    rw [← hBX]
    exact heap_alloc_new w _
  have hn2 : ((V.num2 (b8 (p / 256)) (b8 (p % 256)) : Nat) : Int) = p := by
    have h1 := b8_val (n := p / 256) (by omega) (by omega)
    have h2 := b8_val (n := p % 256) (by omega) (by omega)
    unfold V.num2
    omega
  have H2 := hide (two_c w.heap.size (b8 (p / 256)) (b8 (p % 256)) l BX (cell_of hbx 0 _ rfl) (open_list hbx) hl)
  rw [hn2] at H2
  obtain ⟨W, hW⟩ : ∃ W, W = (BX.setCell ⟨w.heap.size, 0, none⟩ (.string (str (b8 (p % 256) :: l)))).setCell ⟨w.heap.size, 0, none⟩ (.string (str l)) := ⟨_, rfl⟩
  rw [← hW] at H2
  have hbW : Below w.heap.size w W := by
    rw [hW]
    exact (hb0.setCell (by simp) _).setCell (by simp) _
  have hWx : W.heap[w.heap.size]? = some (.cells #[.string (str l), .int .i64 6] 125 (0, 0)) := by
    rw [hW]
    have e1 := heap_store (cs := [.string (str (two8 p ++ l)), .int .i64 6]) (off := 0) hbx (.string (str (b8 (p % 256) :: l)))
    exact heap_store (cs := [.string (str (b8 (p % 256) :: l)), .int .i64 6]) (off := 0) e1 (.string (str l))
  have HS := hide (types_some k p f t h W (ht.below hbW))
  have HW : Hid (∀ w' c0 c1 c2 S, V.Rep w' S (V.nx f) (f.size + 1) 0 c0 c1 c2 → Calls Tryz.prog 197 #[.agg #[c0, c1, c2], .string (str l)] w' fun e w'' => (∃ O, e = .returned O ∧ V.Row w'' w'.heap.size O v) ∧ Below w'.heap.size w' w'') := fun w' c0 c1 c2 S hR => vread_ok f hf S c0 c1 c2 l v hu w' hR
  have HBX := hide hBX
  have HBW := hide hbW
  have HWX := hide hWx
  clear hW hbW hWx hb0 hbx ht hu hBX
  generalize str l = SL at *
  generalize str (two8 p ++ l) = SM at *
  go_enter Tryz.func133, Tryz.ntmps133
  go_wp2_with fail
  rw [unhide HBX]
  refine (unhide H2).mono ?_
  rintro e w0 ⟨rfl, hw0⟩
  rw [hw0]
  clear hw0
  go_wp2_with fail
  refine (unhide HS).mono ?_
  rintro e w1 ⟨⟨a0, a1, a2, b0, b1, b2, rfl, ⟨S1, hR1⟩, ⟨S2, hR2⟩⟩, hb1⟩
  obtain ⟨⟨x0, rfl⟩, ⟨x1, rfl⟩, ⟨ea, en, ec, rfl⟩⟩ := V.rep_shape hR1
  obtain ⟨⟨y0, rfl⟩, ⟨y1, rfl⟩, ⟨fa, fn, fc, rfl⟩⟩ := V.rep_shape hR2
  have hw1 : Below w.heap.size w w1 := (unhide HBW).trans (hb1.mono (unhide HBW).size)
  have HB1 : Hid (Below w.heap.size w ((w1.alloc (boxT x0 x1 ea en ec)).alloc (boxT y0 y1 fa fn fc))) := (hw1.alloc hw1.size _).alloc (by have := hw1.size; simp; omega) _
  have HBB : Hid (Below w1.heap.size w1 ((w1.alloc (boxT x0 x1 ea en ec)).alloc (boxT y0 y1 fa fn fc))) := ((Below.refl _ _).alloc (Nat.le_refl _) _).alloc (by simp) _
  have HR1 := hide (rep_below hR1 (unhide HBB))
  have HC := hide ((unhide HW) _ _ _ _ _ (unhide HR1))
  have k1 := (hb1.block w.heap.size (lt_of_block (unhide HWX))).trans (unhide HWX)
  have c0 : w1.cell? ⟨w.heap.size, 0, none⟩ = some (.string SL) := cell_of k1 0 _ rfl
  have hl1 := lt_of_block k1
  clear hR1 hR2 hb1 HS HBB hw1 k1
  go_wp2_with fail
  refine (unhide HC).mono ?_
  rintro e w3 ⟨⟨O, rfl, hrow⟩, hb3⟩
  have HB3 := hide ((unhide HB1).trans (hb3.mono (unhide HB1).size))
  obtain ⟨oa, on, oc, hsh⟩ := row_shape hrow
  subst hsh
  have HRW := hide (V.row_base hrow (unhide HB1).size)
  clear hb3 hrow
  go_wp2
  go_ret2
  exact ⟨⟨_, rfl, unhide HRW⟩, unhide HB3⟩
end Go.Proofs.YtblomippkddgiaaGreatDoor
