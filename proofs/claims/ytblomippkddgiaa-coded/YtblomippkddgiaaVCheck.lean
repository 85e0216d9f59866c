/-
  The landed code's Read of a type, and Check over it: what gives up by panic is caught at the face.
-/
import Derived.Test.YtblomippkddgiaaVDepth
import Derived.Defers
import Derived.Recover
namespace Go.Proofs.Ytblomippkddgiaa.V
open Go.RowKit

abbrev faultOf (n q : Nat) : Value := .agg #[.int .i64 n, .int .i64 q]
abbrev gaveUp (n q : Nat) : Ending := .panicked [{ v := .iface 71 (faultOf n q), recovered := false }]

theorem at_new (w : World) (s : ByteArray) : At (w.alloc (.cells #[.string s, .int .i64 0] 100)) w.heap.size s 0 := by
  show (w.heap.push _)[w.heap.size]? = _
  rw [Array.getElem?_push_size]
  rfl

set_option maxHeartbeats 1000000 in
theorem read_long (s : ByteArray) (w : World) (hs : ¬ s.size ≤ 40) :
    Calls Try.prog 31 #[.string s] w fun e w' => e = gaveUp 1 0 ∧ Below w.heap.size w w' := by
  have h : (40 : Int) < (s.size : Int) := by omega
  clear hs
  go_enter Try.func31, Try.ntmps31
  go_wp2
  exact ⟨rfl, rfl, (Below.refl _ _).alloc (Nat.le_refl _) _⟩

theorem below_of {w v : World} {b : Nat} (hk : Keeps b (w.alloc zero63) v) (hb : w.heap.size ≤ b) : Below w.heap.size w v :=
  ((Below.refl _ _).alloc (Nat.le_refl _) zero63).trans ⟨hk.os, hk.tape, hk.output, hk.size, fun k h => hk.block k (by simp; omega) (by omega)⟩

theorem one_in (s : ByteArray) (hs : s.size ≤ 40) (w : World) : Calls Try.prog 51 #[.pointer (some ⟨w.heap.size + 1, 0, none⟩)] ((w.alloc zero63).alloc (.cells #[.string s, .int .i64 0] 100)) (TyPost (w.heap.size + 1) s (s.size + 1) 0 ((w.alloc zero63).alloc (.cells #[.string s, .int .i64 0] 100))) := by
  have h := at_new (w.alloc zero63) s
  have e : (w.alloc zero63).heap.size = w.heap.size + 1 := by simp
  rw [e] at h
  exact one_any (w.heap.size + 1) s hs (s.size + 1) 0 _ h (by omega) (by omega)

set_option maxHeartbeats 1000000 in
theorem read_wrong (s : ByteArray) (w : World) (hs : s.size ≤ 40) (hT : (Pt.ty (nx s) (s.size + 1) 0).1 = false) :
    Calls Try.prog 31 #[.string s] w fun e w' => e = gaveUp 2 (Pt.ty (nx s) (s.size + 1) 0).2 ∧ Below w.heap.size w w' := by
  have H := one_in s hs w
  unfold TyPost at H
  simp only [hT, Bool.false_eq_true, if_false] at H
  clear hT
  go_enter Try.func31, Try.ntmps31
  go_wp2_with fail
  refine H.mono ?_
  rintro e w1 ⟨rfl, hk⟩
  go_wp2
  exact ⟨rfl, rfl, below_of (((Keeps.refl _ _).alloc _).trans hk) (by omega)⟩

set_option maxHeartbeats 1000000 in
theorem read_more (s : ByteArray) (w : World) (hs : s.size ≤ 40) (hT : (Pt.ty (nx s) (s.size + 1) 0).1 = true) (hq : (Pt.ty (nx s) (s.size + 1) 0).2 < s.size) :
    Calls Try.prog 31 #[.string s] w fun e w' => e = gaveUp 2 (Pt.ty (nx s) (s.size + 1) 0).2 ∧ Below w.heap.size w w' := by
  have H := one_in s hs w
  unfold TyPost at H
  simp only [hT, if_true] at H
  clear hT
  generalize (Pt.ty (nx s) (s.size + 1) 0).2 = q at *
  have hq' : (q : Int) < (s.size : Int) := by omega
  go_enter Try.func31, Try.ntmps31
  go_wp2_with fail
  refine H.mono ?_
  rintro e w1 ⟨c0, c1, c2, rfl, hk, ha, hr⟩
  obtain ⟨⟨x0, rfl⟩, ⟨x1, rfl⟩, ⟨ea, en, ec, rfl⟩⟩ := rep_shape hr
  clear H hr
  have hp := fun o => (ha.alloc o).place
  have hk' := ((Keeps.refl (w.heap.size + 1) (w.alloc zero63)).alloc _).trans hk
  have hb1 := ha.lt
  go_wp2_with fail
  refine (wrong_any (w.heap.size + 1) q s _ (ha.alloc _)).mono ?_
  rintro e w2 ⟨rfl, hk2⟩
  go_wp2
  exact ⟨rfl, rfl, below_of ((hk'.alloc _).trans hk2) (by omega)⟩

set_option maxHeartbeats 1000000 in
theorem read_end (s : ByteArray) (w : World) (hs : s.size ≤ 40) (hT : (Pt.ty (nx s) (s.size + 1) 0).1 = true) (hq : (Pt.ty (nx s) (s.size + 1) 0).2 = s.size) :
    Calls Try.prog 31 #[.string s] w fun e w' => (if 4 < Pt.dep (nx s) (s.size + 1) 0 then e = gaveUp 3 0 else ∃ c0 c1 c2, e = .returned (.agg #[c0, c1, c2]) ∧ Rep w' (fun k => w.heap.size ≤ k) (nx s) (s.size + 1) 0 c0 c1 c2) ∧ Below w.heap.size w w' := by
  have H := one_in s hs w
  unfold TyPost at H
  simp only [hT, if_true, hq] at H
  clear hT hq
  have hD := fun S c0 c1 c2 w' h => depth_any (nx s) (s.size + 1) (by omega) 0 S c0 c1 c2 w' h
  generalize hd : Pt.dep (nx s) (s.size + 1) 0 = d at *
  have hd41 : d ≤ 41 := by have := dep_le (nx s) (s.size + 1) 0; omega
  have HD := hide hD
  clear hD hd
  by_cases h4 : 4 < d
  · have h4' : (4 : Int) < (d : Int) := by omega
    simp only [h4, if_true]
    go_enter Try.func31, Try.ntmps31
    go_wp2_with fail
    refine H.mono ?_
    rintro e w1 ⟨c0, c1, c2, rfl, hk, ha, hr⟩
    clear H
    obtain ⟨⟨x0, rfl⟩, ⟨x1, rfl⟩, ⟨ea, en, ec, rfl⟩⟩ := rep_shape hr
    have hp := fun o => (ha.alloc o).place
    have hk' := ((Keeps.refl (w.heap.size + 1) (w.alloc zero63)).alloc _).trans hk
    have HR := hide (fun o => rep_above ((Above.refl _ _).alloc o) hr)
    clear hr
    go_wp2_with fail
    refine ((unhide HD) _ _ _ _ _ (unhide HR _)).mono ?_
    rintro e w2 ⟨rfl, hb2⟩
    go_wp2
    refine ⟨rfl, rfl, (below_of (hk'.alloc (.cells #[.int .u8 x0, .int .i64 x1, .slice ea en ec] 75)) (by omega)).trans (hb2.mono ?_)⟩
    have := hk'.size
    simp at this ⊢
    omega
  · have h4' : ¬ (4 : Int) < (d : Int) := by omega
    simp only [h4, if_false]
    go_enter Try.func31, Try.ntmps31
    go_wp2_with fail
    refine H.mono ?_
    rintro e w1 ⟨c0, c1, c2, rfl, hk, ha, hr⟩
    clear H
    obtain ⟨⟨x0, rfl⟩, ⟨x1, rfl⟩, ⟨ea, en, ec, rfl⟩⟩ := rep_shape hr
    have hp := fun o => (ha.alloc o).place
    have hk' := ((Keeps.refl (w.heap.size + 1) (w.alloc zero63)).alloc _).trans hk
    have T0 := ((Tri.new w (.int .u8 0) (.int .i64 0) (.slice none 0 0)).keeps hk' (by omega)).alloc (.cells #[.int .u8 x0, .int .i64 x1, .slice ea en ec] 75)
    have T1 := Tri.new w1 (.int .u8 x0) (.int .i64 x1) (.slice ea en ec)
    have hl1 := T0.lt
    have hz1 : w.heap.size + 1 < w1.heap.size := ha.lt
    have HR := hide hr
    clear hr
    go_wp2_with fail
    refine ((unhide HD) _ _ _ _ _ (rep_above ((Above.refl _ _).alloc _) (unhide HR))).mono ?_
    rintro e w2 ⟨rfl, hb2⟩
    have hbk : ∀ k o, k < w1.heap.size + 1 → w2.cell? ⟨k, o, none⟩ = (w1.alloc (.cells #[.int .u8 x0, .int .i64 x1, .slice ea en ec] 75)).cell? ⟨k, o, none⟩ := fun k o hk => hb2.cell (p := ⟨k, o, none⟩) (by simpa using hk)
    have hfk : ∀ k o, k < w1.heap.size + 1 → w2.frozen? ⟨k, o, none⟩ = (w1.alloc (.cells #[.int .u8 x0, .int .i64 x1, .slice ea en ec] 75)).frozen? ⟨k, o, none⟩ := fun k o hk => hb2.frozen (p := ⟨k, o, none⟩) (by simpa using hk)
    obtain ⟨u0, u1, u2, v0, v1, v2⟩ := T0.facts
    obtain ⟨x0', x1', x2', y0, y1, y2⟩ := T1.facts
    rw [← hbk _ _ (by omega)] at u0 u1 u2 x0' x1' x2'
    rw [← hfk _ _ (by omega)] at v0 v1 v2 y0 y1 y2
    clear hbk hfk T0 T1
    go_wp2
    have hz2 := hb2.size
    have hk1s := hk.size
    simp at hz2 hk1s
    refine bodyPost_ret (v := .agg #[.int .u8 x0, .int .i64 x1, .slice ea en ec]) (by simp [results, Try.results31, go_sem, u0, u1, u2]) rfl ⟨⟨_, _, _, rfl, ?_⟩, ?_⟩
    · have h1 : Rep w1 (fun k => w.heap.size + 2 ≤ k) (nx s) (s.size + 1) 0 (.int .u8 x0) (.int .i64 x1) (.slice ea en ec) := by simpa using unhide HR
      have h2 := rep_above (((Above.refl _ _).alloc (.cells #[.int .u8 x0, .int .i64 x1, .slice ea en ec] 75)).trans (⟨hb2.size, fun k _ hl => hb2.block k hl⟩ : Above (fun k => w.heap.size + 2 ≤ k) _ w2)) h1
      refine rep_mono (fun k hk _ => by omega) (rep_above ?_ h2)
      exact (((Above.refl _ _).setCell (by simp) _).setCell (by simp) _).setCell (by simp) _
    · have h1 := (below_of (hk'.alloc (.cells #[.int .u8 x0, .int .i64 x1, .slice ea en ec] 75)) (by omega)).trans (hb2.mono (by simp; omega))
      exact ((h1.setCell (by simp) _).setCell (by simp) _).setCell (by simp) _

end Go.Proofs.Ytblomippkddgiaa.V
