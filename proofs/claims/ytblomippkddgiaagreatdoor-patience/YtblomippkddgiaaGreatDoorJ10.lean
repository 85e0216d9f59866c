/-
  Joined: VCheck VFace VAlone.
-/
import Derived.Test.YtblomippkddgiaaGreatDoorJ08
import Derived.Defers
import Derived.Recover
import Derived.Test.YtblomippkddgiaaGreatDoorJ09
/-
  The landed code's Read of a type, and Check over it: what gives up by panic is caught at the face.
-/
namespace Go.Proofs.YtblomippkddgiaaGreatDoor.V
open Go.RowKit

abbrev faultOf (n q : Nat) : Value := .agg #[.int .i64 n, .int .i64 q]
abbrev gaveUp (n q : Nat) : Ending := .panicked [{ v := .iface 86 (faultOf n q), recovered := false }]

theorem at_new (w : World) (s : ByteArray) : At (w.alloc (.cells #[.string s, .int .i64 0] 206)) w.heap.size s 0 := by
  show (w.heap.push _)[w.heap.size]? = _
  rw [Array.getElem?_push_size]
  rfl

set_option maxHeartbeats 1000000 in
theorem read_long (s : ByteArray) (w : World) (hs : ¬ s.size ≤ 40) :
    Calls Tryz.prog 78 #[.string s] w fun e w' => e = gaveUp 1 0 ∧ Below w.heap.size w w' := by
  have h : (40 : Int) < (s.size : Int) := by omega
  clear hs
  go_enter Tryz.func78, Tryz.ntmps78
  go_wp2
  exact ⟨rfl, rfl, (Below.refl _ _).alloc (Nat.le_refl _) _⟩

theorem below_of {w v : World} {b : Nat} (hk : Keeps b (w.alloc zero63) v) (hb : w.heap.size ≤ b) : Below w.heap.size w v :=
  ((Below.refl _ _).alloc (Nat.le_refl _) zero63).trans ⟨hk.os, hk.tape, hk.output, hk.size, fun k h => hk.block k (by simp; omega) (by omega)⟩

theorem one_in (s : ByteArray) (hs : s.size ≤ 40) (w : World) : Calls Tryz.prog 128 #[.pointer (some ⟨w.heap.size + 1, 0, none⟩)] ((w.alloc zero63).alloc (.cells #[.string s, .int .i64 0] 206)) (TyPost (w.heap.size + 1) s (s.size + 1) 0 ((w.alloc zero63).alloc (.cells #[.string s, .int .i64 0] 206))) := by
  have h := at_new (w.alloc zero63) s
  have e : (w.alloc zero63).heap.size = w.heap.size + 1 := by simp
  rw [e] at h
  exact one_any (w.heap.size + 1) s hs (s.size + 1) 0 _ h (by omega) (by omega)

set_option maxHeartbeats 1000000 in
theorem read_wrong (s : ByteArray) (w : World) (hs : s.size ≤ 40) (hT : (Pt.ty (nx s) (s.size + 1) 0).1 = false) :
    Calls Tryz.prog 78 #[.string s] w fun e w' => e = gaveUp 2 (Pt.ty (nx s) (s.size + 1) 0).2 ∧ Below w.heap.size w w' := by
  have H := one_in s hs w
  unfold TyPost at H
  simp only [hT, Bool.false_eq_true, if_false] at H
  clear hT
  go_enter Tryz.func78, Tryz.ntmps78
  go_wp2_with fail
  refine H.mono ?_
  rintro e w1 ⟨rfl, hk⟩
  go_wp2
  exact ⟨rfl, rfl, below_of (((Keeps.refl _ _).alloc _).trans hk) (by omega)⟩

set_option maxHeartbeats 1000000 in
theorem read_more (s : ByteArray) (w : World) (hs : s.size ≤ 40) (hT : (Pt.ty (nx s) (s.size + 1) 0).1 = true) (hq : (Pt.ty (nx s) (s.size + 1) 0).2 < s.size) :
    Calls Tryz.prog 78 #[.string s] w fun e w' => e = gaveUp 2 (Pt.ty (nx s) (s.size + 1) 0).2 ∧ Below w.heap.size w w' := by
  have H := one_in s hs w
  unfold TyPost at H
  simp only [hT, if_true] at H
  clear hT
  generalize (Pt.ty (nx s) (s.size + 1) 0).2 = q at *
  have hq' : (q : Int) < (s.size : Int) := by omega
  go_enter Tryz.func78, Tryz.ntmps78
  go_wp2_with fail
  refine H.mono ?_
  rintro e w1 ⟨c0, c1, c2, rfl, hk, ha, hr⟩
  obtain ⟨⟨x0, rfl⟩, ⟨x1, rfl⟩, ⟨ea, en, ec, rfl⟩⟩ := rep_shape hr
  clear H hr
  have hp := fun o => (ha.alloc o).place
  have hk' := ((Keeps.refl (w.heap.size + 1) (w.alloc zero63)).alloc _).trans hk
  have hb1 := ha.lt
  go_wp2_with fail
  refine (wrong_any (w.heap.size + 1) q s _ (ha.alloc _)).mono ?_
  rintro e w2 ⟨rfl, hk2⟩
  go_wp2
  exact ⟨rfl, rfl, below_of ((hk'.alloc _).trans hk2) (by omega)⟩

set_option maxHeartbeats 1000000 in
theorem read_end (s : ByteArray) (w : World) (hs : s.size ≤ 40) (hT : (Pt.ty (nx s) (s.size + 1) 0).1 = true) (hq : (Pt.ty (nx s) (s.size + 1) 0).2 = s.size) :
    Calls Tryz.prog 78 #[.string s] w fun e w' => (if 4 < Pt.dep (nx s) (s.size + 1) 0 then e = gaveUp 3 0 else ∃ c0 c1 c2, e = .returned (.agg #[c0, c1, c2]) ∧ Rep w' (fun k => w.heap.size ≤ k) (nx s) (s.size + 1) 0 c0 c1 c2) ∧ Below w.heap.size w w' := by
  have H := one_in s hs w
  unfold TyPost at H
  simp only [hT, if_true, hq] at H
  clear hT hq
  have hD := fun S c0 c1 c2 w' h => depth_any (nx s) (s.size + 1) (by omega) 0 S c0 c1 c2 w' h
  generalize hd : Pt.dep (nx s) (s.size + 1) 0 = d at *
  have hd41 : d ≤ 41 := by have := dep_le (nx s) (s.size + 1) 0; omega
  have HD := hide hD
  clear hD hd
  by_cases h4 : 4 < d
  · have h4' : (4 : Int) < (d : Int) := by omega
    simp only [h4, if_true]
    go_enter Tryz.func78, Tryz.ntmps78
    go_wp2_with fail
    refine H.mono ?_
    rintro e w1 ⟨c0, c1, c2, rfl, hk, ha, hr⟩
    clear H
    obtain ⟨⟨x0, rfl⟩, ⟨x1, rfl⟩, ⟨ea, en, ec, rfl⟩⟩ := rep_shape hr
    have hp := fun o => (ha.alloc o).place
    have hk' := ((Keeps.refl (w.heap.size + 1) (w.alloc zero63)).alloc _).trans hk
    have HR := hide (fun o => rep_above ((Above.refl _ _).alloc o) hr)
    clear hr
    go_wp2_with fail
    refine ((unhide HD) _ _ _ _ _ (unhide HR _)).mono ?_
    rintro e w2 ⟨rfl, hb2⟩
    go_wp2
    refine ⟨rfl, rfl, (below_of (hk'.alloc (.cells #[.int .u8 x0, .int .i64 x1, .slice ea en ec] 153)) (by omega)).trans (hb2.mono ?_)⟩
    have := hk'.size
    simp at this ⊢
    omega
  · have h4' : ¬ (4 : Int) < (d : Int) := by omega
    simp only [h4, if_false]
    go_enter Tryz.func78, Tryz.ntmps78
    go_wp2_with fail
    refine H.mono ?_
    rintro e w1 ⟨c0, c1, c2, rfl, hk, ha, hr⟩
    clear H
    obtain ⟨⟨x0, rfl⟩, ⟨x1, rfl⟩, ⟨ea, en, ec, rfl⟩⟩ := rep_shape hr
    have hp := fun o => (ha.alloc o).place
    have hk' := ((Keeps.refl (w.heap.size + 1) (w.alloc zero63)).alloc _).trans hk
    have T0 := ((Tri.new w (.int .u8 0) (.int .i64 0) (.slice none 0 0)).keeps hk' (by omega)).alloc (.cells #[.int .u8 x0, .int .i64 x1, .slice ea en ec] 153)
    have T1 := Tri.new w1 (.int .u8 x0) (.int .i64 x1) (.slice ea en ec)
    have hl1 := T0.lt
    have hz1 : w.heap.size + 1 < w1.heap.size := ha.lt
    have HR := hide hr
    clear hr
    go_wp2_with fail
    refine ((unhide HD) _ _ _ _ _ (rep_above ((Above.refl _ _).alloc _) (unhide HR))).mono ?_
    rintro e w2 ⟨rfl, hb2⟩
    have hbk : ∀ k o, k < w1.heap.size + 1 → w2.cell? ⟨k, o, none⟩ = (w1.alloc (.cells #[.int .u8 x0, .int .i64 x1, .slice ea en ec] 153)).cell? ⟨k, o, none⟩ := fun k o hk => hb2.cell (p := ⟨k, o, none⟩) (by simpa using hk)
    have hfk : ∀ k o, k < w1.heap.size + 1 → w2.frozen? ⟨k, o, none⟩ = (w1.alloc (.cells #[.int .u8 x0, .int .i64 x1, .slice ea en ec] 153)).frozen? ⟨k, o, none⟩ := fun k o hk => hb2.frozen (p := ⟨k, o, none⟩) (by simpa using hk)
    obtain ⟨u0, u1, u2, v0, v1, v2⟩ := T0.facts
    obtain ⟨x0', x1', x2', y0, y1, y2⟩ := T1.facts
    rw [← hbk _ _ (by omega)] at u0 u1 u2 x0' x1' x2'
    rw [← hfk _ _ (by omega)] at v0 v1 v2 y0 y1 y2
    clear hbk hfk T0 T1
    go_wp2
    have hz2 := hb2.size
    have hk1s := hk.size
    simp at hz2 hk1s
    refine bodyPost_ret (v := .agg #[.int .u8 x0, .int .i64 x1, .slice ea en ec]) (by simp [results, Tryz.results78, go_sem, u0, u1, u2]) rfl ⟨⟨_, _, _, rfl, ?_⟩, ?_⟩
    · have h1 : Rep w1 (fun k => w.heap.size + 2 ≤ k) (nx s) (s.size + 1) 0 (.int .u8 x0) (.int .i64 x1) (.slice ea en ec) := by simpa using unhide HR
      have h2 := rep_above (((Above.refl _ _).alloc (.cells #[.int .u8 x0, .int .i64 x1, .slice ea en ec] 153)).trans (⟨hb2.size, fun k _ hl => hb2.block k hl⟩ : Above (fun k => w.heap.size + 2 ≤ k) _ w2)) h1
      refine rep_mono (fun k hk _ => by omega) (rep_above ?_ h2)
      exact (((Above.refl _ _).setCell (by simp) _).setCell (by simp) _).setCell (by simp) _
    · have h1 := (below_of (hk'.alloc (.cells #[.int .u8 x0, .int .i64 x1, .slice ea en ec] 153)) (by omega)).trans (hb2.mono (by simp; omega))
      exact ((h1.setCell (by simp) _).setCell (by simp) _).setCell (by simp) _

end Go.Proofs.YtblomippkddgiaaGreatDoor.V
/-
  The face: Check catches what Read gave up with.
-/
namespace Go.Proofs.YtblomippkddgiaaGreatDoor.V
open Go.RowKit

theorem assert_fault (n q : Nat) (w : World) : (Instr.typeAssert (.iface 86 (faultOf n q)) 20 86 true).run Tryz.prog w = .ok (.tuple #[faultOf n q, .bool true]) w := by kernel_rfl

set_option maxRecDepth 100000 in
set_option maxHeartbeats 200000 in
theorem caught_any (n q : Nat) (w : World) :
    Calls Tryz.prog 34 #[.iface 86 (faultOf n q)] w fun e w' => e = .returned (faultOf n q) ∧ Below w.heap.size w w' := by
  have hta := assert_fault n q
  go_enter Tryz.func34, Tryz.ntmps34
  go_wp2
  exact bodyPost_ret (v := faultOf n q) (by simp [results, Tryz.results34, go_sem]) rfl ⟨rfl, ((Below.refl _ _).alloc (Nat.le_refl _) _).alloc (by simp) _⟩

theorem lt_of_cell {w : World} {k o : Nat} {v : Value} (h : w.cell? ⟨k, o, none⟩ = some v) : k < w.heap.size := by
  rcases Nat.lt_or_ge k w.heap.size with hh | hh
  · exact hh
  · simp [World.cell?, Array.getElem?_eq_none hh] at h

set_option maxHeartbeats 1000000 in
theorem catch_panicking (a0 a1 B : Nat) (n q : Nat) (older : List PanicEntry) (w : World) (h0 : w.cell? ⟨a0, 0, none⟩ = some (.int .i64 0)) (h1 : w.cell? ⟨a1, 0, none⟩ = some (.int .i64 0)) (z0 : w.frozen? ⟨a0, 0, none⟩ = false) (z1 : w.frozen? ⟨a1, 0, none⟩ = false) (hb0 : B ≤ a0) (hb1 : B ≤ a1) (hne : ¬ a0 = a1) :
    CallsD Tryz.prog 204 #[.pointer (some ⟨a0, 0, none⟩), .pointer (some ⟨a1, 0, none⟩)] (.panicking ({ v := .iface 86 (faultOf n q), recovered := false } :: older)) w fun e u' w' =>
      e = .returned (.tuple #[]) ∧ u' = .panicking ({ v := .iface 86 (faultOf n q), recovered := true } :: older) ∧ w'.cell? ⟨a0, 0, none⟩ = some (.int .i64 n) ∧ w'.cell? ⟨a1, 0, none⟩ = some (.int .i64 q) ∧ Below B w w' := by
  refine callsD_of_wpS Tryz.func204 rfl fun c₀ cs hu => ?_
  apply wpS_seq
  apply wpS_region
  simp [wpOpsS, go_sem, recoverD, hu, Tryz.ntmps204, Exit.thenS]
  rw [show (#[Value.pointer (some { block := a0, off := 0 }), Value.pointer (some { block := a1, off := 0 })] ++ ((Array.replicate 11 undef).setIfInBounds 2 (Value.iface 86 (faultOf n q))).setIfInBounds 0 (Value.iface 86 (faultOf n q))) = #[.pointer (some { block := a0, off := 0 }), .pointer (some { block := a1, off := 0 }), .iface 86 (faultOf n q), undef, .iface 86 (faultOf n q), undef, undef, undef, undef, undef, undef, undef, undef] from rfl]
  refine wpS_of_wp ?_
  go_wp2_with fail
  refine (caught_any n q _).mono ?_
  rintro e w1 ⟨rfl, hb⟩
  have l0 := lt_of_cell h0
  have l1 := lt_of_cell h1
  have s1 := hb.size
  have g0 : w1.cell? ⟨a0, 0, none⟩ = some (.int .i64 0) := (hb.cell (p := ⟨a0, 0, none⟩) l0).trans h0
  have g1 : w1.cell? ⟨a1, 0, none⟩ = some (.int .i64 0) := (hb.cell (p := ⟨a1, 0, none⟩) l1).trans h1
  have y0 : w1.frozen? ⟨a0, 0, none⟩ = false := (hb.frozen (p := ⟨a0, 0, none⟩) l0).trans z0
  have y1 : w1.frozen? ⟨a1, 0, none⟩ = false := (hb.frozen (p := ⟨a1, 0, none⟩) l1).trans z1
  have m0 : a0 < w1.heap.size := by omega
  have m1 : a1 < w1.heap.size := by omega
  have e0 : ¬ w1.heap.size = a0 := by omega
  have e1 : ¬ w1.heap.size = a1 := by omega
  have e2 : ¬ a1 = a0 := by omega
  clear h0 h1 z0 z1
  go_wp2
  go_region
  have F0 : ((((w1.setCell { block := a0, off := 0 } (Value.int IntKind.i64 ↑n)).setCell { block := a1, off := 0 } (Value.int IntKind.i64 ↑q)).alloc (Obj.cells #[Value.int IntKind.i64 ↑n, Value.int IntKind.i64 ↑q] 86)).drew).cell? ⟨a0, 0, none⟩ = some (.int .i64 n) := by simp [go_sem, g0, m0]
  have F1 : ((((w1.setCell { block := a0, off := 0 } (Value.int IntKind.i64 ↑n)).setCell { block := a1, off := 0 } (Value.int IntKind.i64 ↑q)).alloc (Obj.cells #[Value.int IntKind.i64 ↑n, Value.int IntKind.i64 ↑q] 86)).drew).cell? ⟨a1, 0, none⟩ = some (.int .i64 q) := by simp [go_sem, g1, m1]
  have FB : Below B w ((((w1.setCell { block := a0, off := 0 } (Value.int IntKind.i64 ↑n)).setCell { block := a1, off := 0 } (Value.int IntKind.i64 ↑q)).alloc (Obj.cells #[Value.int IntKind.i64 ↑n, Value.int IntKind.i64 ↑q] 86)).drew) :=
    (((((hb.mono (by omega)).setCell (by simpa using hb0) _).setCell (by simpa using hb1) _).alloc (by simp; omega) _)).drew
  show bodyPostS Tryz.prog Tryz.f204 c₀ cs _ _ _ _ _
  exact ⟨rfl, _, rfl, _, results_none rfl _ _ _, rfl, rfl, F0, F1, FB⟩

theorem catch_idle (p0 p1 : Addr) (w : World) :
    CallsD Tryz.prog 204 #[.pointer (some p0), .pointer (some p1)] .returning w fun e u' w' => e = .returned (.tuple #[]) ∧ u' = .returning ∧ w' = w := by
  refine callsD_of_wpS Tryz.func204 rfl fun c₀ cs hu => ?_
  apply wpS_seq
  apply wpS_region
  simp [wpOpsS, go_sem, recoverD, hu, Tryz.ntmps204, Exit.thenS]
  rw [show (#[Value.pointer (some p0), Value.pointer (some p1)] ++ ((Array.replicate 11 undef).setIfInBounds 2 (Value.nilIface)).setIfInBounds 0 (Value.nilIface)) = #[.pointer (some p0), .pointer (some p1), .nilIface, undef, .nilIface, undef, undef, undef, undef, undef, undef, undef, undef] from rfl]
  refine wpS_of_wp ?_
  go_wp2
  exact ⟨rfl, .returning, by cases c₀; simp_all, _, results_none rfl _ _ _, rfl, rfl, rfl⟩

abbrev face (w : World) : World := (w.alloc (.cells #[.int .i64 0] 32)).alloc (.cells #[.int .i64 0] 3)

set_option maxHeartbeats 1000000 in
theorem check_bad (s : ByteArray) (w : World) (n q : Nat) (H : Calls Tryz.prog 78 #[.string s] (face w) fun e w' => e = gaveUp n q ∧ Below (face w).heap.size (face w) w') :
    Calls Tryz.prog 146 #[.string s] w fun e w' => e = .returned (.tuple #[.int .i64 n, .int .i64 q]) ∧ Below w.heap.size w w' := by
  have hmf : ∀ (fn : Fn) (first cap : Array Value) (w : World), (Instr.makeFunc fn first cap).run Tryz.prog w = .ok (.func fn first cap) w := fun _ _ _ _ => rfl
  have HH := hide H
  clear H
  go_enter_defers Tryz.func146, Tryz.ntmps146
  go_wp2_with fail
  refine (unhide HH).mono ?_
  rintro e w1 ⟨rfl, hb⟩
  have hs := hb.size
  simp at hs
  have c0 : w1.cell? ⟨w.heap.size, 0, none⟩ = some (.int .i64 0) := (hb.cell (p := ⟨w.heap.size, 0, none⟩) (by simp; omega)).trans (by simp [go_sem])
  have c1 : w1.cell? ⟨w.heap.size + 1, 0, none⟩ = some (.int .i64 0) := (hb.cell (p := ⟨w.heap.size + 1, 0, none⟩) (by simp)).trans (by simp [go_sem])
  have z0 : w1.frozen? ⟨w.heap.size, 0, none⟩ = false := (hb.frozen (p := ⟨w.heap.size, 0, none⟩) (by simp; omega)).trans (by simp [go_sem])
  have z1 : w1.frozen? ⟨w.heap.size + 1, 0, none⟩ = false := (hb.frozen (p := ⟨w.heap.size + 1, 0, none⟩) (by simp)).trans (by simp [go_sem])
  have hb0 : Below w.heap.size w w1 := (((Below.refl _ _).alloc (Nat.le_refl _) _).alloc (by simp) _).trans (hb.mono (by simp; omega))
  go_wp2
  refine leaves_cons (f := 204) (args := #[.pointer (some ⟨w.heap.size, 0, none⟩), .pointer (some ⟨w.heap.size + 1, 0, none⟩)]) (by simp) (by simp [go_sem]) ?_
  refine (catch_panicking w.heap.size (w.heap.size + 1) w.heap.size n q [] _ c0 c1 z0 z1 (Nat.le_refl _) (by omega) (by omega)).mono ?_
  rintro e u' w'' ⟨rfl, rfl, f0, f1, fb⟩
  simp [Leaves, settle, results, Tryz.results146, go_sem, f0, f1]
  exact hb0.trans fb

set_option maxHeartbeats 1000000 in
theorem check_good (s : ByteArray) (w : World) (H : Calls Tryz.prog 78 #[.string s] (face w) fun e w' => (∃ c0 c1 c2, e = .returned (.agg #[c0, c1, c2])) ∧ Below (face w).heap.size (face w) w') :
    Calls Tryz.prog 146 #[.string s] w fun e w' => e = .returned (.tuple #[.int .i64 0, .int .i64 0]) ∧ Below w.heap.size w w' := by
  have hmf : ∀ (fn : Fn) (first cap : Array Value) (w : World), (Instr.makeFunc fn first cap).run Tryz.prog w = .ok (.func fn first cap) w := fun _ _ _ _ => rfl
  have HH := hide H
  clear H
  go_enter_defers Tryz.func146, Tryz.ntmps146
  go_wp2_with fail
  refine (unhide HH).mono ?_
  rintro e w1 ⟨⟨x0, x1, x2, rfl⟩, hb⟩
  have hs := hb.size
  simp at hs
  have c0 : w1.cell? ⟨w.heap.size, 0, none⟩ = some (.int .i64 0) := (hb.cell (p := ⟨w.heap.size, 0, none⟩) (by simp; omega)).trans (by simp [go_sem])
  have c1 : w1.cell? ⟨w.heap.size + 1, 0, none⟩ = some (.int .i64 0) := (hb.cell (p := ⟨w.heap.size + 1, 0, none⟩) (by simp)).trans (by simp [go_sem])
  have z0 : w1.frozen? ⟨w.heap.size, 0, none⟩ = false := (hb.frozen (p := ⟨w.heap.size, 0, none⟩) (by simp; omega)).trans (by simp [go_sem])
  have z1 : w1.frozen? ⟨w.heap.size + 1, 0, none⟩ = false := (hb.frozen (p := ⟨w.heap.size + 1, 0, none⟩) (by simp)).trans (by simp [go_sem])
  have hb0 : Below w.heap.size w w1 := (((Below.refl _ _).alloc (Nat.le_refl _) _).alloc (by simp) _).trans (hb.mono (by simp; omega))
  go_wp2
  refine leaves_cons (f := 204) (args := #[.pointer (some ⟨w.heap.size, 0, none⟩), .pointer (some ⟨w.heap.size + 1, 0, none⟩)]) (by simp) (by simp [go_sem]) ?_
  refine (catch_idle _ _ _).mono ?_
  rintro e u' w'' ⟨rfl, rfl, rfl⟩
  simp [Leaves, settle, results, Tryz.results146, go_sem, c0, c1]
  exact (hb0.setCell (by simp) _).setCell (by simp) _
end Go.Proofs.YtblomippkddgiaaGreatDoor.V
/-
  The document's own 'alone': a value that begins with an item of its own.
-/
namespace Go.Proofs.YtblomippkddgiaaGreatDoor.V
open Go.RowKit

theorem vI_join (i : Nat) (ks : List Bool) (e : Eaten) : vI i (joinE ks e) = vI (i + ks.length) e := by
  cases e with
  | none => rfl
  | some e => obtain ⟨a, b⟩ := e; simp only [joinE, vI, List.length_append]; omega

set_option maxRecDepth 100000 in
set_option maxHeartbeats 1000000 in
theorem alone_out (s : ByteArray) (p n : Nat) (a : Option Addr) (cap : Nat) (w : World) :
    Calls Tryz.prog 259 #[.string s, .int .i64 p, .slice a n cap, .int .i64 n] w fun e w' => e = .returned (.int .i64 (-1)) ∧ Below w.heap.size w w' := by
  go_enter Tryz.func259, Tryz.ntmps259
  go_wp2
  go_ret
  exact ⟨rfl, Below.refl _ _⟩

set_option maxRecDepth 100000 in
set_option maxHeartbeats 1000000 in
theorem alone_s (s : ByteArray) (p n i b off cap : Nat) (N : Int) (S : ByteArray) (w : World) (hp : p < s.size) (hi : i < n) (hn : n ≤ 9000000000000) (f0 : w.cell? ⟨b, off + i * 2, none⟩ = some (.int .i64 N)) (f1 : w.cell? ⟨b, off + i * 2 + 1, none⟩ = some (.string S)) (hc : nx s p = 115) (h1 : (N != 0) = false) (h2 : ¬ (14 : Int) < (S.size : Int)) :
    Calls Tryz.prog 259 #[.string s, .int .i64 p, .slice (some ⟨b, off, none⟩) n cap, .int .i64 i] w fun e w' => e = .returned (.int .i64 ((i : Int) + 1)) ∧ Below w.heap.size w w' := by
  have hby := byte_fact hp hc
  have hlt : ¬ ((n : Int) ≤ (i : Int)) := by omega
  go_enter Tryz.func259, Tryz.ntmps259
  go_wp2
  go_ret
  exact ⟨rfl, (Below.refl _ _).alloc (Nat.le_refl _) _⟩

set_option maxRecDepth 100000 in
set_option maxHeartbeats 1000000 in
theorem alone_s1 (s : ByteArray) (p n i b off cap : Nat) (N : Int) (S : ByteArray) (w : World) (hp : p < s.size) (hi : i < n) (hn : n ≤ 9000000000000) (f0 : w.cell? ⟨b, off + i * 2, none⟩ = some (.int .i64 N)) (f1 : w.cell? ⟨b, off + i * 2 + 1, none⟩ = some (.string S)) (hc : nx s p = 115) (h1 : (N != 0) = true) :
    Calls Tryz.prog 259 #[.string s, .int .i64 p, .slice (some ⟨b, off, none⟩) n cap, .int .i64 i] w fun e w' => e = .returned (.int .i64 (-1)) ∧ Below w.heap.size w w' := by
  have hby := byte_fact hp hc
  have hlt : ¬ ((n : Int) ≤ (i : Int)) := by omega
  go_enter Tryz.func259, Tryz.ntmps259
  go_wp2
  go_ret
  exact ⟨rfl, (Below.refl _ _).alloc (Nat.le_refl _) _⟩

set_option maxRecDepth 100000 in
set_option maxHeartbeats 1000000 in
theorem alone_s2 (s : ByteArray) (p n i b off cap : Nat) (N : Int) (S : ByteArray) (w : World) (hp : p < s.size) (hi : i < n) (hn : n ≤ 9000000000000) (f0 : w.cell? ⟨b, off + i * 2, none⟩ = some (.int .i64 N)) (f1 : w.cell? ⟨b, off + i * 2 + 1, none⟩ = some (.string S)) (hc : nx s p = 115) (h1 : (N != 0) = false) (h2 : (14 : Int) < (S.size : Int)) :
    Calls Tryz.prog 259 #[.string s, .int .i64 p, .slice (some ⟨b, off, none⟩) n cap, .int .i64 i] w fun e w' => e = .returned (.int .i64 (-1)) ∧ Below w.heap.size w w' := by
  have hby := byte_fact hp hc
  have hlt : ¬ ((n : Int) ≤ (i : Int)) := by omega
  go_enter Tryz.func259, Tryz.ntmps259
  go_wp2
  go_ret
  exact ⟨rfl, (Below.refl _ _).alloc (Nat.le_refl _) _⟩

set_option maxRecDepth 100000 in
set_option maxHeartbeats 1000000 in
theorem alone_n1 (s : ByteArray) (p n i b off cap : Nat) (N : Int) (S : ByteArray) (w : World) (hp : p < s.size) (hi : i < n) (hn : n ≤ 9000000000000) (f0 : w.cell? ⟨b, off + i * 2, none⟩ = some (.int .i64 N)) (f1 : w.cell? ⟨b, off + i * 2 + 1, none⟩ = some (.string S)) (lo hi' : Int) (HM : ∀ w, Calls Tryz.prog 243 #[.string s, .int .i64 p] w fun e w' => e = .returned (.tuple #[.int .i64 lo, .int .i64 hi']) ∧ Below w.heap.size w w') (hne : ((((s[p]).toNat : Nat) : Int) == 115) = false) (hS : ¬ S.toList = []) :
    Calls Tryz.prog 259 #[.string s, .int .i64 p, .slice (some ⟨b, off, none⟩) n cap, .int .i64 i] w fun e w' => e = .returned (.int .i64 (-1)) ∧ Below w.heap.size w w' := by
  have hlt : ¬ ((n : Int) ≤ (i : Int)) := by omega
  have HMM := hide HM
  clear HM
  go_enter Tryz.func259, Tryz.ntmps259
  go_wp2_with fail
  refine ((unhide HMM) _).mono ?_
  rintro e w1 ⟨rfl, hb1⟩
  have g0 : w1.cell? ⟨w.heap.size, 0, none⟩ = some (.int .i64 N) := (hb1.cell (p := ⟨w.heap.size, 0, none⟩) (by simp)).trans (by simp [go_sem])
  have g1 : w1.cell? ⟨w.heap.size, 1, none⟩ = some (.string S) := (hb1.cell (p := ⟨w.heap.size, 1, none⟩) (by simp)).trans (by simp [go_sem])
  have hb : Below w.heap.size w w1 := ((Below.refl _ _).alloc (Nat.le_refl _) _).trans (hb1.mono (by simp))
  have hsz : w.heap.size < w1.heap.size := by have := hb1.size; simp at this; omega
  clear f0 f1 hb1
  go_wp2
  go_ret
  exact ⟨rfl, hb⟩

set_option maxRecDepth 100000 in
set_option maxHeartbeats 1000000 in
theorem alone_n2 (s : ByteArray) (p n i b off cap : Nat) (N : Int) (S : ByteArray) (w : World) (hp : p < s.size) (hi : i < n) (hn : n ≤ 9000000000000) (f0 : w.cell? ⟨b, off + i * 2, none⟩ = some (.int .i64 N)) (f1 : w.cell? ⟨b, off + i * 2 + 1, none⟩ = some (.string S)) (lo hi' : Int) (HM : ∀ w, Calls Tryz.prog 243 #[.string s, .int .i64 p] w fun e w' => e = .returned (.tuple #[.int .i64 lo, .int .i64 hi']) ∧ Below w.heap.size w w') (hne : ((((s[p]).toNat : Nat) : Int) == 115) = false) (hS : S.toList = []) (hl : N < lo) :
    Calls Tryz.prog 259 #[.string s, .int .i64 p, .slice (some ⟨b, off, none⟩) n cap, .int .i64 i] w fun e w' => e = .returned (.int .i64 (-1)) ∧ Below w.heap.size w w' := by
  have hlt : ¬ ((n : Int) ≤ (i : Int)) := by omega
  have HMM := hide HM
  clear HM
  go_enter Tryz.func259, Tryz.ntmps259
  go_wp2_with fail
  refine ((unhide HMM) _).mono ?_
  rintro e w1 ⟨rfl, hb1⟩
  have g0 : w1.cell? ⟨w.heap.size, 0, none⟩ = some (.int .i64 N) := (hb1.cell (p := ⟨w.heap.size, 0, none⟩) (by simp)).trans (by simp [go_sem])
  have g1 : w1.cell? ⟨w.heap.size, 1, none⟩ = some (.string S) := (hb1.cell (p := ⟨w.heap.size, 1, none⟩) (by simp)).trans (by simp [go_sem])
  have hb : Below w.heap.size w w1 := ((Below.refl _ _).alloc (Nat.le_refl _) _).trans (hb1.mono (by simp))
  have hsz : w.heap.size < w1.heap.size := by have := hb1.size; simp at this; omega
  clear f0 f1 hb1
  go_wp2
  go_ret
  exact ⟨rfl, hb⟩

set_option maxRecDepth 100000 in
set_option maxHeartbeats 1000000 in
theorem alone_n3 (s : ByteArray) (p n i b off cap : Nat) (N : Int) (S : ByteArray) (w : World) (hp : p < s.size) (hi : i < n) (hn : n ≤ 9000000000000) (f0 : w.cell? ⟨b, off + i * 2, none⟩ = some (.int .i64 N)) (f1 : w.cell? ⟨b, off + i * 2 + 1, none⟩ = some (.string S)) (lo hi' : Int) (HM : ∀ w, Calls Tryz.prog 243 #[.string s, .int .i64 p] w fun e w' => e = .returned (.tuple #[.int .i64 lo, .int .i64 hi']) ∧ Below w.heap.size w w') (hne : ((((s[p]).toNat : Nat) : Int) == 115) = false) (hS : S.toList = []) (hl : ¬ N < lo) (hh : hi' < N) :
    Calls Tryz.prog 259 #[.string s, .int .i64 p, .slice (some ⟨b, off, none⟩) n cap, .int .i64 i] w fun e w' => e = .returned (.int .i64 (-1)) ∧ Below w.heap.size w w' := by
  have hlt : ¬ ((n : Int) ≤ (i : Int)) := by omega
  have HMM := hide HM
  clear HM
  go_enter Tryz.func259, Tryz.ntmps259
  go_wp2_with fail
  refine ((unhide HMM) _).mono ?_
  rintro e w1 ⟨rfl, hb1⟩
  have g0 : w1.cell? ⟨w.heap.size, 0, none⟩ = some (.int .i64 N) := (hb1.cell (p := ⟨w.heap.size, 0, none⟩) (by simp)).trans (by simp [go_sem])
  have g1 : w1.cell? ⟨w.heap.size, 1, none⟩ = some (.string S) := (hb1.cell (p := ⟨w.heap.size, 1, none⟩) (by simp)).trans (by simp [go_sem])
  have hb : Below w.heap.size w w1 := ((Below.refl _ _).alloc (Nat.le_refl _) _).trans (hb1.mono (by simp))
  have hsz : w.heap.size < w1.heap.size := by have := hb1.size; simp at this; omega
  clear f0 f1 hb1
  go_wp2
  go_ret
  exact ⟨rfl, hb⟩

set_option maxRecDepth 100000 in
set_option maxHeartbeats 1000000 in
theorem alone_leaf (s : ByteArray) (p n i b off cap : Nat) (N : Int) (S : ByteArray) (w : World) (hp : p < s.size) (hi : i < n) (hn : n ≤ 9000000000000) (f0 : w.cell? ⟨b, off + i * 2, none⟩ = some (.int .i64 N)) (f1 : w.cell? ⟨b, off + i * 2 + 1, none⟩ = some (.string S)) (lo hi' : Int) (HM : ∀ w, Calls Tryz.prog 243 #[.string s, .int .i64 p] w fun e w' => e = .returned (.tuple #[.int .i64 lo, .int .i64 hi']) ∧ Below w.heap.size w w') (hne : ((((s[p]).toNat : Nat) : Int) == 115) = false) (hS : S.toList = []) (hl : ¬ N < lo) (hh : ¬ hi' < N) (hu : ((((s[p]).toNat : Nat) : Int) == 117) = false) (hq : ((((s[p]).toNat : Nat) : Int) == 113) = false) :
    Calls Tryz.prog 259 #[.string s, .int .i64 p, .slice (some ⟨b, off, none⟩) n cap, .int .i64 i] w fun e w' => e = .returned (.int .i64 ((i : Int) + 1)) ∧ Below w.heap.size w w' := by
  have hlt : ¬ ((n : Int) ≤ (i : Int)) := by omega
  have HMM := hide HM
  clear HM
  go_enter Tryz.func259, Tryz.ntmps259
  go_wp2_with fail
  refine ((unhide HMM) _).mono ?_
  rintro e w1 ⟨rfl, hb1⟩
  have g0 : w1.cell? ⟨w.heap.size, 0, none⟩ = some (.int .i64 N) := (hb1.cell (p := ⟨w.heap.size, 0, none⟩) (by simp)).trans (by simp [go_sem])
  have g1 : w1.cell? ⟨w.heap.size, 1, none⟩ = some (.string S) := (hb1.cell (p := ⟨w.heap.size, 1, none⟩) (by simp)).trans (by simp [go_sem])
  have hb : Below w.heap.size w w1 := ((Below.refl _ _).alloc (Nat.le_refl _) _).trans (hb1.mono (by simp))
  have hsz : w.heap.size < w1.heap.size := by have := hb1.size; simp at this; omega
  clear f0 f1 hb1
  go_wp2
  refine wp_loop_rounds 1 ?_
  rw [rounds_succ]
  go_wp2
  go_ret
  exact ⟨rfl, hb⟩

set_option maxRecDepth 100000 in
set_option maxHeartbeats 1000000 in
theorem alone_u (s : ByteArray) (p n i b off cap : Nat) (N : Int) (S : ByteArray) (w : World) (hp : p < s.size) (hi : i < n) (hn : n ≤ 9000000000000) (f0 : w.cell? ⟨b, off + i * 2, none⟩ = some (.int .i64 N)) (f1 : w.cell? ⟨b, off + i * 2 + 1, none⟩ = some (.string S)) (lo hi' : Int) (HM : ∀ w, Calls Tryz.prog 243 #[.string s, .int .i64 p] w fun e w' => e = .returned (.tuple #[.int .i64 lo, .int .i64 hi']) ∧ Below w.heap.size w w') (hne : ((((s[p]).toNat : Nat) : Int) == 115) = false) (hS : S.toList = []) (hl : ¬ N < lo) (hh : ¬ hi' < N) (hu : ((((s[p]).toNat : Nat) : Int) == 117) = true) (q : Nat) (res : Int) (HP : ∀ w, Calls Tryz.prog 244 #[.string s, .int .i64 p, .int .i64 N] w fun e w' => e = .returned (.int .i64 q) ∧ Below w.heap.size w w')
    (HV : ∀ w', Below w.heap.size w w' → Calls Tryz.prog 239 #[.string s, .int .i64 q, .slice (some ⟨b, off, none⟩) n cap, .int .i64 ((i : Int) + 1)] w' fun e w'' => e = .returned (.int .i64 res) ∧ Below w'.heap.size w' w'') :
    Calls Tryz.prog 259 #[.string s, .int .i64 p, .slice (some ⟨b, off, none⟩) n cap, .int .i64 i] w fun e w' => e = .returned (.int .i64 res) ∧ Below w.heap.size w w' := by
  have HPP := hide HP
  have HVV := hide HV
  clear HP HV
  have hlt : ¬ ((n : Int) ≤ (i : Int)) := by omega
  have HMM := hide HM
  clear HM
  go_enter Tryz.func259, Tryz.ntmps259
  go_wp2_with fail
  refine ((unhide HMM) _).mono ?_
  rintro e w1 ⟨rfl, hb1⟩
  have g0 : w1.cell? ⟨w.heap.size, 0, none⟩ = some (.int .i64 N) := (hb1.cell (p := ⟨w.heap.size, 0, none⟩) (by simp)).trans (by simp [go_sem])
  have g1 : w1.cell? ⟨w.heap.size, 1, none⟩ = some (.string S) := (hb1.cell (p := ⟨w.heap.size, 1, none⟩) (by simp)).trans (by simp [go_sem])
  have hb : Below w.heap.size w w1 := ((Below.refl _ _).alloc (Nat.le_refl _) _).trans (hb1.mono (by simp))
  have hsz : w.heap.size < w1.heap.size := by have := hb1.size; simp at this; omega
  clear f0 f1 hb1
  go_wp2_with fail
  refine ((unhide HPP) _).mono ?_
  rintro e w2 ⟨rfl, hb2⟩
  have hb' := hb.trans (hb2.mono (by omega))
  go_wp2_with fail
  refine ((unhide HVV) _ hb').mono ?_
  rintro e w3 ⟨rfl, hb3⟩
  go_wp2
  go_ret
  exact ⟨rfl, hb'.trans (hb3.mono hb'.size)⟩

set_option maxRecDepth 100000 in
set_option maxHeartbeats 1000000 in
theorem alone_q (s : ByteArray) (p n i b off cap : Nat) (N : Int) (S : ByteArray) (w : World) (hp : p < s.size) (hi : i < n) (hn : n ≤ 9000000000000) (f0 : w.cell? ⟨b, off + i * 2, none⟩ = some (.int .i64 N)) (f1 : w.cell? ⟨b, off + i * 2 + 1, none⟩ = some (.string S)) (lo hi' : Int) (HM : ∀ w, Calls Tryz.prog 243 #[.string s, .int .i64 p] w fun e w' => e = .returned (.tuple #[.int .i64 lo, .int .i64 hi']) ∧ Below w.heap.size w w') (hne : ((((s[p]).toNat : Nat) : Int) == 115) = false) (v : List It) (E : Nat → List It → Eaten) (hv : v.length = n) (hEh : Heads (E (p + 2))) (hS : S.toList = []) (hl : ¬ N < lo) (hh : ¬ hi' < N) (hu : ((((s[p]).toNat : Nat) : Int) == 117) = false) (hq : ((((s[p]).toNat : Nat) : Int) == 113) = true) (hN0 : 0 ≤ N) (hN9 : N ≤ 9)
    (HV : ∀ (j : Nat) w', j ≤ n → Below w.heap.size w w' → Calls Tryz.prog 239 #[.string s, .int .i64 ((p : Int) + 2), .slice (some ⟨b, off, none⟩) n cap, .int .i64 j] w' fun e w'' => e = .returned (.int .i64 (vI j (E (p + 2) (v.drop j)))) ∧ Below w'.heap.size w' w'') (hpl : p ≤ 40) :
    Calls Tryz.prog 259 #[.string s, .int .i64 p, .slice (some ⟨b, off, none⟩) n cap, .int .i64 i] w fun e w' => e = .returned (.int .i64 (vI (i + 1) (seqE E (List.replicate N.toNat (p + 2)) (v.drop (i + 1))))) ∧ Below w.heap.size w w' := by
  have HVV := hide HV
  have HEH := hide hEh
  have HVL := hide hv
  clear HV hEh hv
  have hlt : ¬ ((n : Int) ≤ (i : Int)) := by omega
  have HMM := hide HM
  clear HM
  go_enter Tryz.func259, Tryz.ntmps259
  go_wp2_with fail
  refine ((unhide HMM) _).mono ?_
  rintro e w1 ⟨rfl, hb1⟩
  have g0 : w1.cell? ⟨w.heap.size, 0, none⟩ = some (.int .i64 N) := (hb1.cell (p := ⟨w.heap.size, 0, none⟩) (by simp)).trans (by simp [go_sem])
  have g1 : w1.cell? ⟨w.heap.size, 1, none⟩ = some (.string S) := (hb1.cell (p := ⟨w.heap.size, 1, none⟩) (by simp)).trans (by simp [go_sem])
  have hb : Below w.heap.size w w1 := ((Below.refl _ _).alloc (Nat.le_refl _) _).trans (hb1.mono (by simp))
  have hsz : w.heap.size < w1.heap.size := by have := hb1.size; simp at this; omega
  clear f0 f1 hb1
  go_wp2
  go_loopw [3, 12] (fun iv kv wr => ∃ k : Nat, k ≤ N.toNat ∧ kv = .int .i64 k ∧ iv = .int .i64 (vI (i + 1) (seqE E (List.replicate k (p + 2)) (v.drop (i + 1)))) ∧ Below w.heap.size w wr ∧ wr.cell? ⟨w.heap.size, 0, none⟩ = some (.int .i64 N)) (fun _ kv _ => N.toNat - (intOf kv).toNat)
  case atStart => exact ⟨0, Nat.zero_le _, rfl, by simp [seqE, vI], hb, g0⟩
  case round =>
    obtain ⟨k, hk, rfl, rfl, hbr, g0r⟩ := hrel
    clear hb g0 g1 hsz
    by_cases hkN : k < N.toNat
    · have hkI : (k : Int) < N := by omega
      cases hst : seqE E (List.replicate k (p + 2)) (v.drop (i + 1)) with
      | none =>
        have hfin : seqE E (List.replicate N.toNat (p + 2)) (v.drop (i + 1)) = none := by
          refine seqE_none E (k := k) ?_
          rw [List.take_replicate, Nat.min_eq_left hk]
          exact hst
        have HFIN := hide hfin
        rw [show vI (i + 1) none = -1 from rfl]
        clear hst hfin
        go_wp2
        go_ret
        exact ⟨by rw [unhide HFIN]; rfl, hbr⟩
      | some e =>
        obtain ⟨ks, r⟩ := e
        obtain ⟨h1, h2⟩ := seqE_heads (E := E) (List.replicate k (p + 2)) (fun q hq => by rw [(List.mem_replicate.1 hq).2]; exact unhide HEH) _ _ _ hst
        have hstep : seqE E (List.replicate (k + 1) (p + 2)) (v.drop (i + 1)) = joinE ks (E (p + 2) r) := by
          rw [List.replicate_succ', seqE_snoc, hst]
        rw [List.drop_drop] at h1
        rw [List.length_drop] at h2
        have hvl := unhide HVL
        obtain ⟨j, hj⟩ : ∃ j, j = i + 1 + ks.length := ⟨_, rfl⟩
        have hjl : j ≤ n := by omega
        have hvi : vI (i + 1) (some (ks, r)) = (j : Int) := by simp only [vI]; omega
        have hnew : vI (i + 1) (seqE E (List.replicate (k + 1) (p + 2)) (v.drop (i + 1))) = vI j (E (p + 2) (v.drop j)) := by rw [hstep, vI_join, h1, ← hj]
        rw [hvi]
        have HNEW := hide hnew
        clear hst h1 h2 hstep hj hvi hnew hvl
        go_wp2_with fail
        refine ((unhide HVV) j _ hjl hbr).mono ?_
        rintro e w2 ⟨rfl, hb2⟩
        have hb' := hbr.trans (hb2.mono hbr.size)
        have g0' : w2.cell? ⟨w.heap.size, 0, none⟩ = some (.int .i64 N) := (hb2.cell (p := ⟨w.heap.size, 0, none⟩) (lt_of_cell g0r)).trans g0r
        rw [← unhide HNEW]
        clear hb2 g0r hbr
        go_wp2
        go_roundw
        case rel => exact ⟨k + 1, by omega, by go_num, rfl, hb', g0'⟩
        case measure => simp [intOf]; omega
    · obtain rfl : k = N.toNat := by omega
      have hkI : ¬ ((N.toNat : Nat) : Int) < N := by omega
      go_wp2
      go_ret
      exact ⟨rfl, hbr⟩

end Go.Proofs.YtblomippkddgiaaGreatDoor.V
