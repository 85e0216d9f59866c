/-
  Joined: VMarshalFace VTypes VMarshal.
-/
import Derived.Test.YtblomippkddgiaaGreatDoorJ16
import Derived.Test.YtblomippkddgiaaGreatDoorJ10
import Derived.Test.YtblomippkddgiaaGreatDoorJ07
import Derived.ProofKit
import Derived.OpenShut
import Derived.ShutString
import Derived.ChangeOld
import Derived.Below
/-
  The face: Marshal catches what Read or Write gave up with.
-/
namespace Go.Proofs.YtblomippkddgiaaGreatDoor.V
open Go.RowKit

theorem field_fault (n q : Nat) (w : World) : (Instr.field 86 (faultOf n q) 0).run Tryz.prog w = .ok (.int .i64 n) w := by kernel_rfl

set_option maxRecDepth 100000 in
set_option maxHeartbeats 1000000 in
theorem mcatch_panicking (a0 a1 B : Nat) (n q : Nat) (older : List PanicEntry) (w : World) (h0 : w.cell? ⟨a0, 0, none⟩ = some (.string ⟨#[]⟩)) (h1 : w.cell? ⟨a1, 0, none⟩ = some (.int .i64 0)) (z0 : w.frozen? ⟨a0, 0, none⟩ = false) (z1 : w.frozen? ⟨a1, 0, none⟩ = false) (hb0 : B ≤ a0) (hb1 : B ≤ a1) (hne : ¬ a0 = a1) :
    CallsD Tryz.prog 76 #[.pointer (some ⟨a0, 0, none⟩), .pointer (some ⟨a1, 0, none⟩)] (.panicking ({ v := .iface 86 (faultOf n q), recovered := false } :: older)) w fun e u' w' =>
      e = .returned (.tuple #[]) ∧ u' = .panicking ({ v := .iface 86 (faultOf n q), recovered := true } :: older) ∧ w'.cell? ⟨a0, 0, none⟩ = some (.string ⟨#[]⟩) ∧ w'.cell? ⟨a1, 0, none⟩ = some (.int .i64 n) ∧ Below B w w' := by
  refine callsD_of_wpS Tryz.func76 rfl fun c₀ cs hu => ?_
  apply wpS_seq
  apply wpS_region
  simp [wpOpsS, go_sem, recoverD, hu, Tryz.ntmps76, Exit.thenS]
  rw [show (#[Value.pointer (some { block := a0, off := 0 }), Value.pointer (some { block := a1, off := 0 })] ++ ((Array.replicate 7 undef).setIfInBounds 1 (Value.iface 86 (faultOf n q))).setIfInBounds 0 (Value.iface 86 (faultOf n q))) = #[.pointer (some { block := a0, off := 0 }), .pointer (some { block := a1, off := 0 }), .iface 86 (faultOf n q), .iface 86 (faultOf n q), undef, undef, undef, undef, undef] from rfl]
  refine wpS_of_wp ?_
  have hfl := field_fault n q
  have l0 := lt_of_cell h0
  have l1 := lt_of_cell h1
  go_wp2_with fail
  refine (caught_any n q _).mono ?_
  rintro e w1 ⟨rfl, hb⟩
  have s1 := hb.size
  have g0 : w1.cell? ⟨a0, 0, none⟩ = some (.string ⟨#[]⟩) := (hb.cell (p := ⟨a0, 0, none⟩) l0).trans h0
  have g1 : w1.cell? ⟨a1, 0, none⟩ = some (.int .i64 0) := (hb.cell (p := ⟨a1, 0, none⟩) l1).trans h1
  have y0 : w1.frozen? ⟨a0, 0, none⟩ = false := (hb.frozen (p := ⟨a0, 0, none⟩) l0).trans z0
  have y1 : w1.frozen? ⟨a1, 0, none⟩ = false := (hb.frozen (p := ⟨a1, 0, none⟩) l1).trans z1
  have m0 : a0 < w1.heap.size := by omega
  have m1 : a1 < w1.heap.size := by omega
  have e2 : ¬ a1 = a0 := by omega
  clear h0 h1 z0 z1
  go_wp2
  have F0 : ((w1.setCell { block := a0, off := 0 } (.string ⟨#[]⟩)).setCell { block := a1, off := 0 } (Value.int IntKind.i64 ↑n)).cell? ⟨a0, 0, none⟩ = some (.string ⟨#[]⟩) := by simp [go_sem, g0]
  have F1 : ((w1.setCell { block := a0, off := 0 } (.string ⟨#[]⟩)).setCell { block := a1, off := 0 } (Value.int IntKind.i64 ↑n)).cell? ⟨a1, 0, none⟩ = some (.int .i64 n) := by simp [go_sem, g1]
  have FB : Below B w ((w1.setCell { block := a0, off := 0 } (.string ⟨#[]⟩)).setCell { block := a1, off := 0 } (Value.int IntKind.i64 ↑n)) :=
    ((hb.mono (by omega)).setCell (by simpa using hb0) _).setCell (by simpa using hb1) _
  show bodyPostS Tryz.prog Tryz.f76 c₀ cs _ _ _ _ _
  exact ⟨rfl, _, rfl, _, results_none rfl _ _ _, rfl, rfl, F0, F1, FB⟩

theorem mcatch_idle (p0 p1 : Addr) (w : World) :
    CallsD Tryz.prog 76 #[.pointer (some p0), .pointer (some p1)] .returning w fun e u' w' => e = .returned (.tuple #[]) ∧ u' = .returning ∧ w' = w := by
  refine callsD_of_wpS Tryz.func76 rfl fun c₀ cs hu => ?_
  apply wpS_seq
  apply wpS_region
  simp [wpOpsS, go_sem, recoverD, hu, Tryz.ntmps76, Exit.thenS]
  rw [show (#[Value.pointer (some p0), Value.pointer (some p1)] ++ ((Array.replicate 7 undef).setIfInBounds 1 (Value.nilIface)).setIfInBounds 0 (Value.nilIface)) = #[.pointer (some p0), .pointer (some p1), .nilIface, .nilIface, undef, undef, undef, undef, undef] from rfl]
  refine wpS_of_wp ?_
  go_wp2
  exact ⟨rfl, .returning, by cases c₀; simp_all, _, results_none rfl _ _ _, rfl, rfl, rfl⟩

abbrev mface (w : World) : World := (w.alloc (.cells #[.string ⟨#[]⟩] 9)).alloc (.cells #[.int .i64 0] 32)

set_option maxRecDepth 100000 in
set_option maxHeartbeats 1000000 in
theorem marshal_bad (s : ByteArray) (V : Value) (w : World) (n q : Nat) (H : Calls Tryz.prog 78 #[.string s] (mface w) fun e w' => e = gaveUp n q ∧ Below (mface w).heap.size (mface w) w') :
    Calls Tryz.prog 42 #[.string s, V] w fun e w' => e = .returned (.tuple #[.string ⟨#[]⟩, .int .i64 n]) ∧ Below w.heap.size w w' := by
  have hmf : ∀ (fn : Fn) (first cap : Array Value) (w : World), (Instr.makeFunc fn first cap).run Tryz.prog w = .ok (.func fn first cap) w := fun _ _ _ _ => rfl
  have HH := hide H
  clear H
  go_enter_defers Tryz.func42, Tryz.ntmps42
  go_wp2_with fail
  refine (unhide HH).mono ?_
  rintro e w1 ⟨rfl, hb⟩
  have hs := hb.size
  simp at hs
  have c0 : w1.cell? ⟨w.heap.size, 0, none⟩ = some (.string ⟨#[]⟩) := (hb.cell (p := ⟨w.heap.size, 0, none⟩) (by simp; omega)).trans (by simp [go_sem])
  have c1 : w1.cell? ⟨w.heap.size + 1, 0, none⟩ = some (.int .i64 0) := (hb.cell (p := ⟨w.heap.size + 1, 0, none⟩) (by simp)).trans (by simp [go_sem])
  have z0 : w1.frozen? ⟨w.heap.size, 0, none⟩ = false := (hb.frozen (p := ⟨w.heap.size, 0, none⟩) (by simp; omega)).trans (by simp [go_sem])
  have z1 : w1.frozen? ⟨w.heap.size + 1, 0, none⟩ = false := (hb.frozen (p := ⟨w.heap.size + 1, 0, none⟩) (by simp)).trans (by simp [go_sem])
  have hb0 : Below w.heap.size w w1 := (((Below.refl _ _).alloc (Nat.le_refl _) _).alloc (by simp) _).trans (hb.mono (by simp; omega))
  go_wp2
  refine leaves_cons (f := 76) (args := #[.pointer (some ⟨w.heap.size, 0, none⟩), .pointer (some ⟨w.heap.size + 1, 0, none⟩)]) (by simp) (by simp [go_sem]) ?_
  refine (mcatch_panicking w.heap.size (w.heap.size + 1) w.heap.size n q [] _ c0 c1 z0 z1 (Nat.le_refl _) (by omega) (by omega)).mono ?_
  rintro e u' w'' ⟨rfl, rfl, f0, f1, fb⟩
  simp [Leaves, settle, results, Tryz.results42, go_sem, f0, f1]
  exact hb0.trans fb

set_option maxRecDepth 100000 in
set_option maxHeartbeats 1000000 in
theorem marshal_worse (s : ByteArray) (V : Value) (w : World) (n q : Nat) (B : Value → World → Prop) (H : Calls Tryz.prog 78 #[.string s] (mface w) fun e w' => ∃ T, e = .returned T ∧ B T w' ∧ Below (mface w).heap.size (mface w) w')
    (H2 : ∀ T w', B T w' → Below (mface w).heap.size (mface w) w' → Calls Tryz.prog 77 #[T, V] w' fun e w'' => e = gaveUp n q ∧ Below w'.heap.size w' w'') :
    Calls Tryz.prog 42 #[.string s, V] w fun e w' => e = .returned (.tuple #[.string ⟨#[]⟩, .int .i64 n]) ∧ Below w.heap.size w w' := by
  have hmf : ∀ (fn : Fn) (first cap : Array Value) (w : World), (Instr.makeFunc fn first cap).run Tryz.prog w = .ok (.func fn first cap) w := fun _ _ _ _ => rfl
  have HH := hide H
  have HH2 := hide H2
  clear H H2
  go_enter_defers Tryz.func42, Tryz.ntmps42
  go_wp2_with fail
  refine (unhide HH).mono ?_
  rintro e w0 ⟨T, rfl, hB, hb1⟩
  have HC := hide ((unhide HH2) T w0 hB hb1)
  go_wp2_with fail
  refine (unhide HC).mono ?_
  rintro e w1 ⟨rfl, hb2⟩
  have hb := hb1.trans (hb2.mono hb1.size)
  have hs := hb.size
  simp at hs
  have c0 : w1.cell? ⟨w.heap.size, 0, none⟩ = some (.string ⟨#[]⟩) := (hb.cell (p := ⟨w.heap.size, 0, none⟩) (by simp; omega)).trans (by simp [go_sem])
  have c1 : w1.cell? ⟨w.heap.size + 1, 0, none⟩ = some (.int .i64 0) := (hb.cell (p := ⟨w.heap.size + 1, 0, none⟩) (by simp)).trans (by simp [go_sem])
  have z0 : w1.frozen? ⟨w.heap.size, 0, none⟩ = false := (hb.frozen (p := ⟨w.heap.size, 0, none⟩) (by simp; omega)).trans (by simp [go_sem])
  have z1 : w1.frozen? ⟨w.heap.size + 1, 0, none⟩ = false := (hb.frozen (p := ⟨w.heap.size + 1, 0, none⟩) (by simp)).trans (by simp [go_sem])
  have hb0 : Below w.heap.size w w1 := (((Below.refl _ _).alloc (Nat.le_refl _) _).alloc (by simp) _).trans (hb.mono (by simp; omega))
  go_wp2
  refine leaves_cons (f := 76) (args := #[.pointer (some ⟨w.heap.size, 0, none⟩), .pointer (some ⟨w.heap.size + 1, 0, none⟩)]) (by simp) (by simp [go_sem]) ?_
  refine (mcatch_panicking w.heap.size (w.heap.size + 1) w.heap.size n q [] _ c0 c1 z0 z1 (Nat.le_refl _) (by omega) (by omega)).mono ?_
  rintro e u' w'' ⟨rfl, rfl, f0, f1, fb⟩
  simp [Leaves, settle, results, Tryz.results42, go_sem, f0, f1]
  exact hb0.trans fb

set_option maxRecDepth 100000 in
set_option maxHeartbeats 1000000 in
theorem marshal_good (s : ByteArray) (V : Value) (w : World) (r : ByteArray) (B : Value → World → Prop) (H : Calls Tryz.prog 78 #[.string s] (mface w) fun e w' => ∃ T, e = .returned T ∧ B T w' ∧ Below (mface w).heap.size (mface w) w')
    (H2 : ∀ T w', B T w' → Below (mface w).heap.size (mface w) w' → Calls Tryz.prog 77 #[T, V] w' fun e w'' => e = .returned (.string r) ∧ Below w'.heap.size w' w'') :
    Calls Tryz.prog 42 #[.string s, V] w fun e w' => e = .returned (.tuple #[.string r, .int .i64 0]) ∧ Below w.heap.size w w' := by
  have hmf : ∀ (fn : Fn) (first cap : Array Value) (w : World), (Instr.makeFunc fn first cap).run Tryz.prog w = .ok (.func fn first cap) w := fun _ _ _ _ => rfl
  have HH := hide H
  have HH2 := hide H2
  clear H H2
  go_enter_defers Tryz.func42, Tryz.ntmps42
  go_wp2_with fail
  refine (unhide HH).mono ?_
  rintro e w0 ⟨T, rfl, hB, hb1⟩
  have HC := hide ((unhide HH2) T w0 hB hb1)
  go_wp2_with fail
  refine (unhide HC).mono ?_
  rintro e w1 ⟨rfl, hb2⟩
  have hb := hb1.trans (hb2.mono hb1.size)
  have hs := hb.size
  simp at hs
  have c0 : w1.cell? ⟨w.heap.size, 0, none⟩ = some (.string ⟨#[]⟩) := (hb.cell (p := ⟨w.heap.size, 0, none⟩) (by simp; omega)).trans (by simp [go_sem])
  have c1 : w1.cell? ⟨w.heap.size + 1, 0, none⟩ = some (.int .i64 0) := (hb.cell (p := ⟨w.heap.size + 1, 0, none⟩) (by simp)).trans (by simp [go_sem])
  have z0 : w1.frozen? ⟨w.heap.size, 0, none⟩ = false := (hb.frozen (p := ⟨w.heap.size, 0, none⟩) (by simp; omega)).trans (by simp [go_sem])
  have z1 : w1.frozen? ⟨w.heap.size + 1, 0, none⟩ = false := (hb.frozen (p := ⟨w.heap.size + 1, 0, none⟩) (by simp)).trans (by simp [go_sem])
  have hb0 : Below w.heap.size w w1 := (((Below.refl _ _).alloc (Nat.le_refl _) _).alloc (by simp) _).trans (hb.mono (by simp; omega))
  go_wp2
  refine leaves_cons (f := 76) (args := #[.pointer (some ⟨w.heap.size, 0, none⟩), .pointer (some ⟨w.heap.size + 1, 0, none⟩)]) (by simp) (by simp [go_sem]) ?_
  refine (mcatch_idle _ _ _).mono ?_
  rintro e u' w'' ⟨rfl, rfl, rfl⟩
  simp [Leaves, settle, results, Tryz.results42, go_sem, c0, c1]
  exact (hb0.setCell (by simp) _).setCell (by simp) _

end Go.Proofs.YtblomippkddgiaaGreatDoor.V
/-
  Proved: errandlaw.Types returns true for every text, of any length, and leaves its argument as it was: the landed Check answers, error and place, what the document's own Check answers. No condition.
-/
namespace Go.Proofs.YtblomippkddgiaaGreatDoor.V
open Go.ChangeShapes Go.WideShapes Go.ChangeAt Go.RowKit
open Go.ChangeMaps (open_string shut_string)

abbrev chkTuple (r : Nat × Nat) : Ending := .returned (.tuple #[.int .i64 r.1, .int .i64 r.2])

theorem check_any (s : ByteArray) (w : World) : Calls Tryz.prog 146 #[.string s] w fun e w' => e = chkTuple (Pt.chk (nx s) s.size) ∧ Below w.heap.size w w' := by
  by_cases hs : s.size ≤ 40
  · have hn : ¬ 40 < s.size := by omega
    cases hT : (Pt.ty (nx s) (s.size + 1) 0).1 with
    | false =>
      have e1 : Pt.chk (nx s) s.size = (2, (Pt.ty (nx s) (s.size + 1) 0).2) := by simp [Pt.chk, hn, hT]
      rw [e1]
      exact check_bad s w _ _ (read_wrong s (face w) hs hT)
    | true =>
      obtain ⟨_, hb, _⟩ := Pt.agree (g := nx s) (n := s.size) (fun p hp => nx_out hp) (s.size + 1) 0 0 1 0 [] (by omega) (by omega)
      obtain ⟨q1, q2⟩ := hb hT
      by_cases hq : (Pt.ty (nx s) (s.size + 1) 0).2 < s.size
      · have e1 : Pt.chk (nx s) s.size = (2, (Pt.ty (nx s) (s.size + 1) 0).2) := by simp [Pt.chk, hn, hT, hq]
        rw [e1]
        exact check_bad s w _ _ (read_more s (face w) hs hT hq)
      · have H := read_end s (face w) hs hT (by omega)
        by_cases h4 : 4 < Pt.dep (nx s) (s.size + 1) 0
        · have e1 : Pt.chk (nx s) s.size = (3, 0) := by simp [Pt.chk, hn, hT, hq, h4]
          rw [e1]
          simp only [h4, if_true] at H
          exact check_bad s w _ _ H
        · have e1 : Pt.chk (nx s) s.size = (0, 0) := by simp [Pt.chk, hn, hT, hq, h4]
          rw [e1]
          simp only [h4, if_false] at H
          refine check_good s w (H.mono ?_)
          rintro e w' ⟨⟨c0, c1, c2, h, _⟩, hb⟩
          exact ⟨⟨c0, c1, c2, h⟩, hb⟩
  · have e1 : Pt.chk (nx s) s.size = (1, 0) := by
      have : 40 < s.size := by omega
      simp [Pt.chk, this]
    rw [e1]
    exact check_bad s w _ _ (read_long s (face w) hs)

theorem ref_any (s : ByteArray) (w : World) : Calls Tryz.prog 147 #[.string s] w fun e w' => e = chkTuple (Pt.chk (nx s) s.size) ∧ Below w.heap.size w w' := by
  by_cases hs : s.size ≤ 40
  · have h := ref_short s w hs
    rw [Pt.run_chk (fun p hp => nx_out hp) hs] at h
    exact h
  · have e1 : Pt.chk (nx s) s.size = (1, 0) := by
      have : 40 < s.size := by omega
      simp [Pt.chk, this]
    rw [e1]
    exact ref_long s w hs

theorem chk_one : Pt.chk (nx { data := #[114, 40, 101, 51, 113, 51, 105, 41] }) 8 = (0, 0) := by decide +kernel
theorem chk_two : Pt.chk (nx { data := #[114, 40, 98, 98, 98, 98, 98, 98, 98, 41] }) 10 = (2, 8) := by decide +kernel
theorem check_one (w : World) : Calls Tryz.prog 146 #[.string { data := #[114, 40, 101, 51, 113, 51, 105, 41] }] w fun e w' => e = .returned (.tuple #[.int .i64 0, .int .i64 0]) ∧ Below w.heap.size w w' := by
  have h := check_any { data := #[114, 40, 101, 51, 113, 51, 105, 41] } w
  rw [show ({ data := #[114, 40, 101, 51, 113, 51, 105, 41] } : ByteArray).size = 8 from rfl, chk_one] at h
  exact h
theorem check_two (w : World) : Calls Tryz.prog 146 #[.string { data := #[114, 40, 98, 98, 98, 98, 98, 98, 98, 41] }] w fun e w' => e = .returned (.tuple #[.int .i64 2, .int .i64 8]) ∧ Below w.heap.size w w' := by
  have h := check_any { data := #[114, 40, 98, 98, 98, 98, 98, 98, 98, 41] } w
  rw [show ({ data := #[114, 40, 98, 98, 98, 98, 98, 98, 98, 41] } : ByteArray).size = 10 from rfl, chk_two] at h
  exact h

set_option maxHeartbeats 400000 in
theorem types_any (s : ByteArray) (w : World) : Calls Tryz.prog 89 #[.string s] w fun e w' => e = .returned (.bool true) ∧ Below w.heap.size w w' := by
  have H1 := hide (fun w => check_any s w)
  have H2 := hide (fun w => ref_any s w)
  generalize Pt.chk (nx s) s.size = res at *
  obtain ⟨a, b⟩ := res
  go_enter Tryz.func89, Tryz.ntmps89
  go_wp2_with fail
  refine ((unhide H1) _).mono ?_
  rintro e w1 ⟨rfl, hb1⟩
  go_wp2_with fail
  refine ((unhide H2) _).mono ?_
  rintro e w2 ⟨rfl, hb2⟩
  go_wp2_with (go_at_call 88; go_in)
  go_ret
  exact ⟨rfl, hb1.trans (hb2.mono hb1.size)⟩

theorem own : ownKnob Tryz.prog.godebug = none := by kernel_rfl

end Go.Proofs.YtblomippkddgiaaGreatDoor.V
/-
  Marshal, the landed code's and the document's: the same bytes, the same error.
-/
namespace Go.Proofs.YtblomippkddgiaaGreatDoor.V
open Go.RowKit

/- a text that is a type -/
structure Good (s : ByteArray) : Prop where
  size : s.size ≤ 40
  ok : Okp s (s.size + 1) 0
  dep : Pt.dep (nx s) (s.size + 1) 0 ≤ 4

theorem good_of {s : ByteArray} (h : (Pt.chk (nx s) s.size).1 = 0) : Good s := by
  unfold Pt.chk at h
  split at h
  · cases h
  · split at h
    · rename_i h1 h2
      split at h
      · cases h
      · split at h
        · cases h
        · exact ⟨by omega, ⟨Nat.zero_le _, by omega, h2⟩, by omega⟩
    · cases h

def ReadPost (s : ByteArray) (w : World) (e : Ending) (w' : World) : Prop :=
  (if (Pt.chk (nx s) s.size).1 = 0 then ∃ c0 c1 c2, e = .returned (.agg #[c0, c1, c2]) ∧ Rep w' (fun k => w.heap.size ≤ k) (nx s) (s.size + 1) 0 c0 c1 c2 else e = gaveUp (Pt.chk (nx s) s.size).1 (Pt.chk (nx s) s.size).2) ∧ Below w.heap.size w w'
theorem shape_any (s : ByteArray) (w : World) : Calls Tryz.prog 78 #[.string s] w (ReadPost s w) := by
  unfold ReadPost
  by_cases hs : s.size ≤ 40
  · have hn : ¬ 40 < s.size := by omega
    cases hT : (Pt.ty (nx s) (s.size + 1) 0).1 with
    | false =>
      have e1 : Pt.chk (nx s) s.size = (2, (Pt.ty (nx s) (s.size + 1) 0).2) := by simp [Pt.chk, hn, hT]
      rw [e1]
      exact read_wrong s w hs hT
    | true =>
      obtain ⟨_, hb, _⟩ := Pt.agree (g := nx s) (n := s.size) (fun p hp => nx_out hp) (s.size + 1) 0 0 1 0 [] (by omega) (by omega)
      obtain ⟨q1, q2⟩ := hb hT
      by_cases hq : (Pt.ty (nx s) (s.size + 1) 0).2 < s.size
      · have e1 : Pt.chk (nx s) s.size = (2, (Pt.ty (nx s) (s.size + 1) 0).2) := by simp [Pt.chk, hn, hT, hq]
        rw [e1]
        exact read_more s w hs hT hq
      · have H := read_end s w hs hT (by omega)
        by_cases h4 : 4 < Pt.dep (nx s) (s.size + 1) 0
        · have e1 : Pt.chk (nx s) s.size = (3, 0) := by simp [Pt.chk, hn, hT, hq, h4]
          rw [e1]
          simp only [h4, if_true] at H
          exact H
        · have e1 : Pt.chk (nx s) s.size = (0, 0) := by simp [Pt.chk, hn, hT, hq, h4]
          rw [e1]
          simp only [h4, if_false] at H
          exact H
  · have e1 : Pt.chk (nx s) s.size = (1, 0) := by
      have : 40 < s.size := by omega
      simp [Pt.chk, this]
    rw [e1]
    exact read_long s w hs

/- Marshal's answer: the error, the bytes -/
def mRes (s : ByteArray) (v : List It) : Nat × List UInt8 := if (Pt.chk (nx s) s.size).1 = 0 then wRes (eat (nx s) (s.size + 1) 0 v) v else ((Pt.chk (nx s) s.size).1, [])
abbrev mEnd (r : Nat × List UInt8) : Ending := .returned (.tuple #[.string ⟨r.2.toArray⟩, .int .i64 r.1])

theorem wRes_no {e : Eaten} {v : List It} (h : ¬ (wRes e v).1 = 0) : (wRes e v).2 = [] := by
  unfold wRes at h ⊢
  split
  · rfl
  · rename_i ks r
    simp only at h ⊢
    split
    · rename_i hr
      split
      · rfl
      · rename_i hb
        rw [if_pos hr, if_neg hb] at h
        exact absurd rfl h
    · rfl

theorem marshal_any (s : ByteArray) (V : Value) (v : List It) (w : World) (hI : Items w V v) (hn : v.length ≤ 9000000000000) :
    Calls Tryz.prog 42 #[.string s, V] w fun e w' => e = mEnd (mRes s v) ∧ Below w.heap.size w w' := by
  have hm : Below w.heap.size w (mface w) := ((Below.refl _ _).alloc (Nat.le_refl _) _).alloc (by simp) _
  have H := shape_any s (mface w)
  unfold ReadPost at H
  by_cases hc : (Pt.chk (nx s) s.size).1 = 0
  · have hg := good_of hc
    simp only [hc, if_true] at H
    have hmr : mRes s v = wRes (eat (nx s) (s.size + 1) 0 v) v := by simp [mRes, hc]
    rw [hmr]
    have H1 : Calls Tryz.prog 78 #[.string s] (mface w) fun e w' => ∃ T, e = .returned T ∧ (∃ c0 c1 c2, T = .agg #[c0, c1, c2] ∧ Rep w' (fun k => (mface w).heap.size ≤ k) (nx s) (s.size + 1) 0 c0 c1 c2) ∧ Below (mface w).heap.size (mface w) w' := by
      refine H.mono ?_
      rintro e w' ⟨⟨c0, c1, c2, rfl, hr⟩, hb⟩
      exact ⟨_, rfl, ⟨c0, c1, c2, rfl, hr⟩, hb⟩
    have H2 : ∀ T w', (∃ c0 c1 c2, T = .agg #[c0, c1, c2] ∧ Rep w' (fun k => (mface w).heap.size ≤ k) (nx s) (s.size + 1) 0 c0 c1 c2) → Below (mface w).heap.size (mface w) w' → Calls Tryz.prog 77 #[T, V] w' fun e w'' => WPost (wRes (eat (nx s) (s.size + 1) 0 v) v) e ∧ Below w'.heap.size w' w'' := by
      rintro T w' ⟨c0, c1, c2, rfl, hr⟩ hb
      exact write_any s _ c0 c1 c2 V v w' hr hg.ok hg.dep ((hI.below hm).below hb) hn
    generalize hres : wRes (eat (nx s) (s.size + 1) 0 v) v = res at *
    have hno : ¬ res.1 = 0 → res.2 = [] := by rw [← hres]; exact wRes_no
    obtain ⟨n, bs⟩ := res
    simp only at hno
    by_cases h0 : n = 0
    · subst h0
      simp only [WPost, if_true] at H2
      exact marshal_good s V w _ _ H1 H2
    · have := hno h0
      subst this
      simp only [WPost, if_neg h0] at H2
      exact marshal_worse s V w n 0 _ H1 H2
  · simp only [hc, if_false] at H
    have hmr : mRes s v = ((Pt.chk (nx s) s.size).1, []) := by simp [mRes, hc]
    rw [hmr]
    exact marshal_bad s V w _ _ H

theorem fits_eq {g : Nat → Nat} {f p : Nat} {v : List It} : (vI 0 (eat g f p v) == (v.length : Int)) = (match eat g f p v with | none => false | some (_, r) => r.isEmpty) := by
  cases he : eat g f p v with
  | none => simp [vI]
  | some a =>
    obtain ⟨ks, r⟩ := a
    obtain ⟨h1, h2⟩ := eat_heads g f p v ks r he
    have hl : r.length = v.length - ks.length := by rw [h1, List.length_drop]
    simp only [vI]
    cases r with
    | nil => simp at hl ⊢; omega
    | cons y r => simp at hl ⊢; omega

theorem kinds_of {ks : List Bool} {v : List It} (h : KindsIn ks v) (hl : ks.length = v.length) : Kinds ks v := ⟨hl, h⟩

set_option maxRecDepth 100000 in
set_option maxHeartbeats 400000 in
theorem ref_walk_bad (s : ByteArray) (V : Value) (w : World) (n q : Nat) (hn : ¬ n = 0) (H : Calls Tryz.prog 147 #[.string s] w fun e w' => e = chkTuple (n, q) ∧ Below w.heap.size w w') :
    Calls Tryz.prog 149 #[.string s, V] w fun e w' => e = mEnd (n, []) ∧ Below w.heap.size w w' := by
  have HH := hide H
  have hnn : ((n : Int) != 0) = true := by simp; omega
  clear H
  go_enter Tryz.func149, Tryz.ntmps149
  go_wp2_with fail
  refine (unhide HH).mono ?_
  rintro e w1 ⟨rfl, hb⟩
  go_wp2
  go_ret2
  exact ⟨rfl, hb⟩

set_option maxRecDepth 100000 in
set_option maxHeartbeats 400000 in
theorem ref_walk_no (s : ByteArray) (V : Value) (w : World) (H : Calls Tryz.prog 147 #[.string s] w fun e w' => e = chkTuple (0, 0) ∧ Below w.heap.size w w')
    (HF : ∀ w1, Below w.heap.size w w1 → Calls Tryz.prog 207 #[.string s, V] w1 fun e w' => e = .returned (.bool false) ∧ Below w1.heap.size w1 w') :
    Calls Tryz.prog 149 #[.string s, V] w fun e w' => e = mEnd (4, []) ∧ Below w.heap.size w w' := by
  have HH := hide H
  have HHF := hide HF
  clear H HF
  go_enter Tryz.func149, Tryz.ntmps149
  go_wp2_with fail
  refine (unhide HH).mono ?_
  rintro e w1 ⟨rfl, hb⟩
  have HG := hide ((unhide HHF) w1 hb)
  go_wp2_with fail
  refine (unhide HG).mono ?_
  rintro e w2 ⟨rfl, hb2⟩
  go_wp2
  go_ret2
  exact ⟨rfl, hb.trans (hb2.mono hb.size)⟩

set_option maxRecDepth 100000 in
set_option maxHeartbeats 400000 in
theorem ref_walk_yes (s : ByteArray) (V : Value) (w : World) (out : List UInt8) (hol : out.length ≤ 1000000) (H : Calls Tryz.prog 147 #[.string s] w fun e w' => e = chkTuple (0, 0) ∧ Below w.heap.size w w')
    (HF : ∀ w1, Below w.heap.size w w1 → Calls Tryz.prog 207 #[.string s, V] w1 fun e w' => e = .returned (.bool true) ∧ Below w1.heap.size w1 w')
    (HB : ∀ w1, Below w.heap.size w w1 → Calls Tryz.prog 208 #[.string s, V] w1 fun e w' => e = .returned (.string ⟨out.toArray⟩) ∧ Below w1.heap.size w1 w') :
    Calls Tryz.prog 149 #[.string s, V] w fun e w' => e = mEnd (if 70 < out.length then (5, []) else (0, out)) ∧ Below w.heap.size w w' := by
  have HH := hide H
  have HHF := hide HF
  have HHB := hide HB
  obtain ⟨S, hS⟩ : ∃ S : ByteArray, S = ⟨out.toArray⟩ := ⟨_, rfl⟩
  have hsz : S.size = out.length := by rw [hS]; simp [ByteArray.size]
  rw [← hS] at HHB
  have HS := hide hS
  clear H HF HB hS
  by_cases hb : 70 < out.length
  · rw [if_pos hb]
    have hb' : (70 : Int) < (S.size : Int) := by omega
    go_enter Tryz.func149, Tryz.ntmps149
    go_wp2_with fail
    refine (unhide HH).mono ?_
    rintro e w1 ⟨rfl, hb1⟩
    have HG := hide ((unhide HHF) w1 hb1)
    go_wp2_with fail
    refine (unhide HG).mono ?_
    rintro e w2 ⟨rfl, hb2⟩
    have hb3 := hb1.trans (hb2.mono hb1.size)
    have HG2 := hide ((unhide HHB) w2 hb3)
    go_wp2_with fail
    refine (unhide HG2).mono ?_
    rintro e w3 ⟨rfl, hb4⟩
    go_wp2
    go_ret2
    exact ⟨rfl, hb3.trans (hb4.mono hb3.size)⟩
  · rw [if_neg hb]
    have hb' : ¬ (70 : Int) < (S.size : Int) := by omega
    go_enter Tryz.func149, Tryz.ntmps149
    go_wp2_with fail
    refine (unhide HH).mono ?_
    rintro e w1 ⟨rfl, hb1⟩
    have HG := hide ((unhide HHF) w1 hb1)
    go_wp2_with fail
    refine (unhide HG).mono ?_
    rintro e w2 ⟨rfl, hb2⟩
    have hb3 := hb1.trans (hb2.mono hb1.size)
    have HG2 := hide ((unhide HHB) w2 hb3)
    go_wp2_with fail
    refine (unhide HG2).mono ?_
    rintro e w3 ⟨rfl, hb4⟩
    go_wp2
    go_ret2
    refine ⟨?_, hb3.trans (hb4.mono hb3.size)⟩
    rw [unhide HS]
    rfl

theorem refMarshal_any (s : ByteArray) (V : Value) (v : List It) (w : World) (hI : Items w V v) (hn : v.length ≤ 9000000000000) :
    Calls Tryz.prog 149 #[.string s, V] w fun e w' => e = mEnd (mRes s v) ∧ Below w.heap.size w w' := by
  have H := ref_any s w
  by_cases hc : (Pt.chk (nx s) s.size).1 = 0
  · have hg := good_of hc
    have hc2 : Pt.chk (nx s) s.size = (0, 0) := by
      unfold Pt.chk at hc ⊢
      split at hc
      · cases hc
      · rename_i h1
        rw [if_neg h1]
        split at hc
        · rename_i h2
          rw [if_pos h2]
          split at hc
          · cases hc
          · rename_i h3
            rw [if_neg h3]
            split at hc
            · cases hc
            · rename_i h4
              rw [if_neg h4]
        · cases hc
    rw [hc2] at H
    have hmr : mRes s v = wRes (eat (nx s) (s.size + 1) 0 v) v := by simp [mRes, hc]
    rw [hmr]
    obtain ⟨a, cap, hV, _, _⟩ := id hI
    have HF : ∀ w1, Below w.heap.size w w1 → Calls Tryz.prog 207 #[.string s, V] w1 fun e w' => e = .returned (.bool (vI 0 (eat (nx s) (s.size + 1) 0 v) == (v.length : Int))) ∧ Below w1.heap.size w1 w' := by
      intro w1 hb
      have hv := value_any s V v hg.size hn (s.size + 1) 0 0 w1 hg.ok (Nat.zero_le _) (hI.below hb)
      exact fits_any s V a cap v w1 hV _ hv
    rw [fits_eq] at HF
    cases he : eat (nx s) (s.size + 1) 0 v with
    | none =>
      simp only [he] at HF
      exact ref_walk_no s V w H HF
    | some x =>
      obtain ⟨ks, r⟩ := x
      simp only [he] at HF
      cases r with
      | cons y r => exact ref_walk_no s V w H HF
      | nil =>
        obtain ⟨h1, h2⟩ := eat_heads _ _ _ _ _ _ he
        obtain ⟨s1, s2⟩ := eat_small s _ _ hg.ok _ _ _ he
        have hl : ks.length = v.length := by
          have := congrArg List.length h1
          rw [List.length_drop] at this
          simp at this
          omega
        have hM : 10 ^ Pt.dep (nx s) (s.size + 1) 0 ≤ 10 ^ 4 := Nat.pow_le_pow_right (by decide) hg.dep
        have hK := kinds_of s2 hl
        have hbl := bytesOf_le hK v.length (Nat.le_refl _)
        rw [List.take_of_length_le (by omega), List.take_of_length_le (by omega)] at hbl
        refine (ref_walk_yes s V w (bytesOf ks v) (by omega) H HF fun w1 hb => ?_).mono ?_
        · have ht := texts_any s V v w1 hg.size hn (hI.below hb) (s.size + 1) 0 (.slice none 0 0) [] ks [] w1 hg.ok ⟨World.ownsRow_nil _ _ _ _, Below.refl _ _⟩ he
          exact bytes_any s V v ks w1 (hI.below hb) (by omega) hK ht
        · rintro e w' ⟨rfl, hb⟩
          exact ⟨rfl, hb⟩
  · have hmr : mRes s v = ((Pt.chk (nx s) s.size).1, []) := by simp [mRes, hc]
    rw [hmr]
    exact ref_walk_bad s V w _ _ hc H

end Go.Proofs.YtblomippkddgiaaGreatDoor.V
