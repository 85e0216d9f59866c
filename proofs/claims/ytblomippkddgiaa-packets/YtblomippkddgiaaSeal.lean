/-
  The face: Seal catches what Write gave up with.
-/
import Derived.Test.YtblomippkddgiaaWrite
namespace Go.Proofs.Ytblomippkddgiaa
open Go.RowKit

set_option maxRecDepth 100000 in
set_option maxHeartbeats 1000000 in
theorem scatch_panicking (a0 a1 B : Nat) (n q : Nat) (older : List PanicEntry) (w : World) (h0 : w.cell? ⟨a0, 0, none⟩ = some (.string ⟨#[]⟩)) (h1 : w.cell? ⟨a1, 0, none⟩ = some (.int .i64 0)) (z0 : w.frozen? ⟨a0, 0, none⟩ = false) (z1 : w.frozen? ⟨a1, 0, none⟩ = false) (hb0 : B ≤ a0) (hb1 : B ≤ a1) (hne : ¬ a0 = a1) :
    CallsD Try.prog 45 #[.pointer (some ⟨a0, 0, none⟩), .pointer (some ⟨a1, 0, none⟩)] (.panicking ({ v := .iface 71 (faultOf n q), recovered := false } :: older)) w fun e u' w' =>
      e = .returned (.tuple #[]) ∧ u' = .panicking ({ v := .iface 71 (faultOf n q), recovered := true } :: older) ∧ w'.cell? ⟨a0, 0, none⟩ = some (.string ⟨#[]⟩) ∧ w'.cell? ⟨a1, 0, none⟩ = some (.int .i64 n) ∧ Below B w w' := by
  refine callsD_of_wpS Try.func45 rfl fun c₀ cs hu => ?_
  apply wpS_seq
  apply wpS_region
  simp [wpOpsS, go_sem, recoverD, hu, Try.ntmps45, Exit.thenS]
  rw [show (#[Value.pointer (some { block := a0, off := 0 }), Value.pointer (some { block := a1, off := 0 })] ++ ((Array.replicate 7 undef).setIfInBounds 1 (Value.iface 71 (faultOf n q))).setIfInBounds 0 (Value.iface 71 (faultOf n q))) = #[.pointer (some { block := a0, off := 0 }), .pointer (some { block := a1, off := 0 }), .iface 71 (faultOf n q), .iface 71 (faultOf n q), undef, undef, undef, undef, undef] from rfl]
  refine wpS_of_wp ?_
  have hfl := field_fault n q
  have l0 := lt_of_cell h0
  have l1 := lt_of_cell h1
  go_wp2_with fail
  refine (caught_any n q _).mono ?_
  rintro e w1 ⟨rfl, hb⟩
  have s1 := hb.size
  have g0 : w1.cell? ⟨a0, 0, none⟩ = some (.string ⟨#[]⟩) := (hb.cell (p := ⟨a0, 0, none⟩) l0).trans h0
  have g1 : w1.cell? ⟨a1, 0, none⟩ = some (.int .i64 0) := (hb.cell (p := ⟨a1, 0, none⟩) l1).trans h1
  have y0 : w1.frozen? ⟨a0, 0, none⟩ = false := (hb.frozen (p := ⟨a0, 0, none⟩) l0).trans z0
  have y1 : w1.frozen? ⟨a1, 0, none⟩ = false := (hb.frozen (p := ⟨a1, 0, none⟩) l1).trans z1
  have m0 : a0 < w1.heap.size := by omega
  have m1 : a1 < w1.heap.size := by omega
  have e2 : ¬ a1 = a0 := by omega
  clear h0 h1 z0 z1
  go_wp2
  have F0 : ((w1.setCell { block := a0, off := 0 } (.string ⟨#[]⟩)).setCell { block := a1, off := 0 } (Value.int IntKind.i64 ↑n)).cell? ⟨a0, 0, none⟩ = some (.string ⟨#[]⟩) := by simp [go_sem, g0]
  have F1 : ((w1.setCell { block := a0, off := 0 } (.string ⟨#[]⟩)).setCell { block := a1, off := 0 } (Value.int IntKind.i64 ↑n)).cell? ⟨a1, 0, none⟩ = some (.int .i64 n) := by simp [go_sem, g1]
  have FB : Below B w ((w1.setCell { block := a0, off := 0 } (.string ⟨#[]⟩)).setCell { block := a1, off := 0 } (Value.int IntKind.i64 ↑n)) :=
    ((hb.mono (by omega)).setCell (by simpa using hb0) _).setCell (by simpa using hb1) _
  show bodyPostS Try.prog Try.f45 c₀ cs _ _ _ _ _
  exact ⟨rfl, _, rfl, _, results_none rfl _ _ _, rfl, rfl, F0, F1, FB⟩

theorem scatch_idle (p0 p1 : Addr) (w : World) :
    CallsD Try.prog 45 #[.pointer (some p0), .pointer (some p1)] .returning w fun e u' w' => e = .returned (.tuple #[]) ∧ u' = .returning ∧ w' = w := by
  refine callsD_of_wpS Try.func45 rfl fun c₀ cs hu => ?_
  apply wpS_seq
  apply wpS_region
  simp [wpOpsS, go_sem, recoverD, hu, Try.ntmps45, Exit.thenS]
  rw [show (#[Value.pointer (some p0), Value.pointer (some p1)] ++ ((Array.replicate 7 undef).setIfInBounds 1 (Value.nilIface)).setIfInBounds 0 (Value.nilIface)) = #[.pointer (some p0), .pointer (some p1), .nilIface, .nilIface, undef, undef, undef, undef, undef] from rfl]
  refine wpS_of_wp ?_
  go_wp2
  exact ⟨rfl, .returning, by cases c₀; simp_all, _, results_none rfl _ _ _, rfl, rfl, rfl⟩

abbrev pcells (k c li ln sq u pa o : Int) (pl : Bool) (S : ByteArray) : Array Value := #[.int .i64 k, .int .i64 c, .int .i64 li, .int .i64 ln, .int .i64 sq, .int .i64 u, .int .i64 pa, .int .i64 o, .bool pl, .string S]
abbrev sface (w : World) (xs : Array Value) : World := ((w.alloc (.cells xs 59)).alloc (.cells #[.string ⟨#[]⟩] 9)).alloc (.cells #[.int .i64 0] 22)
def sealPost (p : Pk) (w : World) (e : Ending) (w' : World) : Prop := Below w.heap.size w w' ∧ ((RightP p ∧ e = .returned (.tuple #[.string (str (sealB p)), .int .i64 0])) ∨ (¬ RightP p ∧ e = .returned (.tuple #[.string ⟨#[]⟩, .int .i64 7])))

set_option maxRecDepth 100000 in
set_option maxHeartbeats 1000000 in
theorem seal_any (p : Pk) (w : World) : Calls Try.prog 22 #[pv p] w (sealPost p w) := by
  have hmf : ∀ (fn : Fn) (first cap : Array Value) (w : World), (Instr.makeFunc fn first cap).run Try.prog w = .ok (.func fn first cap) w := fun _ _ _ _ => rfl
  obtain ⟨post, hpost⟩ : ∃ post, post = sealPost p w := ⟨_, rfl⟩
  have HNO : Hid (∀ w', Below w.heap.size w w' → ¬ RightP p → post (.returned (.tuple #[.string ⟨#[]⟩, .int .i64 7])) w') := by
    rw [hpost]
    exact fun w' hb hr => ⟨hb, Or.inr ⟨hr, rfl⟩⟩
  have HYES : Hid (∀ w', Below w.heap.size w w' → RightP p → post (.returned (.tuple #[.string (str (sealB p)), .int .i64 0])) w') := by
    rw [hpost]
    exact fun w' hb hr => ⟨hb, Or.inl ⟨hr, rfl⟩⟩
  rw [← hpost]
  clear hpost
  have HH := hide (fun w => write_any p w)
  generalize hSB : str (sealB p) = SB at *
  obtain ⟨k, c, li, ln, sq, u, pa, o, pl, body⟩ := p
  have HB := hide ((((Below.refl w.heap.size w).alloc (Nat.le_refl _) (.cells (pcells k c li ln sq u pa o pl (str body)) 59)).alloc (by simp) (.cells #[.string ⟨#[]⟩] 9)).alloc (by simp; omega) (.cells #[.int .i64 0] 22))
  go_enter_defers Try.func22, Try.ntmps22
  go_wp2_with fail
  refine ((unhide HH) _).mono ?_
  rintro e w1 ⟨hb, ⟨hr, rfl⟩ | ⟨hn, rfl⟩⟩
  · have hs := hb.size
    simp at hs
    have c0 : w1.cell? ⟨w.heap.size + 1, 0, none⟩ = some (.string ⟨#[]⟩) := (hb.cell (p := ⟨w.heap.size + 1, 0, none⟩) (by simp)).trans (by simp [go_sem])
    have c1 : w1.cell? ⟨w.heap.size + 2, 0, none⟩ = some (.int .i64 0) := (hb.cell (p := ⟨w.heap.size + 2, 0, none⟩) (by simp)).trans (by simp [go_sem])
    have z0 : w1.frozen? ⟨w.heap.size + 1, 0, none⟩ = false := (hb.frozen (p := ⟨w.heap.size + 1, 0, none⟩) (by simp)).trans (by simp [go_sem])
    have z1 : w1.frozen? ⟨w.heap.size + 2, 0, none⟩ = false := (hb.frozen (p := ⟨w.heap.size + 2, 0, none⟩) (by simp)).trans (by simp [go_sem])
    have HB1 := hide ((unhide HB).trans (hb.mono (by simp; omega)))
    rw [hSB]
    clear hb
    go_wp2
    refine leaves_cons (f := 45) (args := #[.pointer (some ⟨w.heap.size + 1, 0, none⟩), .pointer (some ⟨w.heap.size + 2, 0, none⟩)]) (by simp) (by simp [go_sem]) ?_
    refine (scatch_idle _ _ _).mono ?_
    rintro e u' w'' ⟨rfl, rfl, rfl⟩
    simp [Leaves, settle, results, Try.results22, go_sem, c0, c1]
    exact (unhide HYES) _ (((unhide HB1).setCell (by simp) _).setCell (by simp; omega) _) hr
  · have hs := hb.size
    simp at hs
    have c0 : w1.cell? ⟨w.heap.size + 1, 0, none⟩ = some (.string ⟨#[]⟩) := (hb.cell (p := ⟨w.heap.size + 1, 0, none⟩) (by simp)).trans (by simp [go_sem])
    have c1 : w1.cell? ⟨w.heap.size + 2, 0, none⟩ = some (.int .i64 0) := (hb.cell (p := ⟨w.heap.size + 2, 0, none⟩) (by simp)).trans (by simp [go_sem])
    have z0 : w1.frozen? ⟨w.heap.size + 1, 0, none⟩ = false := (hb.frozen (p := ⟨w.heap.size + 1, 0, none⟩) (by simp)).trans (by simp [go_sem])
    have z1 : w1.frozen? ⟨w.heap.size + 2, 0, none⟩ = false := (hb.frozen (p := ⟨w.heap.size + 2, 0, none⟩) (by simp)).trans (by simp [go_sem])
    have hb0 : Below w.heap.size w w1 := (unhide HB).trans (hb.mono (by simp; omega))
    go_wp2
    refine leaves_cons (f := 45) (args := #[.pointer (some ⟨w.heap.size + 1, 0, none⟩), .pointer (some ⟨w.heap.size + 2, 0, none⟩)]) (by simp) (by simp [go_sem]) ?_
    refine (scatch_panicking (w.heap.size + 1) (w.heap.size + 2) w.heap.size 7 0 [] _ c0 c1 z0 z1 (by omega) (by omega) (by omega)).mono ?_
    rintro e u' w'' ⟨rfl, rfl, f0, f1, fb⟩
    simp [Leaves, settle, results, Try.results22, go_sem, f0, f1]
    exact (unhide HNO) _ (hb0.trans fb) hn

end Go.Proofs.Ytblomippkddgiaa
