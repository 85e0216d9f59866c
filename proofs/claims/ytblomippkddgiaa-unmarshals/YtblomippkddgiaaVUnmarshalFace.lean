/-
  The face: Unmarshal catches what Read gave up with.
-/
import Derived.Test.YtblomippkddgiaaVReadFace
namespace Go.Proofs.Ytblomippkddgiaa.V
open Go.RowKit

set_option maxRecDepth 100000 in
set_option maxHeartbeats 1000000 in
theorem ucatch_panicking (a0 a1 B : Nat) (n q : Nat) (older : List PanicEntry) (w : World) (h0 : w.cell? ⟨a0, 0, none⟩ = some (.slice none 0 0)) (h1 : w.cell? ⟨a1, 0, none⟩ = some (.int .i64 0)) (z0 : w.frozen? ⟨a0, 0, none⟩ = false) (z1 : w.frozen? ⟨a1, 0, none⟩ = false) (hb0 : B ≤ a0) (hb1 : B ≤ a1) (hne : ¬ a0 = a1) :
    CallsD Try.prog 38 #[.pointer (some ⟨a0, 0, none⟩), .pointer (some ⟨a1, 0, none⟩)] (.panicking ({ v := .iface 71 (faultOf n q), recovered := false } :: older)) w fun e u' w' =>
      e = .returned (.tuple #[]) ∧ u' = .panicking ({ v := .iface 71 (faultOf n q), recovered := true } :: older) ∧ w'.cell? ⟨a0, 0, none⟩ = some (.slice none 0 0) ∧ w'.cell? ⟨a1, 0, none⟩ = some (.int .i64 n) ∧ Below B w w' := by
  refine callsD_of_wpS Try.func38 rfl fun c₀ cs hu => ?_
  apply wpS_seq
  apply wpS_region
  simp [wpOpsS, go_sem, recoverD, hu, Try.ntmps38, Exit.thenS]
  rw [show (#[Value.pointer (some { block := a0, off := 0 }), Value.pointer (some { block := a1, off := 0 })] ++ ((Array.replicate 7 undef).setIfInBounds 1 (Value.iface 71 (faultOf n q))).setIfInBounds 0 (Value.iface 71 (faultOf n q))) = #[.pointer (some { block := a0, off := 0 }), .pointer (some { block := a1, off := 0 }), .iface 71 (faultOf n q), .iface 71 (faultOf n q), undef, undef, undef, undef, undef] from rfl]
  refine wpS_of_wp ?_
  have hfl := field_fault n q
  have l0 := lt_of_cell h0
  have l1 := lt_of_cell h1
  go_wp2_with fail
  refine (caught_any n q _).mono ?_
  rintro e w1 ⟨rfl, hb⟩
  have s1 := hb.size
  have g0 : w1.cell? ⟨a0, 0, none⟩ = some (.slice none 0 0) := (hb.cell (p := ⟨a0, 0, none⟩) l0).trans h0
  have g1 : w1.cell? ⟨a1, 0, none⟩ = some (.int .i64 0) := (hb.cell (p := ⟨a1, 0, none⟩) l1).trans h1
  have y0 : w1.frozen? ⟨a0, 0, none⟩ = false := (hb.frozen (p := ⟨a0, 0, none⟩) l0).trans z0
  have y1 : w1.frozen? ⟨a1, 0, none⟩ = false := (hb.frozen (p := ⟨a1, 0, none⟩) l1).trans z1
  have m0 : a0 < w1.heap.size := by omega
  have m1 : a1 < w1.heap.size := by omega
  have e2 : ¬ a1 = a0 := by omega
  clear h0 h1 z0 z1
  go_wp2
  have F0 : ((w1.setCell { block := a0, off := 0 } (.slice none 0 0)).setCell { block := a1, off := 0 } (Value.int IntKind.i64 ↑n)).cell? ⟨a0, 0, none⟩ = some (.slice none 0 0) := by simp [go_sem, g0]
  have F1 : ((w1.setCell { block := a0, off := 0 } (.slice none 0 0)).setCell { block := a1, off := 0 } (Value.int IntKind.i64 ↑n)).cell? ⟨a1, 0, none⟩ = some (.int .i64 n) := by simp [go_sem, g1]
  have FB : Below B w ((w1.setCell { block := a0, off := 0 } (.slice none 0 0)).setCell { block := a1, off := 0 } (Value.int IntKind.i64 ↑n)) :=
    ((hb.mono (by omega)).setCell (by simpa using hb0) _).setCell (by simpa using hb1) _
  show bodyPostS Try.prog Try.f38 c₀ cs _ _ _ _ _
  exact ⟨rfl, _, rfl, _, results_none rfl _ _ _, rfl, rfl, F0, F1, FB⟩

theorem ucatch_idle (p0 p1 : Addr) (w : World) :
    CallsD Try.prog 38 #[.pointer (some p0), .pointer (some p1)] .returning w fun e u' w' => e = .returned (.tuple #[]) ∧ u' = .returning ∧ w' = w := by
  refine callsD_of_wpS Try.func38 rfl fun c₀ cs hu => ?_
  apply wpS_seq
  apply wpS_region
  simp [wpOpsS, go_sem, recoverD, hu, Try.ntmps38, Exit.thenS]
  rw [show (#[Value.pointer (some p0), Value.pointer (some p1)] ++ ((Array.replicate 7 undef).setIfInBounds 1 (Value.nilIface)).setIfInBounds 0 (Value.nilIface)) = #[.pointer (some p0), .pointer (some p1), .nilIface, .nilIface, undef, undef, undef, undef, undef] from rfl]
  refine wpS_of_wp ?_
  go_wp2
  exact ⟨rfl, .returning, by cases c₀; simp_all, _, results_none rfl _ _ _, rfl, rfl, rfl⟩

abbrev uface (w : World) : World := (w.alloc (.cells #[.slice none 0 0] 27)).alloc (.cells #[.int .i64 0] 22)

set_option maxRecDepth 100000 in
set_option maxHeartbeats 1000000 in
theorem unmarshal_bad (s S : ByteArray) (w : World) (n q : Nat) (H : Calls Try.prog 31 #[.string s] (uface w) fun e w' => e = gaveUp n q ∧ Below (uface w).heap.size (uface w) w') :
    Calls Try.prog 14 #[.string s, .string S] w fun e w' => e = .returned (.tuple #[.slice none 0 0, .int .i64 n]) ∧ Below w.heap.size w w' := by
  have hmf : ∀ (fn : Fn) (first cap : Array Value) (w : World), (Instr.makeFunc fn first cap).run Try.prog w = .ok (.func fn first cap) w := fun _ _ _ _ => rfl
  have HH := hide H
  clear H
  go_enter_defers Try.func14, Try.ntmps14
  go_wp2_with fail
  refine (unhide HH).mono ?_
  rintro e w1 ⟨rfl, hb⟩
  have hs := hb.size
  simp at hs
  have c0 : w1.cell? ⟨w.heap.size, 0, none⟩ = some (.slice none 0 0) := (hb.cell (p := ⟨w.heap.size, 0, none⟩) (by simp; omega)).trans (by simp [go_sem])
  have c1 : w1.cell? ⟨w.heap.size + 1, 0, none⟩ = some (.int .i64 0) := (hb.cell (p := ⟨w.heap.size + 1, 0, none⟩) (by simp)).trans (by simp [go_sem])
  have z0 : w1.frozen? ⟨w.heap.size, 0, none⟩ = false := (hb.frozen (p := ⟨w.heap.size, 0, none⟩) (by simp; omega)).trans (by simp [go_sem])
  have z1 : w1.frozen? ⟨w.heap.size + 1, 0, none⟩ = false := (hb.frozen (p := ⟨w.heap.size + 1, 0, none⟩) (by simp)).trans (by simp [go_sem])
  have hb0 : Below w.heap.size w w1 := (((Below.refl _ _).alloc (Nat.le_refl _) _).alloc (by simp) _).trans (hb.mono (by simp; omega))
  go_wp2
  refine leaves_cons (f := 38) (args := #[.pointer (some ⟨w.heap.size, 0, none⟩), .pointer (some ⟨w.heap.size + 1, 0, none⟩)]) (by simp) (by simp [go_sem]) ?_
  refine (ucatch_panicking w.heap.size (w.heap.size + 1) w.heap.size n q [] _ c0 c1 z0 z1 (Nat.le_refl _) (by omega) (by omega)).mono ?_
  rintro e u' w'' ⟨rfl, rfl, f0, f1, fb⟩
  simp [Leaves, settle, results, Try.results14, go_sem, f0, f1]
  exact hb0.trans fb

set_option maxRecDepth 100000 in
set_option maxHeartbeats 1000000 in
theorem unmarshal_worse (s S : ByteArray) (w : World) (n q : Nat) (B : Value → World → Prop) (H : Calls Try.prog 31 #[.string s] (uface w) fun e w' => ∃ T, e = .returned T ∧ B T w' ∧ Below (uface w).heap.size (uface w) w')
    (H2 : ∀ T w', B T w' → Below (uface w).heap.size (uface w) w' → Calls Try.prog 39 #[T, .string S] w' fun e w'' => e = gaveUp n q ∧ Below w'.heap.size w' w'') :
    Calls Try.prog 14 #[.string s, .string S] w fun e w' => e = .returned (.tuple #[.slice none 0 0, .int .i64 n]) ∧ Below w.heap.size w w' := by
  have hmf : ∀ (fn : Fn) (first cap : Array Value) (w : World), (Instr.makeFunc fn first cap).run Try.prog w = .ok (.func fn first cap) w := fun _ _ _ _ => rfl
  have HH := hide H
  have HH2 := hide H2
  clear H H2
  go_enter_defers Try.func14, Try.ntmps14
  go_wp2_with fail
  refine (unhide HH).mono ?_
  rintro e w0 ⟨T, rfl, hB, hb1⟩
  have HC := hide ((unhide HH2) T w0 hB hb1)
  go_wp2_with fail
  refine (unhide HC).mono ?_
  rintro e w1 ⟨rfl, hb2⟩
  have hb := hb1.trans (hb2.mono hb1.size)
  have hs := hb.size
  simp at hs
  have c0 : w1.cell? ⟨w.heap.size, 0, none⟩ = some (.slice none 0 0) := (hb.cell (p := ⟨w.heap.size, 0, none⟩) (by simp; omega)).trans (by simp [go_sem])
  have c1 : w1.cell? ⟨w.heap.size + 1, 0, none⟩ = some (.int .i64 0) := (hb.cell (p := ⟨w.heap.size + 1, 0, none⟩) (by simp)).trans (by simp [go_sem])
  have z0 : w1.frozen? ⟨w.heap.size, 0, none⟩ = false := (hb.frozen (p := ⟨w.heap.size, 0, none⟩) (by simp; omega)).trans (by simp [go_sem])
  have z1 : w1.frozen? ⟨w.heap.size + 1, 0, none⟩ = false := (hb.frozen (p := ⟨w.heap.size + 1, 0, none⟩) (by simp)).trans (by simp [go_sem])
  have hb0 : Below w.heap.size w w1 := (((Below.refl _ _).alloc (Nat.le_refl _) _).alloc (by simp) _).trans (hb.mono (by simp; omega))
  go_wp2
  refine leaves_cons (f := 38) (args := #[.pointer (some ⟨w.heap.size, 0, none⟩), .pointer (some ⟨w.heap.size + 1, 0, none⟩)]) (by simp) (by simp [go_sem]) ?_
  refine (ucatch_panicking w.heap.size (w.heap.size + 1) w.heap.size n q [] _ c0 c1 z0 z1 (Nat.le_refl _) (by omega) (by omega)).mono ?_
  rintro e u' w'' ⟨rfl, rfl, f0, f1, fb⟩
  simp [Leaves, settle, results, Try.results14, go_sem, f0, f1]
  exact hb0.trans fb

set_option maxRecDepth 100000 in
set_option maxHeartbeats 1000000 in
theorem unmarshal_good (s S : ByteArray) (v : List It) (w : World) (B : Value → World → Prop) (H : Calls Try.prog 31 #[.string s] (uface w) fun e w' => ∃ T, e = .returned T ∧ B T w' ∧ Below (uface w).heap.size (uface w) w')
    (H2 : ∀ T w', B T w' → Below (uface w).heap.size (uface w) w' → Calls Try.prog 39 #[T, .string S] w' fun e w'' => (∃ O, e = .returned O ∧ Row w'' w'.heap.size O v) ∧ Below w'.heap.size w' w'') :
    Calls Try.prog 14 #[.string s, .string S] w fun e w' => ∃ O, e = .returned (.tuple #[O, .int .i64 0]) ∧ Row w' w.heap.size O v ∧ Below w.heap.size w w' := by
  have hmf : ∀ (fn : Fn) (first cap : Array Value) (w : World), (Instr.makeFunc fn first cap).run Try.prog w = .ok (.func fn first cap) w := fun _ _ _ _ => rfl
  have HH := hide H
  have HH2 := hide H2
  clear H H2
  go_enter_defers Try.func14, Try.ntmps14
  go_wp2_with fail
  refine (unhide HH).mono ?_
  rintro e w0 ⟨T, rfl, hB, hb1⟩
  have HC := hide ((unhide HH2) T w0 hB hb1)
  go_wp2_with fail
  refine (unhide HC).mono ?_
  rintro e w1 ⟨⟨O, rfl, hrow⟩, hb2⟩
  have hsz0 := hb1.size
  have hb := hb1.trans (hb2.mono hb1.size)
  have hs := hb.size
  simp at hs hsz0
  obtain ⟨oa, on, oc, hsh⟩ := row_shape hrow
  subst hsh
  have c0 : w1.cell? ⟨w.heap.size, 0, none⟩ = some (.slice none 0 0) := (hb.cell (p := ⟨w.heap.size, 0, none⟩) (by simp; omega)).trans (by simp [go_sem])
  have c1 : w1.cell? ⟨w.heap.size + 1, 0, none⟩ = some (.int .i64 0) := (hb.cell (p := ⟨w.heap.size + 1, 0, none⟩) (by simp)).trans (by simp [go_sem])
  have z0 : w1.frozen? ⟨w.heap.size, 0, none⟩ = false := (hb.frozen (p := ⟨w.heap.size, 0, none⟩) (by simp; omega)).trans (by simp [go_sem])
  have z1 : w1.frozen? ⟨w.heap.size + 1, 0, none⟩ = false := (hb.frozen (p := ⟨w.heap.size + 1, 0, none⟩) (by simp)).trans (by simp [go_sem])
  have hb0 : Below w.heap.size w w1 := (((Below.refl _ _).alloc (Nat.le_refl _) _).alloc (by simp) _).trans (hb.mono (by simp; omega))
  have FR : Hid (Row ((w1.setCell ⟨w.heap.size, 0, none⟩ (.slice oa on oc)).setCell ⟨w.heap.size + 1, 0, none⟩ (.int .i64 0)) w.heap.size (.slice oa on oc) v) :=
    row_base (row_set (row_set hrow (by omega)) (by omega)) (B := w0.heap.size) (by omega)
  clear hrow
  go_wp2
  refine leaves_cons (f := 38) (args := #[.pointer (some ⟨w.heap.size, 0, none⟩), .pointer (some ⟨w.heap.size + 1, 0, none⟩)]) (by simp) (by simp [go_sem]) ?_
  refine (ucatch_idle _ _ _).mono ?_
  rintro e u' w'' ⟨rfl, rfl, rfl⟩
  simp [Leaves, settle, results, Try.results14, go_sem, c0, c1]
  exact ⟨unhide FR, (hb0.setCell (by simp) _).setCell (by simp) _⟩

/- Unmarshal's answer: the error, the items -/
def uFull (s : ByteArray) (l : List UInt8) : Nat × List It := if (Pt.chk (nx s) s.size).1 = 0 then uRes (carryP rNum rTxt (nx s) (s.size + 1) 0 (l, [])) l else ((Pt.chk (nx s) s.size).1, [])

theorem uRes_no {r : Option RSt} {l : List UInt8} (h : ¬ (uRes r l).1 = 0) : (uRes r l).2 = [] := by
  unfold uRes at h ⊢
  split
  · rfl
  · rename_i hb
    rw [if_neg hb] at h
    cases r with
    | none => rfl
    | some a =>
      obtain ⟨l', v⟩ := a
      simp only at h ⊢
      split
      · rename_i h0
        rw [if_pos h0] at h
        exact absurd rfl h
      · rfl

theorem row_nil (w : World) (B : Nat) : Row w B (.slice none 0 0) [] := World.ownsRow_nil _ _ _ _

theorem unmarshal_any (s : ByteArray) (l : List UInt8) (w : World) :
    Calls Try.prog 14 #[.string s, .string (str l)] w fun e w' => ∃ O, e = .returned (.tuple #[O, .int .i64 (uFull s l).1]) ∧ Row w' w.heap.size O (uFull s l).2 ∧ Below w.heap.size w w' := by
  have H := shape_any s (uface w)
  unfold ReadPost at H
  by_cases hc : (Pt.chk (nx s) s.size).1 = 0
  · have hg := good_of hc
    simp only [hc, if_true] at H
    have hur : uFull s l = uRes (carryP rNum rTxt (nx s) (s.size + 1) 0 (l, [])) l := by simp [uFull, hc]
    rw [hur]
    have H1 : Calls Try.prog 31 #[.string s] (uface w) fun e w' => ∃ T, e = .returned T ∧ (∃ c0 c1 c2, T = .agg #[c0, c1, c2] ∧ Rep w' (fun k => (uface w).heap.size ≤ k) (nx s) (s.size + 1) 0 c0 c1 c2) ∧ Below (uface w).heap.size (uface w) w' := by
      refine H.mono ?_
      rintro e w' ⟨⟨c0, c1, c2, rfl, hr⟩, hb⟩
      exact ⟨_, rfl, ⟨c0, c1, c2, rfl, hr⟩, hb⟩
    have H2 : ∀ T w', (∃ c0 c1 c2, T = .agg #[c0, c1, c2] ∧ Rep w' (fun k => (uface w).heap.size ≤ k) (nx s) (s.size + 1) 0 c0 c1 c2) → Below (uface w).heap.size (uface w) w' → Calls Try.prog 39 #[T, .string (str l)] w' fun e w'' => RPost w'.heap.size (uRes (carryP rNum rTxt (nx s) (s.size + 1) 0 (l, [])) l) e w'' ∧ Below w'.heap.size w' w'' := by
      rintro T w' ⟨c0, c1, c2, rfl, hr⟩ hb
      exact vread_any s _ c0 c1 c2 l w' hr hg.ok hg.dep
    generalize hres : uRes (carryP rNum rTxt (nx s) (s.size + 1) 0 (l, [])) l = res at *
    have hno : ¬ res.1 = 0 → res.2 = [] := by rw [← hres]; exact uRes_no
    obtain ⟨n, bs⟩ := res
    simp only at hno
    by_cases h0 : n = 0
    · subst h0
      simp only [RPost, if_true] at H2
      exact unmarshal_good s (str l) bs w _ H1 H2
    · have := hno h0
      subst this
      simp only [RPost, if_neg h0] at H2
      refine (unmarshal_worse s (str l) w n 0 _ H1 H2).mono ?_
      rintro e w' ⟨rfl, hb⟩
      exact ⟨_, rfl, row_nil _ _, hb⟩
  · simp only [hc, if_false] at H
    have hur : uFull s l = ((Pt.chk (nx s) s.size).1, []) := by simp [uFull, hc]
    rw [hur]
    refine (unmarshal_bad s (str l) w _ _ H).mono ?_
    rintro e w' ⟨rfl, hb⟩
    exact ⟨_, rfl, row_nil _ _, hb⟩

end Go.Proofs.Ytblomippkddgiaa.V
