/-
  The face: Open catches what Read gave up with.
-/
import Derived.Test.YtblomippkddgiaaRead2
namespace Go.Proofs.Ytblomippkddgiaa
open Go.RowKit

theorem assert_fault (n q : Nat) (w : World) : (Instr.typeAssert (.iface 71 (faultOf n q)) 20 71 true).run Try.prog w = .ok (.tuple #[faultOf n q, .bool true]) w := by kernel_rfl
theorem field_fault (n q : Nat) (w : World) : (Instr.field 71 (faultOf n q) 0).run Try.prog w = .ok (.int .i64 n) w := by kernel_rfl
theorem below10 {B s : Nat} {w w1 : World} (h : Below B w w1) (hs : B ≤ s) (x0 x1 x2 x3 x4 x5 x6 x7 x8 x9 : Value) : Below B w (set10 w1 s x0 x1 x2 x3 x4 x5 x6 x7 x8 x9) :=
  (((((((((h.setCell (by exact hs) _).setCell (by exact hs) _).setCell (by exact hs) _).setCell (by exact hs) _).setCell (by exact hs) _).setCell (by exact hs) _).setCell (by exact hs) _).setCell (by exact hs) _).setCell (by exact hs) _).setCell (by exact hs) _
theorem lt_of_cell {w : World} {k o : Nat} {v : Value} (h : w.cell? ⟨k, o, none⟩ = some v) : k < w.heap.size := by
  rcases Nat.lt_or_ge k w.heap.size with hh | hh
  · exact hh
  · simp [World.cell?, Array.getElem?_eq_none hh] at h

theorem set_block {w : World} {s o : Nat} {xs : Array Value} {t : TypeId} (h : w.heap[s]? = some (.cells xs t (0, 0))) (x : Value) : (w.setCell ⟨s, o, none⟩ x).heap[s]? = some (.cells (xs.setIfInBounds o x) t (0, 0)) := by
  simp only [World.setCell, Array.getElem?_modify, h]
  simp
theorem heap10 {w : World} {s : Nat} (h : w.heap[s]? = some (.cells zeroCells 59 (0, 0))) (x0 x1 x2 x3 x4 x5 x6 x7 x8 x9 : Value) : (set10 w s x0 x1 x2 x3 x4 x5 x6 x7 x8 x9).heap[s]? = some (.cells #[x0, x1, x2, x3, x4, x5, x6, x7, x8, x9] 59 (0, 0)) := by
  have h0 := set_block (o := 0) h x0
  have h1 := set_block (o := 1) h0 x1
  have h2 := set_block (o := 2) h1 x2
  have h3 := set_block (o := 3) h2 x3
  have h4 := set_block (o := 4) h3 x4
  have h5 := set_block (o := 5) h4 x5
  have h6 := set_block (o := 6) h5 x6
  have h7 := set_block (o := 7) h6 x7
  have h8 := set_block (o := 8) h7 x8
  have h9 := set_block (o := 9) h8 x9
  refine h9.trans ?_
  simp

set_option maxRecDepth 100000 in
set_option maxHeartbeats 200000 in
theorem caught_any (n q : Nat) (w : World) :
    Calls Try.prog 30 #[.iface 71 (faultOf n q)] w fun e w' => e = .returned (faultOf n q) ∧ Below w.heap.size w w' := by
  have hta := assert_fault n q
  go_enter Try.func30, Try.ntmps30
  go_wp2
  exact bodyPost_ret (v := faultOf n q) (by simp [results, Try.results30, go_sem]) rfl ⟨rfl, ((Below.refl _ _).alloc (Nat.le_refl _) _).alloc (by simp) _⟩

set_option maxRecDepth 100000 in
set_option maxHeartbeats 1000000 in
theorem ocatch_panicking (a0 a1 B : Nat) (n q : Nat) (older : List PanicEntry) (w : World) (h0 : w.heap[a0]? = some (.cells zeroCells 59 (0, 0))) (h1 : w.cell? ⟨a1, 0, none⟩ = some (.int .i64 0)) (z1 : w.frozen? ⟨a1, 0, none⟩ = false) (hb0 : B ≤ a0) (hb1 : B ≤ a1) (hne : ¬ a0 = a1) :
    CallsD Try.prog 47 #[.pointer (some ⟨a0, 0, none⟩), .pointer (some ⟨a1, 0, none⟩)] (.panicking ({ v := .iface 71 (faultOf n q), recovered := false } :: older)) w fun e u' w' =>
      e = .returned (.tuple #[]) ∧ u' = .panicking ({ v := .iface 71 (faultOf n q), recovered := true } :: older) ∧ w'.heap[a0]? = some (.cells zeroCells 59 (0, 0)) ∧ w'.cell? ⟨a1, 0, none⟩ = some (.int .i64 n) ∧ Below B w w' := by
  refine callsD_of_wpS Try.func47 rfl fun c₀ cs hu => ?_
  apply wpS_seq
  apply wpS_region
  simp [wpOpsS, go_sem, recoverD, hu, Try.ntmps47, Exit.thenS]
  rw [show (#[Value.pointer (some { block := a0, off := 0 }), Value.pointer (some { block := a1, off := 0 })] ++ ((Array.replicate 8 undef).setIfInBounds 1 (Value.iface 71 (faultOf n q))).setIfInBounds 0 (Value.iface 71 (faultOf n q))) = #[.pointer (some { block := a0, off := 0 }), .pointer (some { block := a1, off := 0 }), .iface 71 (faultOf n q), .iface 71 (faultOf n q), undef, undef, undef, undef, undef, undef] from rfl]
  refine wpS_of_wp ?_
  have hfl := field_fault n q
  have l0 := lt_of_block h0
  have l1 := lt_of_cell h1
  go_wp2_with fail
  refine (caught_any n q _).mono ?_
  rintro e w1 ⟨rfl, hb⟩
  have s1 := hb.size
  have hz : w1.heap[a0]? = some (.cells zeroCells 59 (0, 0)) := (hb.block _ l0).trans h0
  have g1 : w1.cell? ⟨a1, 0, none⟩ = some (.int .i64 0) := (hb.cell (p := ⟨a1, 0, none⟩) l1).trans h1
  have y1 : w1.frozen? ⟨a1, 0, none⟩ = false := (hb.frozen (p := ⟨a1, 0, none⟩) l1).trans z1
  have m0 : a0 < w1.heap.size := by omega
  have m1 : a1 < w1.heap.size := by omega
  have e2 : ¬ a1 = a0 := by omega
  have c0 := cell_of hz 0 _ rfl
  have c1 := cell_of hz 1 _ rfl
  have c2 := cell_of hz 2 _ rfl
  have c3 := cell_of hz 3 _ rfl
  have c4 := cell_of hz 4 _ rfl
  have c5 := cell_of hz 5 _ rfl
  have c6 := cell_of hz 6 _ rfl
  have c7 := cell_of hz 7 _ rfl
  have c8 := cell_of hz 8 _ rfl
  have c9 := cell_of hz 9 _ rfl
  have cz := thaw_of hz
  have HZ := hide hz
  clear h0 h1 z1 hz
  go_wp2
  have F0 := heap10 (unhide HZ) (.int .i64 0) (.int .i64 0) (.int .i64 0) (.int .i64 0) (.int .i64 0) (.int .i64 0) (.int .i64 0) (.int .i64 0) (.bool false) (.string ⟨#[]⟩)
  have FB := below10 (hb.mono (by omega : B ≤ w.heap.size)) hb0 (.int .i64 0) (.int .i64 0) (.int .i64 0) (.int .i64 0) (.int .i64 0) (.int .i64 0) (.int .i64 0) (.int .i64 0) (.bool false) (.string ⟨#[]⟩)
  show bodyPostS Try.prog Try.f47 c₀ cs _ _ _ _ _
  refine ⟨rfl, _, rfl, _, results_none rfl _ _ _, rfl, rfl, ?_, ?_, FB.setCell (by exact hb1) _⟩
  · rw [Below.heap_setCell _ _ _ _ (by simpa using hne)]
    exact F0
  · simp [go_sem, g1]

theorem ocatch_idle (p0 p1 : Addr) (w : World) :
    CallsD Try.prog 47 #[.pointer (some p0), .pointer (some p1)] .returning w fun e u' w' => e = .returned (.tuple #[]) ∧ u' = .returning ∧ w' = w := by
  refine callsD_of_wpS Try.func47 rfl fun c₀ cs hu => ?_
  apply wpS_seq
  apply wpS_region
  simp [wpOpsS, go_sem, recoverD, hu, Try.ntmps47, Exit.thenS]
  rw [show (#[Value.pointer (some p0), Value.pointer (some p1)] ++ ((Array.replicate 8 undef).setIfInBounds 1 (Value.nilIface)).setIfInBounds 0 (Value.nilIface)) = #[.pointer (some p0), .pointer (some p1), .nilIface, .nilIface, undef, undef, undef, undef, undef, undef] from rfl]
  refine wpS_of_wp ?_
  go_wp2
  exact ⟨rfl, .returning, by cases c₀; simp_all, _, results_none rfl _ _ _, rfl, rfl, rfl⟩

abbrev oface (w : World) : World := (w.alloc (.cells zeroCells 59)).alloc (.cells #[.int .i64 0] 22)
def openPost (l : List UInt8) (w : World) (e : Ending) (w' : World) : Prop := Below w.heap.size w w' ∧ ((readP l = none ∧ e = .returned (.tuple #[zeroP, .int .i64 7])) ∨ ∃ p, readP l = some p ∧ e = .returned (.tuple #[pv p, .int .i64 0]))

set_option maxRecDepth 100000 in
set_option maxHeartbeats 1000000 in
theorem open_any (l : List UInt8) (w : World) (hl : l.length ≤ 9223372036854775807) : Calls Try.prog 24 #[.string (str l)] w (openPost l w) := by
  have hmf : ∀ (fn : Fn) (first cap : Array Value) (w : World), (Instr.makeFunc fn first cap).run Try.prog w = .ok (.func fn first cap) w := fun _ _ _ _ => rfl
  have HH := hide (read_any l (oface w) hl)
  have hz0 : (oface w).heap[w.heap.size]? = some (.cells zeroCells 59 (0, 0)) := by
    rw [Below.heap_alloc _ _ _ (by simp)]
    exact heap_alloc_new w _
  have HZ := hide hz0
  have hsz : (oface w).heap.size = w.heap.size + 2 := by simp
  have HB := hide (((Below.refl w.heap.size w).alloc (Nat.le_refl _) (.cells zeroCells 59)).alloc (by simp) (.cells #[.int .i64 0] 22))
  clear hz0
  go_enter_defers Try.func24, Try.ntmps24
  go_wp2_with fail
  refine (unhide HH).mono ?_
  rintro e w1 ⟨hb, ⟨hn, rfl⟩ | ⟨p, hp, rfl⟩⟩
  · have hs := hb.size
    have z0 := (hb.block w.heap.size (by omega)).trans (unhide HZ)
    have c1 : w1.cell? ⟨w.heap.size + 1, 0, none⟩ = some (.int .i64 0) := (hb.cell (p := ⟨w.heap.size + 1, 0, none⟩) (by simp)).trans (by simp [go_sem])
    have z1 : w1.frozen? ⟨w.heap.size + 1, 0, none⟩ = false := (hb.frozen (p := ⟨w.heap.size + 1, 0, none⟩) (by simp)).trans (by simp [go_sem])
    have hb0 : Below w.heap.size w w1 := (unhide HB).trans (hb.mono (by omega))
    have HZ1 := hide z0
    clear z0
    go_wp2
    refine leaves_cons (f := 47) (args := #[.pointer (some ⟨w.heap.size, 0, none⟩), .pointer (some ⟨w.heap.size + 1, 0, none⟩)]) (by simp) (by simp [go_sem]) ?_
    refine (ocatch_panicking w.heap.size (w.heap.size + 1) w.heap.size 7 0 [] _ (unhide HZ1) c1 z1 (Nat.le_refl _) (by omega) (by omega)).mono ?_
    rintro e u' w'' ⟨rfl, rfl, f0, f1, fb⟩
    have c0 := cell_of f0 0 _ rfl
    have d1 := cell_of f0 1 _ rfl
    have c2 := cell_of f0 2 _ rfl
    have c3 := cell_of f0 3 _ rfl
    have c4 := cell_of f0 4 _ rfl
    have c5 := cell_of f0 5 _ rfl
    have c6 := cell_of f0 6 _ rfl
    have c7 := cell_of f0 7 _ rfl
    have c8 := cell_of f0 8 _ rfl
    have c9 := cell_of f0 9 _ rfl
    simp [Leaves, settle, results, Try.results24, go_sem, c0, d1, c2, c3, c4, c5, c6, c7, c8, c9, f1]
    exact ⟨hb0.trans fb, Or.inl ⟨hn, rfl⟩⟩
  · have hs := hb.size
    have hz := (hb.block w.heap.size (by omega)).trans (unhide HZ)
    have g1 : w1.cell? ⟨w.heap.size + 1, 0, none⟩ = some (.int .i64 0) := (hb.cell (p := ⟨w.heap.size + 1, 0, none⟩) (by simp)).trans (by simp [go_sem])
    have z1 : w1.frozen? ⟨w.heap.size + 1, 0, none⟩ = false := (hb.frozen (p := ⟨w.heap.size + 1, 0, none⟩) (by simp)).trans (by simp [go_sem])
    have HB1 := hide ((unhide HB).trans (hb.mono (by omega : w.heap.size ≤ (oface w).heap.size)))
    have c0 := cell_of hz 0 _ rfl
    have c1 := cell_of hz 1 _ rfl
    have c2 := cell_of hz 2 _ rfl
    have c3 := cell_of hz 3 _ rfl
    have c4 := cell_of hz 4 _ rfl
    have c5 := cell_of hz 5 _ rfl
    have c6 := cell_of hz 6 _ rfl
    have c7 := cell_of hz 7 _ rfl
    have c8 := cell_of hz 8 _ rfl
    have c9 := cell_of hz 9 _ rfl
    have cz := thaw_of hz
    have HZ1 := hide hz
    have HP := hide hp
    obtain ⟨k, c, li, ln, sq, u, pa, o, pl, body⟩ := p
    clear hz hb hp HH
    go_wp2
    refine leaves_cons (f := 47) (args := #[.pointer (some ⟨w.heap.size, 0, none⟩), .pointer (some ⟨w.heap.size + 1, 0, none⟩)]) (by simp) (by simp [go_sem]) ?_
    refine (ocatch_idle _ _ _).mono ?_
    rintro e u' w'' ⟨rfl, rfl, rfl⟩
    simp [Leaves, settle, results, Try.results24, go_sem, c0, c1, c2, c3, c4, c5, c6, c7, c8, c9, g1]
    exact ⟨(below10 (unhide HB1) (Nat.le_refl _) _ _ _ _ _ _ _ _ _ _).setCell (by simp) _, Or.inr ⟨_, unhide HP, rfl⟩⟩

end Go.Proofs.Ytblomippkddgiaa
