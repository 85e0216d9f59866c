/-
  Joined: VUnmarshalFace RWorld2 VBack.
-/
import Derived.Test.YtblomippkddgiaaGreatDoorJ20
import Derived.Test.YtblomippkddgiaaGreatDoorJ18
/-
  The face: Unmarshal catches what Read gave up with.
-/
namespace Go.Proofs.YtblomippkddgiaaGreatDoor.V
open Go.RowKit

set_option maxRecDepth 100000 in
set_option maxHeartbeats 1000000 in
theorem ucatch_panicking (a0 a1 B : Nat) (n q : Nat) (older : List PanicEntry) (w : World) (h0 : w.cell? ⟨a0, 0, none⟩ = some (.slice none 0 0)) (h1 : w.cell? ⟨a1, 0, none⟩ = some (.int .i64 0)) (z0 : w.frozen? ⟨a0, 0, none⟩ = false) (z1 : w.frozen? ⟨a1, 0, none⟩ = false) (hb0 : B ≤ a0) (hb1 : B ≤ a1) (hne : ¬ a0 = a1) :
    CallsD Tryz.prog 209 #[.pointer (some ⟨a0, 0, none⟩), .pointer (some ⟨a1, 0, none⟩)] (.panicking ({ v := .iface 86 (faultOf n q), recovered := false } :: older)) w fun e u' w' =>
      e = .returned (.tuple #[]) ∧ u' = .panicking ({ v := .iface 86 (faultOf n q), recovered := true } :: older) ∧ w'.cell? ⟨a0, 0, none⟩ = some (.slice none 0 0) ∧ w'.cell? ⟨a1, 0, none⟩ = some (.int .i64 n) ∧ Below B w w' := by
  refine callsD_of_wpS Tryz.func209 rfl fun c₀ cs hu => ?_
  apply wpS_seq
  apply wpS_region
  simp [wpOpsS, go_sem, recoverD, hu, Tryz.ntmps209, Exit.thenS]
  rw [show (#[Value.pointer (some { block := a0, off := 0 }), Value.pointer (some { block := a1, off := 0 })] ++ ((Array.replicate 7 undef).setIfInBounds 1 (Value.iface 86 (faultOf n q))).setIfInBounds 0 (Value.iface 86 (faultOf n q))) = #[.pointer (some { block := a0, off := 0 }), .pointer (some { block := a1, off := 0 }), .iface 86 (faultOf n q), .iface 86 (faultOf n q), undef, undef, undef, undef, undef] from rfl]
  refine wpS_of_wp ?_
  have hfl := field_fault n q
  have l0 := lt_of_cell h0
  have l1 := lt_of_cell h1
  go_wp2_with fail
  refine (caught_any n q _).mono ?_
  rintro e w1 ⟨rfl, hb⟩
  have s1 := hb.size
  have g0 : w1.cell? ⟨a0, 0, none⟩ = some (.slice none 0 0) := (hb.cell (p := ⟨a0, 0, none⟩) l0).trans h0
  have g1 : w1.cell? ⟨a1, 0, none⟩ = some (.int .i64 0) := (hb.cell (p := ⟨a1, 0, none⟩) l1).trans h1
  have y0 : w1.frozen? ⟨a0, 0, none⟩ = false := (hb.frozen (p := ⟨a0, 0, none⟩) l0).trans z0
  have y1 : w1.frozen? ⟨a1, 0, none⟩ = false := (hb.frozen (p := ⟨a1, 0, none⟩) l1).trans z1
  have m0 : a0 < w1.heap.size := by omega
  have m1 : a1 < w1.heap.size := by omega
  have e2 : ¬ a1 = a0 := by omega
  clear h0 h1 z0 z1
  go_wp2
  have F0 : ((w1.setCell { block := a0, off := 0 } (.slice none 0 0)).setCell { block := a1, off := 0 } (Value.int IntKind.i64 ↑n)).cell? ⟨a0, 0, none⟩ = some (.slice none 0 0) := by simp [go_sem, g0]
  have F1 : ((w1.setCell { block := a0, off := 0 } (.slice none 0 0)).setCell { block := a1, off := 0 } (Value.int IntKind.i64 ↑n)).cell? ⟨a1, 0, none⟩ = some (.int .i64 n) := by simp [go_sem, g1]
  have FB : Below B w ((w1.setCell { block := a0, off := 0 } (.slice none 0 0)).setCell { block := a1, off := 0 } (Value.int IntKind.i64 ↑n)) :=
    ((hb.mono (by omega)).setCell (by simpa using hb0) _).setCell (by simpa using hb1) _
  show bodyPostS Tryz.prog Tryz.f209 c₀ cs _ _ _ _ _
  exact ⟨rfl, _, rfl, _, results_none rfl _ _ _, rfl, rfl, F0, F1, FB⟩

theorem ucatch_idle (p0 p1 : Addr) (w : World) :
    CallsD Tryz.prog 209 #[.pointer (some p0), .pointer (some p1)] .returning w fun e u' w' => e = .returned (.tuple #[]) ∧ u' = .returning ∧ w' = w := by
  refine callsD_of_wpS Tryz.func209 rfl fun c₀ cs hu => ?_
  apply wpS_seq
  apply wpS_region
  simp [wpOpsS, go_sem, recoverD, hu, Tryz.ntmps209, Exit.thenS]
  rw [show (#[Value.pointer (some p0), Value.pointer (some p1)] ++ ((Array.replicate 7 undef).setIfInBounds 1 (Value.nilIface)).setIfInBounds 0 (Value.nilIface)) = #[.pointer (some p0), .pointer (some p1), .nilIface, .nilIface, undef, undef, undef, undef, undef] from rfl]
  refine wpS_of_wp ?_
  go_wp2
  exact ⟨rfl, .returning, by cases c₀; simp_all, _, results_none rfl _ _ _, rfl, rfl, rfl⟩

abbrev uface (w : World) : World := (w.alloc (.cells #[.slice none 0 0] 44)).alloc (.cells #[.int .i64 0] 32)

set_option maxRecDepth 100000 in
set_option maxHeartbeats 1000000 in
theorem unmarshal_bad (s S : ByteArray) (w : World) (n q : Nat) (H : Calls Tryz.prog 78 #[.string s] (uface w) fun e w' => e = gaveUp n q ∧ Below (uface w).heap.size (uface w) w') :
    Calls Tryz.prog 151 #[.string s, .string S] w fun e w' => e = .returned (.tuple #[.slice none 0 0, .int .i64 n]) ∧ Below w.heap.size w w' := by
  have hmf : ∀ (fn : Fn) (first cap : Array Value) (w : World), (Instr.makeFunc fn first cap).run Tryz.prog w = .ok (.func fn first cap) w := fun _ _ _ _ => rfl
  have HH := hide H
  clear H
  go_enter_defers Tryz.func151, Tryz.ntmps151
  go_wp2_with fail
  refine (unhide HH).mono ?_
  rintro e w1 ⟨rfl, hb⟩
  have hs := hb.size
  simp at hs
  have c0 : w1.cell? ⟨w.heap.size, 0, none⟩ = some (.slice none 0 0) := (hb.cell (p := ⟨w.heap.size, 0, none⟩) (by simp; omega)).trans (by simp [go_sem])
  have c1 : w1.cell? ⟨w.heap.size + 1, 0, none⟩ = some (.int .i64 0) := (hb.cell (p := ⟨w.heap.size + 1, 0, none⟩) (by simp)).trans (by simp [go_sem])
  have z0 : w1.frozen? ⟨w.heap.size, 0, none⟩ = false := (hb.frozen (p := ⟨w.heap.size, 0, none⟩) (by simp; omega)).trans (by simp [go_sem])
  have z1 : w1.frozen? ⟨w.heap.size + 1, 0, none⟩ = false := (hb.frozen (p := ⟨w.heap.size + 1, 0, none⟩) (by simp)).trans (by simp [go_sem])
  have hb0 : Below w.heap.size w w1 := (((Below.refl _ _).alloc (Nat.le_refl _) _).alloc (by simp) _).trans (hb.mono (by simp; omega))
  go_wp2
  refine leaves_cons (f := 209) (args := #[.pointer (some ⟨w.heap.size, 0, none⟩), .pointer (some ⟨w.heap.size + 1, 0, none⟩)]) (by simp) (by simp [go_sem]) ?_
  refine (ucatch_panicking w.heap.size (w.heap.size + 1) w.heap.size n q [] _ c0 c1 z0 z1 (Nat.le_refl _) (by omega) (by omega)).mono ?_
  rintro e u' w'' ⟨rfl, rfl, f0, f1, fb⟩
  simp [Leaves, settle, results, Tryz.results151, go_sem, f0, f1]
  exact hb0.trans fb

set_option maxRecDepth 100000 in
set_option maxHeartbeats 1000000 in
theorem unmarshal_worse (s S : ByteArray) (w : World) (n q : Nat) (B : Value → World → Prop) (H : Calls Tryz.prog 78 #[.string s] (uface w) fun e w' => ∃ T, e = .returned T ∧ B T w' ∧ Below (uface w).heap.size (uface w) w')
    (H2 : ∀ T w', B T w' → Below (uface w).heap.size (uface w) w' → Calls Tryz.prog 197 #[T, .string S] w' fun e w'' => e = gaveUp n q ∧ Below w'.heap.size w' w'') :
    Calls Tryz.prog 151 #[.string s, .string S] w fun e w' => e = .returned (.tuple #[.slice none 0 0, .int .i64 n]) ∧ Below w.heap.size w w' := by
  have hmf : ∀ (fn : Fn) (first cap : Array Value) (w : World), (Instr.makeFunc fn first cap).run Tryz.prog w = .ok (.func fn first cap) w := fun _ _ _ _ => rfl
  have HH := hide H
  have HH2 := hide H2
  clear H H2
  go_enter_defers Tryz.func151, Tryz.ntmps151
  go_wp2_with fail
  refine (unhide HH).mono ?_
  rintro e w0 ⟨T, rfl, hB, hb1⟩
  have HC := hide ((unhide HH2) T w0 hB hb1)
  go_wp2_with fail
  refine (unhide HC).mono ?_
  rintro e w1 ⟨rfl, hb2⟩
  have hb := hb1.trans (hb2.mono hb1.size)
  have hs := hb.size
  simp at hs
  have c0 : w1.cell? ⟨w.heap.size, 0, none⟩ = some (.slice none 0 0) := (hb.cell (p := ⟨w.heap.size, 0, none⟩) (by simp; omega)).trans (by simp [go_sem])
  have c1 : w1.cell? ⟨w.heap.size + 1, 0, none⟩ = some (.int .i64 0) := (hb.cell (p := ⟨w.heap.size + 1, 0, none⟩) (by simp)).trans (by simp [go_sem])
  have z0 : w1.frozen? ⟨w.heap.size, 0, none⟩ = false := (hb.frozen (p := ⟨w.heap.size, 0, none⟩) (by simp; omega)).trans (by simp [go_sem])
  have z1 : w1.frozen? ⟨w.heap.size + 1, 0, none⟩ = false := (hb.frozen (p := ⟨w.heap.size + 1, 0, none⟩) (by simp)).trans (by simp [go_sem])
  have hb0 : Below w.heap.size w w1 := (((Below.refl _ _).alloc (Nat.le_refl _) _).alloc (by simp) _).trans (hb.mono (by simp; omega))
  go_wp2
  refine leaves_cons (f := 209) (args := #[.pointer (some ⟨w.heap.size, 0, none⟩), .pointer (some ⟨w.heap.size + 1, 0, none⟩)]) (by simp) (by simp [go_sem]) ?_
  refine (ucatch_panicking w.heap.size (w.heap.size + 1) w.heap.size n q [] _ c0 c1 z0 z1 (Nat.le_refl _) (by omega) (by omega)).mono ?_
  rintro e u' w'' ⟨rfl, rfl, f0, f1, fb⟩
  simp [Leaves, settle, results, Tryz.results151, go_sem, f0, f1]
  exact hb0.trans fb

set_option maxRecDepth 100000 in
set_option maxHeartbeats 1000000 in
theorem unmarshal_good (s S : ByteArray) (v : List It) (w : World) (B : Value → World → Prop) (H : Calls Tryz.prog 78 #[.string s] (uface w) fun e w' => ∃ T, e = .returned T ∧ B T w' ∧ Below (uface w).heap.size (uface w) w')
    (H2 : ∀ T w', B T w' → Below (uface w).heap.size (uface w) w' → Calls Tryz.prog 197 #[T, .string S] w' fun e w'' => (∃ O, e = .returned O ∧ Row w'' w'.heap.size O v) ∧ Below w'.heap.size w' w'') :
    Calls Tryz.prog 151 #[.string s, .string S] w fun e w' => ∃ O, e = .returned (.tuple #[O, .int .i64 0]) ∧ Row w' w.heap.size O v ∧ Below w.heap.size w w' := by
  have hmf : ∀ (fn : Fn) (first cap : Array Value) (w : World), (Instr.makeFunc fn first cap).run Tryz.prog w = .ok (.func fn first cap) w := fun _ _ _ _ => rfl
  have HH := hide H
  have HH2 := hide H2
  clear H H2
  go_enter_defers Tryz.func151, Tryz.ntmps151
  go_wp2_with fail
  refine (unhide HH).mono ?_
  rintro e w0 ⟨T, rfl, hB, hb1⟩
  have HC := hide ((unhide HH2) T w0 hB hb1)
  go_wp2_with fail
  refine (unhide HC).mono ?_
  rintro e w1 ⟨⟨O, rfl, hrow⟩, hb2⟩
  have hsz0 := hb1.size
  have hb := hb1.trans (hb2.mono hb1.size)
  have hs := hb.size
  simp at hs hsz0
  obtain ⟨oa, on, oc, hsh⟩ := row_shape hrow
  subst hsh
  have c0 : w1.cell? ⟨w.heap.size, 0, none⟩ = some (.slice none 0 0) := (hb.cell (p := ⟨w.heap.size, 0, none⟩) (by simp; omega)).trans (by simp [go_sem])
  have c1 : w1.cell? ⟨w.heap.size + 1, 0, none⟩ = some (.int .i64 0) := (hb.cell (p := ⟨w.heap.size + 1, 0, none⟩) (by simp)).trans (by simp [go_sem])
  have z0 : w1.frozen? ⟨w.heap.size, 0, none⟩ = false := (hb.frozen (p := ⟨w.heap.size, 0, none⟩) (by simp; omega)).trans (by simp [go_sem])
  have z1 : w1.frozen? ⟨w.heap.size + 1, 0, none⟩ = false := (hb.frozen (p := ⟨w.heap.size + 1, 0, none⟩) (by simp)).trans (by simp [go_sem])
  have hb0 : Below w.heap.size w w1 := (((Below.refl _ _).alloc (Nat.le_refl _) _).alloc (by simp) _).trans (hb.mono (by simp; omega))
  have FR : Hid (Row ((w1.setCell ⟨w.heap.size, 0, none⟩ (.slice oa on oc)).setCell ⟨w.heap.size + 1, 0, none⟩ (.int .i64 0)) w.heap.size (.slice oa on oc) v) :=
    row_base (row_set (row_set hrow (by omega)) (by omega)) (B := w0.heap.size) (by omega)
  clear hrow
  go_wp2
  refine leaves_cons (f := 209) (args := #[.pointer (some ⟨w.heap.size, 0, none⟩), .pointer (some ⟨w.heap.size + 1, 0, none⟩)]) (by simp) (by simp [go_sem]) ?_
  refine (ucatch_idle _ _ _).mono ?_
  rintro e u' w'' ⟨rfl, rfl, rfl⟩
  simp [Leaves, settle, results, Tryz.results151, go_sem, c0, c1]
  exact ⟨unhide FR, (hb0.setCell (by simp) _).setCell (by simp) _⟩

/- Unmarshal's answer: the error, the items -/
def uFull (s : ByteArray) (l : List UInt8) : Nat × List It := if (Pt.chk (nx s) s.size).1 = 0 then uRes (carryP rNum rTxt (nx s) (s.size + 1) 0 (l, [])) l else ((Pt.chk (nx s) s.size).1, [])

theorem uRes_no {r : Option RSt} {l : List UInt8} (h : ¬ (uRes r l).1 = 0) : (uRes r l).2 = [] := by
  unfold uRes at h ⊢
  split
  · rfl
  · rename_i hb
    rw [if_neg hb] at h
    cases r with
    | none => rfl
    | some a =>
      obtain ⟨l', v⟩ := a
      simp only at h ⊢
      split
      · rename_i h0
        rw [if_pos h0] at h
        exact absurd rfl h
      · rfl

theorem row_nil (w : World) (B : Nat) : Row w B (.slice none 0 0) [] := World.ownsRow_nil _ _ _ _

theorem unmarshal_any (s : ByteArray) (l : List UInt8) (w : World) :
    Calls Tryz.prog 151 #[.string s, .string (str l)] w fun e w' => ∃ O, e = .returned (.tuple #[O, .int .i64 (uFull s l).1]) ∧ Row w' w.heap.size O (uFull s l).2 ∧ Below w.heap.size w w' := by
  have H := shape_any s (uface w)
  unfold ReadPost at H
  by_cases hc : (Pt.chk (nx s) s.size).1 = 0
  · have hg := good_of hc
    simp only [hc, if_true] at H
    have hur : uFull s l = uRes (carryP rNum rTxt (nx s) (s.size + 1) 0 (l, [])) l := by simp [uFull, hc]
    rw [hur]
    have H1 : Calls Tryz.prog 78 #[.string s] (uface w) fun e w' => ∃ T, e = .returned T ∧ (∃ c0 c1 c2, T = .agg #[c0, c1, c2] ∧ Rep w' (fun k => (uface w).heap.size ≤ k) (nx s) (s.size + 1) 0 c0 c1 c2) ∧ Below (uface w).heap.size (uface w) w' := by
      refine H.mono ?_
      rintro e w' ⟨⟨c0, c1, c2, rfl, hr⟩, hb⟩
      exact ⟨_, rfl, ⟨c0, c1, c2, rfl, hr⟩, hb⟩
    have H2 : ∀ T w', (∃ c0 c1 c2, T = .agg #[c0, c1, c2] ∧ Rep w' (fun k => (uface w).heap.size ≤ k) (nx s) (s.size + 1) 0 c0 c1 c2) → Below (uface w).heap.size (uface w) w' → Calls Tryz.prog 197 #[T, .string (str l)] w' fun e w'' => RPost w'.heap.size (uRes (carryP rNum rTxt (nx s) (s.size + 1) 0 (l, [])) l) e w'' ∧ Below w'.heap.size w' w'' := by
      rintro T w' ⟨c0, c1, c2, rfl, hr⟩ hb
      exact vread_any s _ c0 c1 c2 l w' hr hg.ok hg.dep
    generalize hres : uRes (carryP rNum rTxt (nx s) (s.size + 1) 0 (l, [])) l = res at *
    have hno : ¬ res.1 = 0 → res.2 = [] := by rw [← hres]; exact uRes_no
    obtain ⟨n, bs⟩ := res
    simp only at hno
    by_cases h0 : n = 0
    · subst h0
      simp only [RPost, if_true] at H2
      exact unmarshal_good s (str l) bs w _ H1 H2
    · have := hno h0
      subst this
      simp only [RPost, if_neg h0] at H2
      refine (unmarshal_worse s (str l) w n 0 _ H1 H2).mono ?_
      rintro e w' ⟨rfl, hb⟩
      exact ⟨_, rfl, row_nil _ _, hb⟩
  · simp only [hc, if_false] at H
    have hur : uFull s l = ((Pt.chk (nx s) s.size).1, []) := by simp [uFull, hc]
    rw [hur]
    refine (unmarshal_bad s (str l) w _ _ H).mono ?_
    rintro e w' ⟨rfl, hb⟩
    exact ⟨_, rfl, row_nil _ _, hb⟩

end Go.Proofs.YtblomippkddgiaaGreatDoor.V
/-
  A world as the document's answer keeps it, with no program in sight: what comes to the hosts, the queue of jobs, the services, the logs, and crashes (P14 to P19).
-/
namespace Go.Proofs.YtblomippkddgiaaGreatDoor.R

/- P14: a packet at a client -/
def restP (w : Wd) (client line : Int) : Wd := setLine w client line { lineP w client line with wait := w.c.retry, tries := w.c.tries }
def gotP (w : Wd) (client : Int) (p : Pk) : Wd :=
  let l := lineP w client p.line
  sendP w (-1) ⟨6, client, lifeP w client, p.line, l.seq, l.uid, p.part, p.off, false, []⟩
def resultP (w : Wd) (client : Int) (p : Pk) : Wd :=
  let l := lineP w client p.line
  let n := piecesP l.message
  if l.acked < n - 1 ∨ l.pieces < p.part then w
  else if p.part = l.pieces then
    if l.pieces + 1 = p.off then setLine w client p.line { l with came := l.came ++ p.body, pieces := l.pieces + 1, acked := n, result := (V.uFull l.to (l.came ++ p.body)).2, state := 2 }
    else restP (gotP (setLine w client p.line { l with came := l.came ++ p.body, pieces := l.pieces + 1, acked := n }) client p) client p.line
  else gotP w client p
def heardP (w : Wd) (client : Int) (p : Pk) : Wd :=
  let l := lineP w client p.line
  if l.state ≠ 1 ∨ p.life ≠ lifeP w client ∨ p.seq ≠ l.seq then w
  else if p.kind = 2 then
    if p.part = l.acked then
      let w1 := setLine w client p.line { l with acked := l.acked + 1 }
      restP (if l.acked + 1 < piecesP l.message then sendPieceP w1 client p.line false else w1) client p.line
    else w
  else if p.kind = 4 then restP w client p.line
  else if p.kind = 5 then resultP w client p
  else if p.kind = 7 then setLine w client p.line { l with state := 4 + p.part }
  else w

/- P15, P16: a packet at the server -/
def replyP (w : Wd) (p : Pk) (kind k of' : Int) : Wd := sendP w p.client ⟨kind, p.client, p.life, p.line, p.seq, p.uid, k, of', false, []⟩
def tellP (w : Wd) (i : Nat) : Wd :=
  let w1 := sendResultP w i
  let r := seenP w1 i
  setSeen w1 i { r with timed := decide (8 * r.at' + 8 < (r.result.length : Int)), wait := w.c.retry, tries := w.c.tries }
def aliveP (w : Wd) (uid : Int) : Bool := decide (1 ≤ uid) && ((w.services[(uid - 1).toNat]?).map (·.alive)).getD false
def rememberedP (w : Wd) : Nat := (w.seen.filter fun r => decide (0 < r.seq)).length
def ackP (w : Wd) (p : Pk) : Wd := if p.please = true then replyP w p 2 p.part p.off else w
def gatherP (w : Wd) (i : Nat) (p : Pk) : Wd :=
  let r := seenP w i
  if p.part = r.pieces then
    if p.part = p.off - 1 then
      if w.c.table ≤ (w.jobs.length : Int) then w
      else ackP { setSeen w i { r with state := 2, message := r.message ++ p.body, pieces := r.pieces + 1 } with jobs := w.jobs ++ [⟨p.client, p.line, p.life, p.seq, p.uid⟩] } p
    else ackP (setSeen w i { r with message := r.message ++ p.body, pieces := r.pieces + 1 }) p
  else ackP w p
def knownP (w : Wd) (i : Nat) (p : Pk) : Wd :=
  let r := seenP w i
  if r.state = 1 then (if p.kind = 1 ∧ p.part ≤ r.pieces then gatherP w i p else w)
  else if r.state = 4 then replyP w p 7 0 2
  else if p.please = false then w
  else if r.state = 3 then tellP w i
  else if p.kind = 3 then replyP w p 4 0 1
  else replyP w p 2 p.part p.off
def livesP (w : Wd) (p : Pk) : Wd :=
  if (w.lives.getD p.client.toNat 0) < p.life then { w with lives := w.lives.set p.client.toNat p.life, seen := ((w.seen.set (3 * p.client.toNat) sn0).set (3 * p.client.toNat + 1) sn0).set (3 * p.client.toNat + 2) sn0 } else w
def askP (w : Wd) (i : Nat) (p : Pk) : Wd :=
  let r := seenP w i
  if p.kind = 6 then
    if r.seq = p.seq ∧ r.state = 3 ∧ p.off = piecesP r.result ∧ p.part = r.at' ∧ r.at' < piecesP r.result - 1 then tellP (setSeen w i { r with at' := r.at' + 1 }) i else w
  else if r.seq = p.seq then knownP w i p
  else if p.seq < r.seq then w
  else if aliveP w p.uid = false then replyP w p 7 0 2
  else if p.kind = 3 ∨ p.part ≠ 0 then w
  else if r.seq = 0 ∧ w.c.table ≤ (rememberedP w : Int) then replyP w p 7 1 2
  else knownP (setSeen w i { sn0 with seq := p.seq, uid := p.uid, state := 1 }) i p
def askedP (w : Wd) (p : Pk) : Wd :=
  if p.life < w.lives.getD p.client.toNat 0 then w else askP (livesP w p) (3 * p.client.toNat + p.line.toNat) p

def deliverP (w : Wd) (i : Int) : Int × Wd := if off w i then (9, w) else match w.flying[i.toNat]? with
  | none => (9, w)
  | some f =>
    let w1 := { w with flying := w.flying.eraseIdx i.toNat }
    (0, if f.bent = true then w1 else match readP f.s with
      | none => w1
      | some p => if f.to = -1 then askedP w1 p else heardP w1 f.to p)

/- the services -/
def argN (v : List It) (k : Nat) : Int := ((v[k]?).map (·.1)).getD 0
def argS (v : List It) (k : Nat) : ByteArray := ((v[k]?).map (·.2)).getD ⟨#[]⟩
def countedP : List En → Int → Int
  | [], n => n
  | e :: es, n => countedP es (if e.proc = 0 then (n + argN e.arg 0 + 65536) % 65536 else if argN e.arg 0 = 1 then 0 else n)
def postedP (l : List En) : List ByteArray :=
  let out := (l.filter fun e => decide (e.proc = 0)).map fun e => argS e.arg 0
  out.drop (out.length - 4)
def laidP : List En → Int → List It → List It
  | [], _, was => was
  | e :: es, d, was => laidP es d (if argN e.arg 0 = d then e.arg.drop 2 else was)
def num (n : Int) : It := (n, ⟨#[]⟩)
def doesP (kind : Int) (l : List En) (proc : Int) (arg : List It) : List It :=
  if kind = 0 then [num (if proc = 0 then (countedP l 0 + argN arg 0 + 65536) % 65536 else countedP l 0)]
  else if kind = 1 then
    if proc = 0 then [num (min 4 (((postedP l).length : Int) + 1))]
    else let b := (postedP l).take (argN arg 0).toNat; num b.length :: b.map fun s => (0, s)
  else
    let was := laidP l (argN arg 0) []
    if was.length = 0 then [num 0, num 0] else num 1 :: num was.length :: was

/- P17: Serve -/
def doneP (w : Wd) (i : Nat) : Wd :=
  let r := seenP w i
  let k := (r.uid - 1).toNat
  let s := (w.services[k]?).getD ⟨0, false, []⟩
  let proc := 256 * ((r.message.getD 0 0).toNat : Int) + ((r.message.getD 1 0).toNat : Int)
  let t := (sigP s.kind proc).getD (⟨#[]⟩, ⟨#[]⟩)
  let arg := (V.uFull t.1 (r.message.drop 2)).2
  let out := doesP s.kind s.log proc arg
  let w1 := { w with services := w.services.set k { s with log := s.log ++ [⟨((i / 3 : Nat) : Int), w.lives.getD (i / 3) 0, ((i % 3 : Nat) : Int), r.seq, proc, arg, out⟩] } }
  tellP (setSeen w1 i { r with state := 3, result := (bytesP t.2 out).getD [], at' := 0 }) i
def waitsP (w : Wd) (j : Jb) : Prop := (seenP w (3 * j.client.toNat + j.line.toNat)).state = 2 ∧ (seenP w (3 * j.client.toNat + j.line.toNat)).seq = j.seq ∧ w.lives.getD j.client.toNat 0 = j.life
instance (w : Wd) (j : Jb) : Decidable (waitsP w j) := by unfold waitsP; infer_instance
def serveGo (w : Wd) : List Jb → Int × Wd
  | [] => (19, { w with jobs := [] })
  | j :: js => if waitsP w j then (0, doneP { w with jobs := js } (3 * j.client.toNat + j.line.toNat)) else serveGo w js
def serveP (w : Wd) : Int × Wd := serveGo w w.jobs

/- P18 -/
def madeP (w : Wd) (uid : Int) : Prop := 1 ≤ uid ∧ uid ≤ (w.services.length : Int)
instance (w : Wd) (uid : Int) : Decidable (madeP w uid) := by unfold madeP; infer_instance
def logOf (w : Wd) (uid : Int) : List En := ((w.services[(uid - 1).toNat]?).map (·.log)).getD []
def logP (w : Wd) (uid : Int) : Int × Int := if madeP w uid then ((logOf w uid).length, 0) else (0, 9)
def entryAtP (w : Wd) (uid k : Int) : Option En := if madeP w uid ∧ 0 ≤ k then (logOf w uid)[k.toNat]? else none

/- P19 -/
def crashP (w : Wd) (host : Int) : Int × Wd :=
  if host = -1 then (0, { w with services := w.services.map fun s => { s with alive := false }, lives := [0, 0, 0], seen := List.replicate 9 sn0, jobs := [] })
  else if host < 0 ∨ (w.clients.length : Int) ≤ host then (13, w)
  else if lifeP w host = 255 then (11, w)
  else (0, { w with clients := w.clients.set host.toNat (cl0 (lifeP w host + 1) w.c.lines) })
end Go.Proofs.YtblomippkddgiaaGreatDoor.R
/-
  What the document's 'read' does, without the byte behind an odd string, and what the landed reader does: the second is the first, and the bytes are those of the value.
-/
namespace Go.Proofs.YtblomippkddgiaaGreatDoor.V
open Go.RowKit

/- a string, whatever the byte behind it -/
def qTxt (x : RSt) : Option RSt := match x.1 with
  | a :: c :: r => if num2 a c ≤ 14 ∧ num2 a c + num2 a c % 2 ≤ r.length then some (r.drop (num2 a c + num2 a c % 2), x.2 ++ [(0, str (r.take (num2 a c)))]) else none
  | _ => none

/- one reads as the other, if the bytes are the value's own -/
structure Two (E : List It → Eaten) (G : RSt → Option RSt) (l : List UInt8) (it : List It) (l' : List UInt8) (it' : List It) (v : List It) (ks : List Bool) (pre : List UInt8) : Prop where
  items : it' = it ++ v
  bytes : l = pre ++ l'
  eaten : ∀ rest, E (v ++ rest) = some (ks, rest)
  same : ks.length = v.length
  len : pre.length = (bytesOf ks v).length
  back : G (l, it) = if pre = bytesOf ks v then some (l', it') else none
def Mate (E : List It → Eaten) (F G : RSt → Option RSt) : Prop := ∀ l it, (F (l, it) = none → G (l, it) = none) ∧ ∀ l' it', F (l, it) = some (l', it') → ∃ v ks pre, Two E G l it l' it' v ks pre

theorem bytesOf_front : ∀ (ks : List Bool) (v u : List It), ks.length = v.length → bytesOf ks (v ++ u) = bytesOf ks v := by
  intro ks
  induction ks with
  | nil => intro v u _; simp [bytesOf]
  | cons k ks ih =>
    intro v u h
    cases v with
    | nil => simp at h
    | cons x v =>
      simp only [List.cons_append, bytesOf]
      rw [ih v u (by simpa using h)]

theorem mate_seq {E : Nat → List It → Eaten} {F G : Nat → RSt → Option RSt} : ∀ qs : List Nat, (∀ q ∈ qs, Mate (E q) (F q) (G q)) → Mate (seqE E qs) (seqC F qs) (seqC G qs) := by
  intro qs
  induction qs with
  | nil =>
    intro _ l it
    refine ⟨fun h => by simp [seqC] at h, fun l' it' h => ?_⟩
    simp only [seqC, Option.some.injEq, Prod.mk.injEq] at h
    obtain ⟨rfl, rfl⟩ := h
    exact ⟨[], [], [], by simp, by simp, fun rest => rfl, rfl, rfl, by simp [seqC, bytesOf]⟩
  | cons q qs ih =>
    intro hq l it
    have h1 := hq q (List.mem_cons_self ..) l it
    have ih' := ih (fun q' h => hq q' (List.mem_cons_of_mem _ h))
    simp only [seqC]
    cases hF : F q (l, it) with
    | none => exact ⟨fun _ => by rw [h1.1 hF]; rfl, fun l' it' h => by simp at h⟩
    | some x1 =>
      obtain ⟨l1, it1⟩ := x1
      obtain ⟨v1, k1, p1, t1⟩ := h1.2 l1 it1 hF
      have h2 := ih' l1 it1
      refine ⟨fun h => ?_, fun l' it' h => ?_⟩
      · rw [t1.back]
        split
        · exact h2.1 h
        · rfl
      · obtain ⟨v2, k2, p2, t2⟩ := h2.2 l' it' h
        have hb : bytesOf (k1 ++ k2) (v1 ++ v2) = bytesOf k1 v1 ++ bytesOf k2 v2 := by
          rw [bytesOf_append _ _ _ (by rw [List.length_append, t1.same]; omega), t1.same, List.drop_left]
          rw [bytesOf_front k1 v1 v2 t1.same]
        refine ⟨v1 ++ v2, k1 ++ k2, p1 ++ p2, by rw [t2.items, t1.items, List.append_assoc], by rw [t1.bytes, t2.bytes, List.append_assoc], fun rest => ?_, by simp [t1.same, t2.same], by rw [hb, List.length_append, List.length_append, t1.len, t2.len], ?_⟩
        · simp only [seqE, List.append_assoc, t1.eaten, t2.eaten, joinE]
        · rw [t1.back, hb]
          by_cases e1 : p1 = bytesOf k1 v1
          · rw [if_pos e1]
            show seqC G qs (l1, it1) = _
            rw [t2.back]
            by_cases e2 : p2 = bytesOf k2 v2
            · rw [if_pos e2, if_pos (by rw [e1, e2])]
            · rw [if_neg e2, if_neg (fun h => e2 (List.append_inj h t1.len).2)]
          · rw [if_neg e1, if_neg (fun h => e1 (List.append_inj h t1.len).1)]
            rfl

theorem two8_num2 (a c : UInt8) (t : Int) (h : t = (num2 a c : Int) ∨ t = (num2 a c : Int) - 65536) : two8 t = [a, c] := by
  have ha := a.toNat_lt
  have hc := c.toNat_lt
  unfold num2 at h
  have e1 : t % 65536 / 256 = (a.toNat : Int) := by omega
  have e2 : t % 256 = (c.toNat : Int) := by omega
  unfold two8
  rw [e1, e2]
  simp [b8]
theorem turned_or (lo hi n : Int) : turned lo hi n = n ∨ turned lo hi n = n - 65536 := by
  unfold turned
  split
  · exact Or.inr rfl
  · exact Or.inl rfl

theorem mate_num (lo hi : Int) (E : List It → Eaten) (E' : Int → List It → Eaten) (F G : Int → RSt → Option RSt)
    (hE : ∀ t rest, lo ≤ t → t ≤ hi → E ((t, ⟨#[]⟩) :: rest) = joinE [false] (E' t rest))
    (h : ∀ t, lo ≤ t → t ≤ hi → Mate (E' t) (F t) (G t)) :
    Mate E (fun x => (rNum lo hi x).bind fun r => F r.1 r.2) (fun x => (rNum lo hi x).bind fun r => G r.1 r.2) := by
  intro l it
  match l with
  | [] => exact ⟨fun _ => rfl, fun l' it' h => by simp [rNum] at h⟩
  | [a] => exact ⟨fun _ => rfl, fun l' it' h => by simp [rNum] at h⟩
  | a :: c :: r =>
    have hR : rNum lo hi (a :: c :: r, it) = if turned lo hi (num2 a c) < lo ∨ hi < turned lo hi (num2 a c) then none else some (turned lo hi (num2 a c), (r, it ++ [(turned lo hi (num2 a c), ⟨#[]⟩)])) := rfl
    have ht := two8_num2 a c (turned lo hi (num2 a c)) (turned_or lo hi _)
    generalize turned lo hi (num2 a c) = t at hR ht
    by_cases hb : t < lo ∨ hi < t
    · rw [if_pos hb] at hR
      simp only [hR]
      exact ⟨fun _ => rfl, fun _ _ h => by simp at h⟩
    · rw [if_neg hb] at hR
      simp only [hR, Option.bind_some]
      obtain ⟨m1, m2⟩ := h t (by omega) (by omega) r (it ++ [(t, ⟨#[]⟩)])
      refine ⟨m1, fun l' it' hF => ?_⟩
      obtain ⟨v, ks, pre, T⟩ := m2 l' it' hF
      have hb8 : bytesOf (false :: ks) ((t, ⟨#[]⟩) :: v) = a :: c :: bytesOf ks v := by simp [bytesOf, enc8, ht]
      refine ⟨(t, ⟨#[]⟩) :: v, false :: ks, a :: c :: pre, by rw [T.items, List.append_assoc]; rfl, by rw [T.bytes]; rfl, fun rest => ?_, by simp [T.same], by rw [hb8]; simp [T.len], ?_⟩
      · rw [List.cons_append, hE t _ (by omega) (by omega), T.eaten]
        rfl
      · rw [hb8]
        simp only [hR, Option.bind_some]
        rw [T.back]
        simp

theorem mate_txt (E : List It → Eaten) (hE : ∀ x rest, x.1 = 0 → x.2.size ≤ 14 → E (x :: rest) = some ([true], rest)) : Mate E qTxt rTxt := by
  intro l it
  match l with
  | [] => exact ⟨fun _ => rfl, fun l' it' h => by simp [qTxt] at h⟩
  | [a] => exact ⟨fun _ => rfl, fun l' it' h => by simp [qTxt] at h⟩
  | a :: c :: r =>
    have hq : qTxt (a :: c :: r, it) = if num2 a c ≤ 14 ∧ num2 a c + num2 a c % 2 ≤ r.length then some (r.drop (num2 a c + num2 a c % 2), it ++ [(0, str (r.take (num2 a c)))]) else none := rfl
    have hr : rTxt (a :: c :: r, it) = if num2 a c ≤ 14 ∧ num2 a c ≤ r.length then
      (if num2 a c % 2 = 0 then some (r.drop (num2 a c), it ++ [(0, str (r.take (num2 a c)))])
       else match r.drop (num2 a c) with
        | p :: r' => if p = 0 then some (r', it ++ [(0, str (r.take (num2 a c)))]) else none
        | [] => none)
      else none := rfl
    have ht := two8_num2 a c (num2 a c) (Or.inl rfl)
    generalize num2 a c = n at hq hr ht
    by_cases h : n ≤ 14 ∧ n + n % 2 ≤ r.length
    · rw [if_pos h] at hq
      rw [if_pos ⟨h.1, by omega⟩] at hr
      refine ⟨fun h => (by rw [hq] at h; cases h), fun l' it' hF => ?_⟩
      rw [hq] at hF
      cases hF
      have hsz : (str (r.take n)).size = n := by
        rw [str_size, List.length_take]
        omega
      have hb : bytesOf [true] [(0, str (r.take n))] = a :: c :: (r.take n ++ if n % 2 = 1 then [0] else []) := by
        simp only [bytesOf, enc8, if_true, hsz, ht]
        simp
      refine ⟨[(0, str (r.take n))], [true], a :: c :: r.take (n + n % 2), rfl, by simp [List.take_append_drop], fun rest => hE _ rest rfl (by rw [hsz]; exact h.1), rfl, ?_, ?_⟩
      · rw [hb]
        simp only [List.length_cons, List.length_append, List.length_take]
        split <;> simp <;> omega
      · rw [hr, hb]
        by_cases he : n % 2 = 0
        · simp [he]
        · have h1 : n % 2 = 1 := by omega
          rw [if_neg he]
          cases hd : r.drop n with
          | nil =>
            have := congrArg List.length hd
            rw [List.length_drop] at this
            simp at this
            omega
          | cons p r' =>
            have hd2 : r.drop (n + 1) = r' := by rw [← List.drop_drop, hd]; rfl
            have hp : r[n]? = some p := by
              have := List.getElem?_drop (xs := r) (i := n) (j := 0)
              rw [hd] at this
              simpa using this.symm
            have htk : r.take (n + 1) = r.take n ++ [p] := by
              rw [List.take_add_one, hp]
              rfl
            rw [h1, hd2, htk]
            simp
    · rw [if_neg h] at hq
      refine ⟨fun _ => ?_, fun l' it' hF => (by rw [hq] at hF; cases hF)⟩
      rw [hr]
      by_cases h2 : n ≤ 14 ∧ n ≤ r.length
      · rw [if_pos h2, if_neg (by omega), List.drop_of_length_le (by omega)]
      · rw [if_neg h2]

/- what stands behind a number -/
def behindOf (g : Nat → Nat) (f p : Nat) (t : Int) : List Nat := if g p = 117 then [partOf (Pt.kids g f p) t] else if g p = 113 then List.replicate t.toNat (p + 2) else []
theorem carryP_num {σ : Type} (num : Int → Int → σ → Option (Int × σ)) (txt : σ → Option σ) (g : Nat → Nat) (f p : Nat) (h1 : ¬ g p = 115) (h2 : ¬ g p = 97) (h3 : ¬ g p = 114) :
    carryP num txt g (f + 1) p = fun x => (num (loOf (g p)) (hiOf g f p) x).bind fun r => seqC (carryP num txt g f) (behindOf g f p r.1) r.2 := by
  funext x
  simp only [carryP, if_neg h1, if_neg h2, if_neg h3, behindOf]
  congr 1
  funext r
  split
  · simp only [seqC]
    cases carryP num txt g f (partOf (Pt.kids g f p) r.1) r.2 <;> rfl
  · split
    · rfl
    · rfl

theorem mate_any (g : Nat → Nat) : ∀ f p, Mate (eat g f p) (carryP rNum qTxt g f p) (carryP rNum rTxt g f p) := by
  intro f
  induction f with
  | zero => intro p l it; exact ⟨fun _ => rfl, fun _ _ h => by simp [carryP] at h⟩
  | succ f ih =>
    intro p
    have sq := fun qs => mate_seq (E := eat g f) (F := carryP rNum qTxt g f) (G := carryP rNum rTxt g f) qs (fun q _ => ih q)
    by_cases hs : g p = 115
    · have e1 : carryP rNum qTxt g (f + 1) p = qTxt := by funext x; simp [carryP, hs]
      have e2 : carryP rNum rTxt g (f + 1) p = rTxt := by funext x; simp [carryP, hs]
      rw [e1, e2]
      refine mate_txt _ fun x rest h0 h14 => ?_
      have hh : headOf g f p (x :: rest) = some ([true], [], rest) := by simp [headOf, hs, h0, h14]
      rw [eat_cons hh]
      rfl
    · by_cases ha : g p = 97
      · have e1 : ∀ txt, carryP rNum txt g (f + 1) p = seqC (carryP rNum txt g f) (List.replicate (g (p + 1) - 48) (p + 2)) := by intro txt; funext x; simp [carryP, ha]
        have e2 : eat g (f + 1) p = seqE (eat g f) (List.replicate (g (p + 1) - 48) (p + 2)) := by
          funext v
          have hh : headOf g f p v = some ([], List.replicate (g (p + 1) - 48) (p + 2), v) := by simp [headOf, ha]
          rw [eat_cons hh, joinE_nil]
        rw [e1, e1, e2]
        exact sq _
      · by_cases hr : g p = 114
        · have e1 : ∀ txt, carryP rNum txt g (f + 1) p = seqC (carryP rNum txt g f) (Pt.kids g f p) := by intro txt; funext x; simp [carryP, hr]
          have e2 : eat g (f + 1) p = seqE (eat g f) (Pt.kids g f p) := by
            funext v
            have hh : headOf g f p v = some ([], Pt.kids g f p, v) := by simp [headOf, hr]
            rw [eat_cons hh, joinE_nil]
          rw [e1, e1, e2]
          exact sq _
        · rw [carryP_num _ _ _ _ _ hs ha hr, carryP_num _ _ _ _ _ hs ha hr]
          refine mate_num _ _ _ (fun t => seqE (eat g f) (behindOf g f p t)) _ _ (fun t rest h1 h2 => ?_) fun t _ _ => sq _
          have hh : headOf g f p ((t, ⟨#[]⟩) :: rest) = some ([false], behindOf g f p t, rest) := by
            simp only [headOf, if_neg ha, if_neg hr, if_neg hs, behindOf]
            rw [if_pos ⟨rfl, h1, h2⟩]
          rw [eat_cons hh]

end Go.Proofs.YtblomippkddgiaaGreatDoor.V
