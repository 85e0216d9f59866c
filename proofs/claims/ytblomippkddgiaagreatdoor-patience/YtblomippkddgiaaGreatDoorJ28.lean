/-
  Joined: SRem SSend SLine.
-/
import Derived.Test.YtblomippkddgiaaGreatDoorJ27
/-
  The landed server: the lines that it remembers.
-/
namespace Go.Proofs.YtblomippkddgiaaGreatDoor
open Go.RowKit

theorem info143 : (Tryz.prog.info? 143).map (fun i => (i.zero, i.size, i.bytes)) = some (some (.pointer none), 1, 8) := by kernel_rfl
def pa (o : Option Nat) : Option Addr := o.map fun b => ⟨b, 0, none⟩
abbrev pc (o : Option Nat) : Value := .pointer (pa o)
def remL (f : Nat → Option Nat) (n : Nat) : List Value := ((List.range n).filterMap f).map ptr
theorem remL_succ (f : Nat → Option Nat) (n : Nat) : remL f (n + 1) = remL f n ++ (match f n with | none => [] | some b => [ptr b]) := by
  unfold remL
  rw [List.range_succ, List.filterMap_append]
  cases h : f n <;> simp [h]
theorem remL_len (f : Nat → Option Nat) (n : Nat) : (remL f n).length ≤ n := by
  unfold remL
  rw [List.length_map]
  have := List.length_filterMap_le f (List.range n)
  simpa using this
/- what was gathered so far -/
structure RemAt (w : World) (f : Nat → Option Nat) (n : Nat) (O : Value) (wr : World) : Prop where
  row : wr.ownsRow w.heap.size 143 1 O (remL f n).length (remL f n)
  below : Below w.heap.size w wr
theorem RemAt.none {w : World} {f : Nat → Option Nat} {n : Nat} {O : Value} {wr : World} (h : RemAt w f n O wr) (hf : f n = none) : RemAt w f (n + 1) O wr := by
  have e : remL f (n + 1) = remL f n := by rw [remL_succ, hf]; simp
  refine ⟨?_, h.below⟩
  rw [e]
  exact h.row
theorem RemAt.alloc {w : World} {f : Nat → Option Nat} {n : Nat} {O : Value} {wr : World} (h : RemAt w f n O wr) (o : Obj) : RemAt w f n O (wr.alloc o) := ⟨h.row.alloc _, h.below.alloc h.below.size _⟩

theorem RemAt.some {w : World} {f : Nat → Option Nat} {n b : Nat} {O' : Value} {wz : World} (hf : f n = some b) (hown : wz.ownsRow w.heap.size 143 1 O' ((remL f n).length + 1) (remL f n ++ [ptr b])) (hb : Below w.heap.size w wz) : RemAt w f (n + 1) O' wz := by
  have e : remL f (n + 1) = remL f n ++ [ptr b] := by rw [remL_succ, hf]
  refine ⟨?_, hb⟩
  rw [e, List.length_append]
  exact hown
theorem one_cell (w : World) (t : TypeId) (v : Value) (j : Nat) (u : Value) (h : ([v] : List Value)[j]? = Option.some u) : (w.alloc (.cells #[v] t)).cell? ((⟨w.heap.size, 0, none⟩ : Addr).add j) = Option.some u := by
  rw [Addr.add_lit, Nat.zero_add, World.cell?_alloc_new w _ _ j, ← List.getElem?_toArray] at *
  exact h
set_option maxRecDepth 100000 in
theorem ix162 (q : Nat → Option Addr) (k : Nat) (hk : k < 3) (w : World) : (Instr.index 162 (.agg #[.pointer (q 0), .pointer (q 1), .pointer (q 2), .pointer (q 3), .pointer (q 4), .pointer (q 5), .pointer (q 6), .pointer (q 7), .pointer (q 8)]) (.int .i64 (k : Int))).run Tryz.prog w = .ok (.agg #[.pointer (q (3 * k)), .pointer (q (3 * k + 1)), .pointer (q (3 * k + 2))]) w := by
  obtain rfl | rfl | rfl : k = 0 ∨ k = 1 ∨ k = 2 := by omega
  all_goals rfl
set_option maxRecDepth 100000 in
theorem ix158 (q : Nat → Option Addr) (k j : Nat) (hj : j < 3) (w : World) : (Instr.index 158 (.agg #[.pointer (q (3 * k)), .pointer (q (3 * k + 1)), .pointer (q (3 * k + 2))]) (.int .i64 (j : Int))).run Tryz.prog w = .ok (.pointer (q (3 * k + j))) w := by
  obtain rfl | rfl | rfl : j = 0 ∨ j = 1 ∨ j = 2 := by omega
  all_goals rfl

set_option maxRecDepth 100000 in
set_option maxHeartbeats 4000000 in
theorem rem_any (w : World) (s : Nat) (f : Nat → Option Nat) (h : ∀ i, i < 9 → w.cell? ⟨s, 10 + i, none⟩ = some (pc (f i))) :
    Calls Tryz.prog 71 #[ptr s] w fun e w' => ∃ O, e = .returned O ∧ w'.ownsRow w.heap.size 143 1 O (remL f 9).length (remL f 9) ∧ Below w.heap.size w w' := by
  obtain ⟨u, hu⟩ : ∃ u : Nat → Option Addr, ∀ i, u i = pa (f i) := ⟨_, fun _ => rfl⟩
  have HU := hide hu
  have c0 := h 0 (by omega)
  have c1 := h 1 (by omega)
  have c2 := h 2 (by omega)
  have c3 := h 3 (by omega)
  have c4 := h 4 (by omega)
  have c5 := h 5 (by omega)
  have c6 := h 6 (by omega)
  have c7 := h 7 (by omega)
  have c8 := h 8 (by omega)
  simp only [pc, ← hu] at c0 c1 c2 c3 c4 c5 c6 c7 c8
  have hl := lt_of_cell c0
  obtain ⟨i0, hi, hz0, hz1, hz2⟩ := info_parts info143
  have H0 : Hid (RemAt w f 0 (.slice none 0 0) w) := ⟨World.ownsRow_nil _ _ _ _, Below.refl _ _⟩
  clear h hu
  go_enter Tryz.func71, Tryz.ntmps71
  go_wp2
  clear c0 c1 c2 c3 c4 c5 c6 c7 c8
  go_loopw [3, 13] (fun av iv wr => ∃ k : Nat, k ≤ 3 ∧ iv = .int .i64 k ∧ RemAt w f (3 * k) av wr) (fun _ iv _ => 3 - (intOf iv).toNat)
  case atStart => exact ⟨0, by omega, rfl, unhide H0⟩
  case round =>
    obtain ⟨k, hk, rfl, hR⟩ := hrel
    by_cases hlt : k < 3
    · have hix := ix162 u k hlt
      have HR := hide hR
      clear hR
      go_wp2
      generalize decide ((k : Int) < 3) = b14
      go_loopw [3, 17] (fun av jv wr' => ∃ j : Nat, j ≤ 3 ∧ jv = .int .i64 j ∧ RemAt w f (3 * k + j) av wr') (fun _ jv _ => 3 - (intOf jv).toNat)
      case atStart => exact ⟨0, by omega, rfl, (unhide HR).alloc _⟩
      case round =>
        obtain ⟨j, hj, rfl, hR2⟩ := hrel
        by_cases hjl : j < 3
        · obtain ⟨oa, on, oc, hsh⟩ := row_shape hR2.row
          subst hsh
          have HR2 := hide hR2
          clear hR2
          have hjx := ix158 u k j hjl
          cases hf : f (3 * k + j) with
          | none =>
            have e0 : u (3 * k + j) = none := by rw [unhide HU, hf]; rfl
            rw [e0] at hjx
            have HN := hide ((unhide HR2).none hf)
            go_wp2
            go_roundw
            case rel => exact ⟨j + 1, by omega, by go_num, unhide HN⟩
            case measure => simp [intOf]; omega
          | some b =>
            have e0 : u (3 * k + j) = some ⟨b, 0, none⟩ := by rw [unhide HU, hf]; rfl
            rw [e0] at hjx
            have hlen := remL_len f (3 * k + j)
            go_wp2_with (at_builtin; go_must (refine wpList_append_own_at _ rfl (.tmp 22) (.tmp 24) 141 rfl w.heap.size 143 i0 (.pointer none) 1 8 Tryz.underlying141 hi hz0 hz1 hz2 rfl (by decide) _ _ _ rfl (by exact (unhide HR2).row.alloc _) ⟨wr.heap.size, 0, none⟩ 1 1 [ptr b] rfl rfl (by exact one_cell wr 143 (ptr b)) (by simp [Value.oneCell']) (by unfold maxLen; omega) (by omega) (by have := (unhide HR2).below.size; simp; omega) ?_))
            intro v' wz hown hgrow _ _
            obtain ⟨va, vn, vc, hvs⟩ := row_shape hown
            subst hvs
            have hbz : Below w.heap.size w wz := ((unhide HR2).below.alloc (unhide HR2).below.size _).grown hgrow (by have := (unhide HR2).below.size; simp; omega) (fun k hk => ((World.ownsRow.lt (unhide HR2).row) k hk).1)
            have HN : Hid (RemAt w f (3 * k + j + 1) (.slice va vn vc) wz) := RemAt.some hf hown hbz
            clear hown hgrow hbz HR2
            go_wp2
            go_roundw
            case rel => exact ⟨j + 1, by omega, by go_num, unhide HN⟩
            case measure => simp [intOf]; omega
        · obtain rfl : j = 3 := by omega
          have HR3 := hide hR2
          clear hR2
          go_wp2
          go_roundw
          case rel => exact ⟨k + 1, by omega, by go_num, by exact unhide HR3⟩
          case measure => simp [intOf]; omega
    · obtain rfl : k = 3 := by omega
      have HR3 := hide hR
      clear hR
      go_wp2
      go_ret
      exact ⟨_, rfl, (unhide HR3).row, (unhide HR3).below⟩
end Go.Proofs.YtblomippkddgiaaGreatDoor
/-
  The landed server sends.
-/
namespace Go.Proofs.YtblomippkddgiaaGreatDoor
open Go.RowKit

def qf (t : SP) (seen : List R.Sn) (i : Nat) : Option Nat := if ((seen[i]?).getD R.sn0).seq = 0 then none else some (t.ql i)
theorem qcell_pc (t : SP) (seen : List R.Sn) (i : Nat) : qcell t seen i = pc (qf t seen i) := by
  unfold qcell qf
  split <;> rfl
section
variable {s n nm : Nat} {t : SP} {F : Foot} {c : R.Cf} {sv : List R.Sv} {lives : List Int} {seen : List R.Sn} {jobs : List R.Jb} {w : World}
theorem SrvAt.cell (h : SrvAt s n nm t F c sv lives seen jobs w) (j : Nat) (v : Value) (hv : (scells n nm t c lives seen)[j]? = some v) : w.cell? ⟨s, j, none⟩ = some v := cell_list h.bs hv
theorem SrvAt.rem (h : SrvAt s n nm t F c sv lives seen jobs w) : Calls Tryz.prog 71 #[ptr s] w fun e w' => ∃ O, e = .returned O ∧ w'.ownsRow w.heap.size 143 1 O (remL (qf t seen) 9).length (remL (qf t seen) 9) ∧ Below w.heap.size w w' := by
  refine rem_any w s (qf t seen) (fun i hi => ?_)
  rw [← qcell_pc]
  obtain rfl | rfl | rfl | rfl | rfl | rfl | rfl | rfl | rfl : i = 0 ∨ i = 1 ∨ i = 2 ∨ i = 3 ∨ i = 4 ∨ i = 5 ∨ i = 6 ∨ i = 7 ∨ i = 8 := by omega
  all_goals exact h.cell _ _ rfl
end

set_option maxRecDepth 100000 in
set_option maxHeartbeats 4000000 in
theorem LW.sendS {p : Pl} {F : Foot} {G : R.Wd} {w : World} (h : LW p F G w) (cl li ln sq u kd pa o : Int) (pl : Bool) (body : List UInt8) (hr : RightP ⟨kd, cl, li, ln, sq, u, pa, o, pl, body⟩) :
    Calls Tryz.prog 192 #[ptr p.s, .agg #[.int .i64 cl, .int .i64 li, .int .i64 ln, .int .i64 sq, .int .i64 u], pvs kd 0 0 0 0 0 pa o pl (str body)] w fun e w' => e = .returned (.tuple #[]) ∧ ∃ F', LW p F' (R.sendP G cl ⟨kd, cl, li, ln, sq, u, pa, o, pl, body⟩) w' ∧ Went F F' w w' := by
  have ht := h.srv
  have s20 : w.cell? ⟨p.s, 20, none⟩ = some (ptr p.n) := ht.cell 20 _ rfl
  have hls := lt_of_cell s20
  obtain ⟨Post, hPost⟩ : ∃ Post : World → Prop, ∀ w'', Post w'' ↔ ∃ F', LW p F' (R.sendP G cl ⟨kd, cl, li, ln, sq, u, pa, o, pl, body⟩) w'' ∧ Went F F' w w'' := ⟨_, fun _ => Iff.rfl⟩
  suffices hq : Calls Tryz.prog 192 #[ptr p.s, .agg #[.int .i64 cl, .int .i64 li, .int .i64 ln, .int .i64 sq, .int .i64 u], pvs kd 0 0 0 0 0 pa o pl (str body)] w fun e w' => e = .returned (.tuple #[]) ∧ Post w' from hq.mono (fun e w' h => ⟨h.1, (hPost w').1 h.2⟩)
  have HS : Hid (∀ w', Below w.heap.size w w' → Calls Tryz.prog 230 #[ptr p.n, .int .i64 cl, pvs kd cl li ln sq u pa o pl (str body)] w' fun e w'' => e = .returned (.tuple #[]) ∧ Post w'') := fun w' hb => by
    refine ((h.below hb).send cl ⟨kd, cl, li, ln, sq, u, pa, o, pl, body⟩ hr).mono ?_
    rintro e w'' ⟨rfl, F', q1, q2⟩
    exact ⟨rfl, (hPost w'').2 ⟨F', q1, (Went.ofBelow F hb).trans q2⟩⟩
  clear hPost hr h ht
  generalize str body = SB at *
  obtain ⟨BX, hBX⟩ : ∃ BX, (w.alloc (.cells #[.int .i64 cl, .int .i64 li, .int .i64 ln, .int .i64 sq, .int .i64 u] 145)).alloc (.cells #[.int .i64 kd, .int .i64 cl, .int .i64 li, .int .i64 ln, .int .i64 sq, .int .i64 u, .int .i64 pa, .int .i64 o, .bool pl, .string SB] 41) = BX := ⟨_, rfl⟩
  have HB : Hid (Below w.heap.size w BX) := by
    rw [← hBX]
    exact ((Below.refl w.heap.size w).alloc (Nat.le_refl _) _).alloc (by simp) _
  have hb0 : BX.heap[w.heap.size]? = some (.cells #[.int .i64 cl, .int .i64 li, .int .i64 ln, .int .i64 sq, .int .i64 u] 145 (0, 0)) := by
    rw [← hBX]
    exact (Below.heap_alloc _ _ _ (by simp)).trans (heap_alloc_new w _)
  have hb1 : BX.heap[w.heap.size + 1]? = some (.cells #[.int .i64 kd, .int .i64 cl, .int .i64 li, .int .i64 ln, .int .i64 sq, .int .i64 u, .int .i64 pa, .int .i64 o, .bool pl, .string SB] 41 (0, 0)) := by
    rw [← hBX, ← World.size_alloc w]
    exact heap_alloc_new _ _
  have HC := hide ((unhide HS) BX.drew (unhide HB).drew)
  have d20 : BX.cell? ⟨p.s, 20, none⟩ = some (ptr p.n) := ((unhide HB).cell (p := ⟨p.s, 20, none⟩) hls).trans s20
  have c0 : BX.cell? ⟨w.heap.size, 0, none⟩ = some (.int .i64 cl) := cell_of hb0 0 _ rfl
  have e0 : BX.cell? ⟨w.heap.size + 1, 0, none⟩ = some (.int .i64 kd) := cell_of hb1 0 _ rfl
  have e1 : BX.cell? ⟨w.heap.size + 1, 1, none⟩ = some (.int .i64 cl) := cell_of hb1 1 _ rfl
  have e2 : BX.cell? ⟨w.heap.size + 1, 2, none⟩ = some (.int .i64 li) := cell_of hb1 2 _ rfl
  have e3 : BX.cell? ⟨w.heap.size + 1, 3, none⟩ = some (.int .i64 ln) := cell_of hb1 3 _ rfl
  have e4 : BX.cell? ⟨w.heap.size + 1, 4, none⟩ = some (.int .i64 sq) := cell_of hb1 4 _ rfl
  have e5 : BX.cell? ⟨w.heap.size + 1, 5, none⟩ = some (.int .i64 u) := cell_of hb1 5 _ rfl
  have e6 : BX.cell? ⟨w.heap.size + 1, 6, none⟩ = some (.int .i64 pa) := cell_of hb1 6 _ rfl
  have e7 : BX.cell? ⟨w.heap.size + 1, 7, none⟩ = some (.int .i64 o) := cell_of hb1 7 _ rfl
  have e8 : BX.cell? ⟨w.heap.size + 1, 8, none⟩ = some (.bool pl) := cell_of hb1 8 _ rfl
  have e9 : BX.cell? ⟨w.heap.size + 1, 9, none⟩ = some (.string SB) := cell_of hb1 9 _ rfl
  have HBX := hide hBX
  clear hb0 hb1 hBX HS
  go_enter Tryz.func192, Tryz.ntmps192
  go_wp2
  rw [unhide HBX]
  clear HBX s20
  go_region_law (refine step_call rfl 230 #[.tmp 24, .tmp 26, .tmp 27] #[80, 3, 41] rfl cf88 #[ptr p.n, .int .i64 cl, pvs kd cl li ln sq u pa o pl SB] rfl _ (unhide HC) ?_; rintro e w1 ⟨rfl, hpost⟩; have HP := hide hpost; clear hpost; refine ⟨_, rfl, ?_⟩)
  all_goals
    go_wp2
    go_returns
    exact ⟨rfl, unhide HP⟩
end Go.Proofs.YtblomippkddgiaaGreatDoor
/-
  A line that the landed server remembers.
-/
namespace Go.Proofs.YtblomippkddgiaaGreatDoor
open Go.RowKit

structure QAt (p : Pl) (G : R.Wd) (w : World) (i : Nat) (r : R.Sn) (y : SLn) : Prop where
  seen : G.seen[i]? = some r
  ne : r.seq ≠ 0
  blk : w.heap[p.t.ql i]? = some (.cells y.cells.toArray 147 (0, 0))
  rel : SnRel i (G.lives.getD (i / 3) 0) r y
theorem LW.q {p : Pl} {F : Foot} {G : R.Wd} {w : World} (h : LW p F G w) {i : Nat} {r : R.Sn} (hr : G.seen[i]? = some r) (hne : r.seq ≠ 0) : ∃ y, QAt p G w i r y ∧ F (p.t.ql i) := by
  obtain ⟨y, h1, h2, h3⟩ := h.srv.ln i r hr hne
  exact ⟨y, ⟨hr, hne, h1, h2⟩, h3⟩
structure YAt (w : World) (b : Nat) (y : SLn) : Prop where
  a0 : w.cell? ⟨b, 0, none⟩ = some (.int .i64 y.client)
  a1 : w.cell? ⟨b, 1, none⟩ = some (.int .i64 y.life)
  a2 : w.cell? ⟨b, 2, none⟩ = some (.int .i64 y.line)
  a3 : w.cell? ⟨b, 3, none⟩ = some (.int .i64 y.seq)
  a4 : w.cell? ⟨b, 4, none⟩ = some (.int .i64 y.uid)
  a5 : w.cell? ⟨b, 5, none⟩ = some (.int .i64 y.state)
  a6 : w.cell? ⟨b, 6, none⟩ = some (.string (str y.asked))
  a7 : w.cell? ⟨b, 7, none⟩ = some (.string (str y.answer))
  a8 : w.cell? ⟨b, 8, none⟩ = some (.int .i64 y.at')
  a9 : w.cell? ⟨b, 9, none⟩ = some (.int .i64 y.wait)
  a10 : w.cell? ⟨b, 10, none⟩ = some (.int .i64 y.tries)
theorem yAt {w : World} {b : Nat} {y : SLn} (h : w.heap[b]? = some (.cells y.cells.toArray 147 (0, 0))) : YAt w b y :=
  ⟨cell_list h rfl, cell_list h rfl, cell_list h rfl, cell_list h rfl, cell_list h rfl, cell_list h rfl, cell_list h rfl, cell_list h rfl, cell_list h rfl, cell_list h rfl, cell_list h rfl⟩

theorem qcell_set {t : SP} {seen : List R.Sn} {i : Nat} {r r' : R.Sn} (hr : seen[i]? = some r) (hne : r.seq ≠ 0) (hne' : r'.seq ≠ 0) (j : Nat) : qcell t (seen.set i r') j = qcell t seen j := by
  unfold qcell
  rw [List.getElem?_set]
  by_cases e : i = j
  · subst e
    rw [if_pos rfl, if_pos (List.getElem?_eq_some_iff.1 hr).1, hr]
    simp [hne, hne']
  · simp [e]
/- the block of one line is turned -/
theorem SrvAt.qturn {s n nm : Nat} {t : SP} {F : Foot} {c : R.Cf} {sv : List R.Sv} {lives : List Int} {seen : List R.Sn} {jobs : List R.Jb} {w w' : World} (h : SrvAt s n nm t F c sv lives seen jobs w) {i : Nat} {r r' : R.Sn} {cur : Array Value} {y' : SLn} (hr : seen[i]? = some r) (hne : r.seq ≠ 0) (hne' : r'.seq ≠ 0) (hb : w.heap[t.ql i]? = some (.cells cur 147 (0, 0))) (hk : Keeps (fun b => b = t.ql i) w w') (hb' : w'.heap[t.ql i]? = some (.cells y'.cells.toArray 147 (0, 0))) (hrel : SnRel i (lives.getD (i / 3) 0) r' y') : SrvAt s n nm t F c sv lives (seen.set i r') jobs w' := by
  obtain ⟨f1, f2, f3⟩ := h.foot
  have hav : AvT w F (fun b => b = t.ql i) := AvT.one hb (by decide)
  have hi := (List.getElem?_eq_some_iff.1 hr).1
  have hset : ∀ (j : Nat) (x : R.Sn), (seen.set i r')[j]? = some x → x.seq ≠ 0 → ∃ x0, seen[j]? = some x0 ∧ x0.seq ≠ 0 ∧ (j ≠ i → x0 = x) ∧ (j = i → x = r') := fun j x hj hx => by
    rw [List.getElem?_set] at hj
    by_cases e : i = j
    · subst e
      simp only [if_true, hi] at hj
      exact ⟨r, hr, hne, fun q => absurd rfl q, fun _ => (Option.some.inj hj).symm⟩
    · rw [if_neg e] at hj
      exact ⟨x, hj, hx, fun _ => rfl, fun q => absurd q.symm e⟩
  refine ⟨?_, h.zs, hk.row h.made (fun j hj => ?_), fun z hz => (h.each z hz).keep hk hav (fun _ q => q), h.dns, h.wks, fun j x hj hx => ?_, fun a b x x' ha hb hx hx' hab => ?_, ?_, f1, f2, f3⟩
  · have e : scells n nm t c lives (seen.set i r') = scells n nm t c lives seen := by
      unfold scells
      simp only [qcell_set hr hne hne']
    rw [e]
    exact hk.at h.bs (ne_tag h.bs hb (by decide))
  · rcases h.made.2 with ⟨hn, _⟩ | ⟨g, cap, cur', hn, _, hg, _⟩
    · rw [hn] at hj; cases hj
    · rw [hn] at hj
      cases hj
      exact ne_tag hg hb (by decide)
  · obtain ⟨x0, q1, q2, q3, q4⟩ := hset j x hj hx
    by_cases e : j = i
    · subst e
      obtain rfl := q4 rfl
      obtain ⟨_, _, _, hF⟩ := h.ln j x0 q1 q2
      exact ⟨y', hb', hrel, hF⟩
    · obtain rfl := q3 e
      obtain ⟨y, g1, g2, g3⟩ := h.ln j x0 q1 q2
      exact ⟨y, hk.at g1 (h.inj j i x0 r q1 hr q2 hne e), g2, g3⟩
  · obtain ⟨x0, q1, q2, _⟩ := hset a x ha hx
    obtain ⟨x1, q3, q4, _⟩ := hset b x' hb hx'
    exact h.inj a b x0 x1 q1 q3 q2 q4 hab
  · obtain ⟨a, b, hj⟩ := h.jobs
    refine ⟨a, b, hk.at hj (fun e => ?_)⟩
    rw [e, hb] at hj
    cases hj
theorem setSeen_wf {G : R.Wd} (h : R.Wf G) (i : Nat) (r : R.Sn) : R.Wf (R.setSeen G i r) := ⟨h.cf, h.ncl, fun j c hc => ⟨(h.cl j c hc).lines, (h.cl j c hc).life, (h.cl j c hc).bound, (h.cl j c hc).line⟩, h.fly, h.flys, h.sv, h.svk, h.nm, h.st, h.nd, h.sts⟩
theorem setSeen_ws {c : R.Cf} {lives : List Int} {seen : List R.Sn} {jobs : List R.Jb} (h : R.WsOk c lives seen jobs) {i : Nat} {r : R.Sn} (hr : R.SnOk (lives.getD (i / 3) 0) r) : R.WsOk c lives (seen.set i r) jobs := by
  refine ⟨h.ll, h.lv, by simpa using h.sl, fun j x hx => ?_, h.jl, h.jb⟩
  rw [List.getElem?_set] at hx
  by_cases e : i = j
  · rw [if_pos e] at hx
    split at hx
    · cases hx
      rw [← e]
      exact hr
    · cases hx
  · rw [if_neg e] at hx
    exact h.sn j x hx
theorem LW.qturn {p : Pl} {F : Foot} {G : R.Wd} {w w' : World} (h : LW p F G w) {i : Nat} {r r' : R.Sn} {y y' : SLn} (hq : QAt p G w i r y) (hne' : r'.seq ≠ 0) (hk : Keeps (fun b => b = p.t.ql i) w w') (hb' : w'.heap[p.t.ql i]? = some (.cells y'.cells.toArray 147 (0, 0))) (hrel : SnRel i (G.lives.getD (i / 3) 0) r' y') (hok : R.SnOk (G.lives.getD (i / 3) 0) r') : LW p F (R.setSeen G i r') w' ∧ QAt p (R.setSeen G i r') w' i r' y' ∧ Went F F w w' := by
  obtain ⟨hx, hn, hcs, hnm⟩ := h.foot
  have hb := hq.blk
  have hav : AvT w F (fun b => b = p.t.ql i) := AvT.one hb (by decide)
  obtain ⟨_, _, _, hFq⟩ := h.srv.ln i r hq.seen hq.ne
  have at' : ∀ {b : Nat} {ys : Array Value} {t : TypeId} {f : Nat × Nat}, w.heap[b]? = some (.cells ys t f) → t ≠ 147 → w'.heap[b]? = some (.cells ys t f) := fun hb1 h1 => hk.at hb1 (ne_tag hb1 hb h1)
  have map' : ∀ {α : Type} {k : TypeId} {b : Nat} {lit : α → Lit} {g : α → Option Int} {n : Nat}, Mp w k b lit g n → Mp w' k b lit g n := fun hm => by
    obtain ⟨es, q, hq⟩ := hm.block
    exact hm.keep hk (fun e => ne_map hb hq e.symm)
  refine ⟨⟨setSeen_wf h.wf i r', setSeen_ws h.cold hok, at' h.bx (by decide), ?_, ?_, h.srv.qturn hq.seen hq.ne hne' hb hk hb' hrel, map' h.names, fun j c hc => at' (h.cl j c hc) (by decide), fun j c hc => ?_, fun j c hc => map' (h.bound j c hc), h.foot, h.feet, h.inj, fun k hf => Nat.lt_of_lt_of_le (h.lt k hf) hk.size⟩, ⟨?_, hne', hb', hrel⟩, ⟨hk.mono (fun k _ e => by rw [e]; exact hFq), fun _ q => Or.inl q⟩⟩
  · obtain ⟨cur, h1, h2⟩ := h.bcs
    exact ⟨cur, at' h1 (by decide), h2⟩
  · obtain ⟨K, h1, h2, h3⟩ := h.bn
    refine ⟨K, at' h1 (by decide), hk.row h2 (fun j hj => ?_), h3⟩
    rcases h2.2 with ⟨rfl, _⟩ | ⟨g, cap, cur, rfl, _, hg, _⟩
    · cases hj
    · cases hj
      exact ne_tag hg hb (by decide)
  · obtain ⟨xs, h1, h2, h3⟩ := h.ln j c hc
    exact ⟨xs, at' h1 (by decide), h2, h3.avoid hk hav (fun _ q => q)⟩
  · simp [R.setSeen, (List.getElem?_eq_some_iff.1 hq.seen).1]
theorem QAt.below {p : Pl} {G : R.Wd} {w w' : World} {i : Nat} {r : R.Sn} {y : SLn} (h : QAt p G w i r y) (hb : Below w.heap.size w w') : QAt p G w' i r y := ⟨h.seen, h.ne, by rw [hb.block _ (Array.getElem?_eq_some_iff.1 h.blk).1]; exact h.blk, h.rel⟩
/- stores into a line -/
theorem y_store {w : World} {b j : Nat} {y y' : SLn} {v : Value} (h : w.heap[b]? = some (.cells y.cells.toArray 147 (0, 0))) (hv : y'.cells = y.cells.set j v) : (w.setCell ⟨b, j, none⟩ v).heap[b]? = some (.cells y'.cells.toArray 147 (0, 0)) := by
  rw [heap_store h, hv]
end Go.Proofs.YtblomippkddgiaaGreatDoor
