/-
  The law's packet out of raw numbers: it is right.
-/
import Derived.Test.YtblomippkddgiaaRaw
namespace Go.Proofs.Ytblomippkddgiaa
open Go.RowKit

structure PS (w W : World) (V : Value) (m : Nat) : Prop where
  raw : W.heap[w.heap.size + 1]? = some (.cells #[V, .int .i64 m] 45 (0, 0))
  res : W.heap[w.heap.size]? = some (.cells zeroCells 59 (0, 0))
  size : W.heap.size = w.heap.size + 2
  below : Below w.heap.size w W
structure PP (w W : World) (V : Value) (m : Nat) (cs : Array Value) : Prop where
  raw : W.heap[w.heap.size + 1]? = some (.cells #[V, .int .i64 m] 45 (0, 0))
  res : W.heap[w.heap.size]? = some (.cells zeroCells 59 (0, 0))
  pk : W.heap[w.heap.size + 2]? = some (.cells cs 59 (0, 0))
  below : Below w.heap.size w W

theorem PS.next {w W : World} {V : Value} {m : Nat} (h : PS w W V m) (hV : RawOk w V) (hm : m ≤ 1000000) (n : Nat) (hn : 0 < n) (hn2 : n ≤ 65536) :
    Calls Try.prog 43 #[.pointer (some ⟨w.heap.size + 1, 0, none⟩), .int .i64 n] W fun e W' => (∃ k : Nat, k < n ∧ e = .returned (.int .i64 k)) ∧ PS w W' V (m + 1) := by
  refine (rawNext_any w W (w.heap.size + 1) V m n hV h.below (by omega) h.raw (by omega) hn hn2).mono ?_
  rintro e W' ⟨he, hN⟩
  exact ⟨he, ⟨hN.cell, (hN.keep _ (by omega)).trans h.res, hN.size.trans h.size, hN.below⟩⟩
theorem PP.next {w W : World} {V : Value} {m : Nat} {cs : Array Value} (h : PP w W V m cs) (hV : RawOk w V) (hm : m ≤ 1000000) (n : Nat) (hn : 0 < n) (hn2 : n ≤ 65536) :
    Calls Try.prog 43 #[.pointer (some ⟨w.heap.size + 1, 0, none⟩), .int .i64 n] W fun e W' => (∃ k : Nat, k < n ∧ e = .returned (.int .i64 k)) ∧ PP w W' V (m + 1) cs ∧ (∀ k, k ≠ w.heap.size + 1 → W'.heap[k]? = W.heap[k]?) ∧ W'.heap.size = W.heap.size := by
  refine (rawNext_any w W (w.heap.size + 1) V m n hV h.below (by omega) h.raw (by omega) hn hn2).mono ?_
  rintro e W' ⟨he, hN⟩
  exact ⟨he, ⟨hN.cell, (hN.keep _ (by omega)).trans h.res, (hN.keep _ (by omega)).trans h.pk, hN.below⟩, hN.keep, hN.size⟩
theorem PP.set {w W : World} {V : Value} {m : Nat} {cs : Array Value} (h : PP w W V m cs) (i : Nat) (x : Value) : PP w (W.setCell ⟨w.heap.size + 2, i, none⟩ x) V m (cs.setIfInBounds i x) :=
  ⟨(Below.heap_setCell _ _ _ _ (by simp)).trans h.raw, (Below.heap_setCell _ _ _ _ (by simp)).trans h.res, set_block h.pk x, h.below.setCell (by simp) _⟩
theorem PP.alloc {w W : World} {V : Value} {m : Nat} {cs : Array Value} (h : PP w W V m cs) (o : Obj) : PP w (W.alloc o) V m cs :=
  ⟨(Below.heap_alloc _ _ _ (lt_of_block h.raw)).trans h.raw, (Below.heap_alloc _ _ _ (lt_of_block h.res)).trans h.res, (Below.heap_alloc _ _ _ (lt_of_block h.pk)).trans h.pk, h.below.alloc (by have := lt_of_block h.pk; omega) _⟩
theorem PP.other {w W : World} {V : Value} {m : Nat} {cs : Array Value} (h : PP w W V m cs) (G i : Nat) (hG : w.heap.size + 2 < G) (x : Value) : PP w (W.setCell ⟨G, i, none⟩ x) V m cs :=
  ⟨(Below.heap_setCell _ _ _ _ (by simp; omega)).trans h.raw, (Below.heap_setCell _ _ _ _ (by simp; omega)).trans h.res, (Below.heap_setCell _ _ _ _ (by simp; omega)).trans h.pk, h.below.setCell (by simp; omega) _⟩
theorem PS.alloc {w W : World} {V : Value} {m : Nat} (h : PS w W V m) (cs : Array Value) : PP w (W.alloc (.cells cs 59)) V m cs :=
  ⟨(Below.heap_alloc _ _ _ (lt_of_block h.raw)).trans h.raw, (Below.heap_alloc _ _ _ (lt_of_block h.res)).trans h.res, by rw [← h.size]; exact heap_alloc_new W _, h.below.alloc (by have := h.size; omega) _⟩

/- bytes in a row -/
def BC (W : World) (G N : Nat) (l : List UInt8) : Prop := l.length = N ∧ W.heap[G]? = some (.cells (u8s l).toArray 5 (0, 0))
theorem BC.cell {W : World} {G N : Nat} {l : List UInt8} (h : BC W G N l) {i : Nat} (hi : i < N) : ∃ v, W.cell? ⟨G, i, none⟩ = some v := by
  obtain ⟨hl, hg⟩ := h
  refine ⟨_, cell_of hg i _ (Array.getElem?_eq_getElem ?_)⟩
  unfold u8s
  simp
  omega
theorem BC.thaw {W : World} {G N : Nat} {l : List UInt8} (h : BC W G N l) (i : Nat) : W.frozen? ⟨G, i, none⟩ = false := thaw_of h.2 i
theorem BC.set {W : World} {G N : Nat} {l : List UInt8} (h : BC W G N l) (i : Nat) (x : Int) (h0 : 0 ≤ x) (h1 : x ≤ 255) : BC (W.setCell ⟨G, i, none⟩ (.int .u8 x)) G N (l.set i (b8 x)) := by
  obtain ⟨hl, hg⟩ := h
  refine ⟨by rw [List.length_set]; exact hl, (set_block hg _).trans ?_⟩
  have e : (Value.int .u8 x) = Value.int .u8 ((b8 x).toNat : Int) := by rw [b8_val h0 h1]
  rw [e]
  unfold u8s
  rw [List.setIfInBounds_toArray, ← List.map_set]
theorem BC.keep {W W' : World} {G N : Nat} {l : List UInt8} (h : BC W G N l) (hk : W'.heap[G]? = W.heap[G]?) : BC W' G N l := ⟨h.1, hk.trans h.2⟩
theorem BC.conv {W : World} {G N : Nat} {l : List UInt8} (h : BC W G N l) : (convert 67 9 (.slice (some ⟨G, 0, none⟩) N N)).run Try.prog W = .ok (.string (str l)) W := by
  obtain ⟨hl, hg⟩ := h
  have := run_convert_bytes_back (P := Try.prog) W 67 9 5 ⟨G, 0, none⟩ N l Try.underlying67 (by kernel_rfl) Try.underlying9 fun j hj => ?_
  · rw [hl] at this
    exact this
  · rw [Addr.add_lit, Nat.zero_add]
    refine cell_of hg j _ ?_
    unfold u8s
    rw [List.getElem?_toArray, List.getElem?_map, List.getElem?_eq_getElem hj]
    rfl
theorem BC.made (W : World) (N : Nat) : BC (W.alloc (.cells (madeCells (Value.int .u8 0).cells (N * 1)) 5)) W.heap.size N (List.replicate N 0) := by
  refine ⟨List.length_replicate, (heap_alloc_new W _).trans ?_⟩
  have e : madeCells (Value.int .u8 0).cells (N * 1) = (u8s (List.replicate N 0)).toArray := by
    apply Array.ext'
    rw [show (Value.int .u8 0).cells = #[.int .u8 0] from rfl, toList_madeCells_one, Nat.mul_one]
    unfold u8s
    simp
  rw [e]
theorem make_run (W : World) (N : Nat) (hN : N ≤ 1000) : (Instr.makeSlice 67 (.int .i64 (N : Int)) (.int .i64 (N : Int))).run Try.prog W = .ok (.slice (some ⟨W.heap.size, 0, none⟩) N N) (W.alloc (.cells (madeCells (Value.int .u8 0).cells (N * 1)) 5)) := by
  obtain ⟨i0, hi, hz0, hz1, hz2⟩ := info_parts info5
  have h := run_make (P := Try.prog) W 67 5 i0 (.int .u8 0) Try.underlying67 hi hz0 .i64 .i64 (N : Int) (N : Int) (by omega) (Int.le_refl _) (by rw [hz2]; omega) (by omega)
  rw [hz1, Int.toNat_natCast] at h
  exact h

def pickPost (w : World) (e : Ending) (w' : World) : Prop := ∃ q : Pk, RightP q ∧ e = .returned (pv q) ∧ Below w.heap.size w w'

set_option maxRecDepth 100000 in
set_option maxHeartbeats 2000000 in
theorem pick_packet (w : World) (V : Value) (hV : RawOk w V) : Calls Try.prog 27 #[V] w (pickPost w) := by
  obtain ⟨post, hpost⟩ : ∃ post, pickPost w = post := ⟨_, rfl⟩
  have HPOST := hide hpost
  rw [hpost]
  clear hpost
  obtain ⟨va, vn, vc, rfl, _⟩ := id hV
  have HV := hide hV
  clear hV
  have HPS0 : Hid (PS w ((w.alloc (.cells zeroCells 59)).alloc (.cells #[.slice va vn vc, .int .i64 0] 45)) (.slice va vn vc) 0) := by
    refine ⟨?_, ?_, by simp, ((Below.refl _ _).alloc (Nat.le_refl _) _).alloc (by simp) _⟩
    · have := heap_alloc_new (w.alloc (.cells zeroCells 59)) (.cells #[.slice va vn vc, .int .i64 0] 45)
      simpa using this
    · exact (Below.heap_alloc _ _ _ (by simp)).trans (heap_alloc_new w _)
  go_enter Try.func27, Try.ntmps27
  go_wp2_with fail
  refine ((unhide HPS0).next (unhide HV) (by omega) 7 (by omega) (by omega)).mono ?_
  rintro e w1 ⟨⟨k0, hk0, rfl⟩, hp1⟩
  have HP1 := hide hp1
  clear hp1 HPS0
  go_wp2_with fail
  refine ((unhide HP1).next (unhide HV) (by omega) 3 (by omega) (by omega)).mono ?_
  rintro e w2 ⟨⟨k1, hk1, rfl⟩, hp2⟩
  have HP2 := hide hp2
  clear hp2 HP1
  go_wp2_with fail
  refine ((unhide HP2).next (unhide HV) (by omega) 255 (by omega) (by omega)).mono ?_
  rintro e w3 ⟨⟨k2, hk2, rfl⟩, hp3⟩
  have HP3 := hide hp3
  clear hp3 HP2
  go_wp2_with fail
  refine ((unhide HP3).next (unhide HV) (by omega) 3 (by omega) (by omega)).mono ?_
  rintro e w4 ⟨⟨k3, hk3, rfl⟩, hp4⟩
  have HP4 := hide hp4
  clear hp4 HP3
  go_wp2_with fail
  refine ((unhide HP4).next (unhide HV) (by omega) 999 (by omega) (by omega)).mono ?_
  rintro e w5 ⟨⟨k4, hk4, rfl⟩, hp5⟩
  have HP5 := hide hp5
  clear hp5 HP4
  go_wp2_with fail
  refine ((unhide HP5).next (unhide HV) (by omega) 255 (by omega) (by omega)).mono ?_
  rintro e w6 ⟨⟨k5, hk5, rfl⟩, hp6⟩
  have HP6 := hide hp6
  clear hp6 HP5
  go_wp2_with fail
  refine ((unhide HP6).next (unhide HV) (by omega) 9 (by omega) (by omega)).mono ?_
  rintro e w7 ⟨⟨k6, hk6, rfl⟩, hp7⟩
  have hsz := hp7.size
  have HP7 := hide hp7
  clear hp7 HP6
  have HN8 := hide (((unhide HP7).alloc #[.int .i64 (1 + (k0 : Int)), .int .i64 (k1 : Int), .int .i64 (1 + (k2 : Int)), .int .i64 (k3 : Int), .int .i64 (1 + (k4 : Int)), .int .i64 (1 + (k5 : Int)), .int .i64 0, .int .i64 (1 + (k6 : Int)), .bool false, .string ⟨#[]⟩]).next (unhide HV) (by omega) (1 + k6) (by omega) (by omega))
  have hcast : ((1 + k6 : Nat) : Int) = 1 + (k6 : Int) := by omega
  rw [hcast] at HN8
  clear hcast
  go_wp2_with fail
  refine (unhide HN8).mono ?_
  rintro e w8 ⟨⟨k7, hk7, rfl⟩, hp8, hkq, hsq⟩
  clear hkq hsq
  have hk8 := hp8.pk
  have c0 : w8.cell? ⟨w.heap.size + 2, 0, none⟩ = some (.int .i64 (1 + (k0 : Int))) := cell_of hk8 0 _ rfl
  have c1 : w8.cell? ⟨w.heap.size + 2, 1, none⟩ = some (.int .i64 (k1 : Int)) := cell_of hk8 1 _ rfl
  have c2 : w8.cell? ⟨w.heap.size + 2, 2, none⟩ = some (.int .i64 (1 + (k2 : Int))) := cell_of hk8 2 _ rfl
  have c3 : w8.cell? ⟨w.heap.size + 2, 3, none⟩ = some (.int .i64 (k3 : Int)) := cell_of hk8 3 _ rfl
  have c4 : w8.cell? ⟨w.heap.size + 2, 4, none⟩ = some (.int .i64 (1 + (k4 : Int))) := cell_of hk8 4 _ rfl
  have c5 : w8.cell? ⟨w.heap.size + 2, 5, none⟩ = some (.int .i64 (1 + (k5 : Int))) := cell_of hk8 5 _ rfl
  have c6 : w8.cell? ⟨w.heap.size + 2, 6, none⟩ = some (.int .i64 0) := cell_of hk8 6 _ rfl
  have c7 : w8.cell? ⟨w.heap.size + 2, 7, none⟩ = some (.int .i64 (1 + (k6 : Int))) := cell_of hk8 7 _ rfl
  have c8 : w8.cell? ⟨w.heap.size + 2, 8, none⟩ = some (.bool false) := cell_of hk8 8 _ rfl
  have c9 : w8.cell? ⟨w.heap.size + 2, 9, none⟩ = some (.string ⟨#[]⟩) := cell_of hk8 9 _ rfl
  have cz := thaw_of hk8
  have HP8 : Hid (PP w (w8.setCell ⟨w.heap.size + 2, 6, none⟩ (.int .i64 (k7 : Int))) (.slice va vn vc) (0 + 1 + 1 + 1 + 1 + 1 + 1 + 1 + 1) #[.int .i64 (1 + (k0 : Int)), .int .i64 (k1 : Int), .int .i64 (1 + (k2 : Int)), .int .i64 (k3 : Int), .int .i64 (1 + (k4 : Int)), .int .i64 (1 + (k5 : Int)), .int .i64 (k7 : Int), .int .i64 (1 + (k6 : Int)), .bool false, .string ⟨#[]⟩]) := hp8.set 6 _
  clear hk8 hp8 HN8 HP7
  go_wp2_with fail
  refine ((unhide HP8).next (unhide HV) (by omega) 2 (by omega) (by omega)).mono ?_
  rintro e w9 ⟨⟨k8, hk8, rfl⟩, hp9, hkq, hsq⟩
  clear hkq hsq
  clear c0 c1 c2 c3 c4 c5 c6 c7 c8 c9 cz HP8
  have hk9 := hp9.pk
  have c0 : w9.cell? ⟨w.heap.size + 2, 0, none⟩ = some (.int .i64 (1 + (k0 : Int))) := cell_of hk9 0 _ rfl
  have c1 : w9.cell? ⟨w.heap.size + 2, 1, none⟩ = some (.int .i64 (k1 : Int)) := cell_of hk9 1 _ rfl
  have c2 : w9.cell? ⟨w.heap.size + 2, 2, none⟩ = some (.int .i64 (1 + (k2 : Int))) := cell_of hk9 2 _ rfl
  have c3 : w9.cell? ⟨w.heap.size + 2, 3, none⟩ = some (.int .i64 (k3 : Int)) := cell_of hk9 3 _ rfl
  have c4 : w9.cell? ⟨w.heap.size + 2, 4, none⟩ = some (.int .i64 (1 + (k4 : Int))) := cell_of hk9 4 _ rfl
  have c5 : w9.cell? ⟨w.heap.size + 2, 5, none⟩ = some (.int .i64 (1 + (k5 : Int))) := cell_of hk9 5 _ rfl
  have c6 : w9.cell? ⟨w.heap.size + 2, 6, none⟩ = some (.int .i64 (k7 : Int)) := cell_of hk9 6 _ rfl
  have c7 : w9.cell? ⟨w.heap.size + 2, 7, none⟩ = some (.int .i64 (1 + (k6 : Int))) := cell_of hk9 7 _ rfl
  have c8 : w9.cell? ⟨w.heap.size + 2, 8, none⟩ = some (.bool false) := cell_of hk9 8 _ rfl
  have c9 : w9.cell? ⟨w.heap.size + 2, 9, none⟩ = some (.string ⟨#[]⟩) := cell_of hk9 9 _ rfl
  have cz := thaw_of hk9
  obtain ⟨W, hW⟩ : ∃ W, w9.setCell ⟨w.heap.size + 2, 8, none⟩ (.bool ((k8 : Int) == 1)) = W := ⟨_, rfl⟩
  have HP9 : Hid (PP w W (.slice va vn vc) 9 #[.int .i64 (1 + (k0 : Int)), .int .i64 (k1 : Int), .int .i64 (1 + (k2 : Int)), .int .i64 (k3 : Int), .int .i64 (1 + (k4 : Int)), .int .i64 (1 + (k5 : Int)), .int .i64 (k7 : Int), .int .i64 (1 + (k6 : Int)), .bool ((k8 : Int) == 1), .string ⟨#[]⟩]) := by
    rw [← hW]
    exact hp9.set 8 _
  have hrs := hp9.res
  clear hk9 hp9
  have HW := hide hW
  clear hW
  have b0 : 1 ≤ 1 + (k0 : Int) ∧ 1 + (k0 : Int) ≤ 7 := by omega
  have b1 : 0 ≤ (k1 : Int) ∧ (k1 : Int) ≤ 2 := by omega
  have b2 : 1 ≤ 1 + (k2 : Int) ∧ 1 + (k2 : Int) ≤ 255 := by omega
  have b3 : 0 ≤ (k3 : Int) ∧ (k3 : Int) ≤ 2 := by omega
  have b4 : 1 ≤ 1 + (k4 : Int) ∧ 1 + (k4 : Int) ≤ 999 := by omega
  have b5 : 1 ≤ 1 + (k5 : Int) ∧ 1 + (k5 : Int) ≤ 255 := by omega
  have b6 : 1 ≤ 1 + (k6 : Int) ∧ 1 + (k6 : Int) ≤ 9 := by omega
  have b7 : 0 ≤ (k7 : Int) ∧ (k7 : Int) ≤ 1 + (k6 : Int) - 1 := by omega
  clear hk0 hk1 hk2 hk3 hk4 hk5 hk6 hk7 hk8
  generalize 1 + (k0 : Int) = kd at *
  generalize (k1 : Int) = c at *
  generalize 1 + (k2 : Int) = li at *
  generalize (k3 : Int) = ln at *
  generalize 1 + (k4 : Int) = sq at *
  generalize 1 + (k5 : Int) = u at *
  generalize 1 + (k6 : Int) = o at *
  generalize (k7 : Int) = pa at *
  have HIN : Hid (∀ b, bodyOk ⟨kd, c, li, ln, sq, u, pa, o, ((k8 : Int) == 1), b⟩ → RightP ⟨kd, c, li, ln, sq, u, pa, o, ((k8 : Int) == 1), b⟩) := fun b hb => ⟨by exact b0, by exact b1, by exact b2, by exact b3, by exact b4, by exact b5, by exact b6, by exact b7, hb⟩
  have HEND : Hid (∀ b w', bodyOk ⟨kd, c, li, ln, sq, u, pa, o, ((k8 : Int) == 1), b⟩ → Below w.heap.size w w' → post (.returned (pv ⟨kd, c, li, ln, sq, u, pa, o, ((k8 : Int) == 1), b⟩)) w') := fun b w' hb hbl => by
    rw [← unhide HPOST]
    exact ⟨_, (unhide HIN) b hb, rfl, hbl⟩
  clear HIN HPOST
  have hlt : w.heap.size + 2 < W.heap.size := lt_of_block (unhide HP9).pk
  by_cases hkk : kd = 1 ∨ kd = 5
  · have htt : (kd == 1) = true ∨ ((kd == 1) = false ∧ (kd == 5) = true) := by
      simp
      omega
    by_cases hpa : pa = o - 1
    · have tp : (pa == o - 1) = true := by simpa using hpa
      have HBK : Hid (∀ l : List UInt8, l.length ≤ 8 → bodyOk ⟨kd, c, li, ln, sq, u, pa, o, ((k8 : Int) == 1), l⟩) := fun l hl => by
        unfold bodyOk
        simp only
        rw [if_pos hkk, if_neg (by omega)]
        exact hl
      clear hrs hkk hpa
      rcases htt with t1 | ⟨t1, t5⟩
      all_goals
        go_wp2_with fail
        rw [unhide HW]
        refine ((unhide HP9).next (unhide HV) (by omega) 9 (by omega) (by omega)).mono ?_
        rintro e wA ⟨⟨k9, hk9, rfl⟩, hpA, _, hsA⟩
        obtain ⟨M, hM⟩ : ∃ M, madeCells (Value.int .u8 0).cells (k9 * 1) = M := ⟨_, rfl⟩
        have hmk := fun W => make_run W k9 (by omega)
        have HBX := hide (BC.made wA k9)
        rw [hM] at hmk HBX
        have HPX := hide (hpA.alloc (.cells M 5))
        have HBOK : Hid (∀ l : List UInt8, l.length = k9 → bodyOk ⟨kd, c, li, ln, sq, u, pa, o, ((k8 : Int) == 1), l⟩) := fun l hl => (unhide HBK) l (by omega)
        obtain ⟨G, hG⟩ : ∃ G, wA.heap.size = G := ⟨_, rfl⟩
        rw [hG] at HBX
        have hGl : w.heap.size + 2 < G := by omega
        clear hpA hM hsA HBK
        go_wp2
        go_loopw [7] (fun iv wr => ∃ (i m : Nat) (l : List UInt8), i ≤ k9 ∧ iv = .int .i64 i ∧ m ≤ 100 + i ∧ PP w wr (.slice va vn vc) m #[.int .i64 kd, .int .i64 c, .int .i64 li, .int .i64 ln, .int .i64 sq, .int .i64 u, .int .i64 pa, .int .i64 o, .bool ((k8 : Int) == 1), .string ⟨#[]⟩] ∧ BC wr G k9 l) (fun iv _ => k9 - (intOf iv).toNat)
        case atStart => exact ⟨0, _, _, Nat.zero_le _, rfl, by omega, unhide HPX, unhide HBX⟩
        case round =>
          obtain ⟨i, m, l, hi, rfl, hm, hp, hb⟩ := hrel
          have hgl := lt_of_block hb.2
          by_cases hlt2 : i < k9
          · have HNX := hide (hp.next (unhide HV) (by omega) 256 (by omega) (by omega))
            have HB0 := hide hb
            clear hp hb
            go_wp2_with fail
            refine (unhide HNX).mono ?_
            rintro e wn ⟨⟨k, hk, rfl⟩, hpn, hkn, _⟩
            have hbn := (unhide HB0).keep (hkn G (by omega))
            obtain ⟨v0, hv0⟩ := hbn.cell hlt2
            have hth := hbn.thaw i
            have HR1 := hide (hpn.other G i (by omega) (.int .u8 (k : Int)))
            have HR2 := hide (hbn.set i (k : Int) (by omega) (by omega))
            have hkI : (k : Int) ≤ 255 := by omega
            clear hpn hbn hkn HNX HB0
            go_wp2
            go_roundw
            case rel => exact ⟨i + 1, m + 1, _, by omega, by go_num, by omega, unhide HR1, unhide HR2⟩
            case measure => simp [intOf]; omega
          · have hie : i = k9 := by omega
            have hcv := hb.conv
            have hll := hb.1
            have hrs := hp.res
            have hpk := hp.pk
            have HBW := hide (hp.set 9 (.string (str l))).below
            have z0 : wr.cell? ⟨w.heap.size, 0, none⟩ = some (.int .i64 0) := cell_of hrs 0 _ rfl
            have z1 : wr.cell? ⟨w.heap.size, 1, none⟩ = some (.int .i64 0) := cell_of hrs 1 _ rfl
            have z2 : wr.cell? ⟨w.heap.size, 2, none⟩ = some (.int .i64 0) := cell_of hrs 2 _ rfl
            have z3 : wr.cell? ⟨w.heap.size, 3, none⟩ = some (.int .i64 0) := cell_of hrs 3 _ rfl
            have z4 : wr.cell? ⟨w.heap.size, 4, none⟩ = some (.int .i64 0) := cell_of hrs 4 _ rfl
            have z5 : wr.cell? ⟨w.heap.size, 5, none⟩ = some (.int .i64 0) := cell_of hrs 5 _ rfl
            have z6 : wr.cell? ⟨w.heap.size, 6, none⟩ = some (.int .i64 0) := cell_of hrs 6 _ rfl
            have z7 : wr.cell? ⟨w.heap.size, 7, none⟩ = some (.int .i64 0) := cell_of hrs 7 _ rfl
            have z8 : wr.cell? ⟨w.heap.size, 8, none⟩ = some (.bool false) := cell_of hrs 8 _ rfl
            have z9 : wr.cell? ⟨w.heap.size, 9, none⟩ = some (.string ⟨#[]⟩) := cell_of hrs 9 _ rfl
            have p0 : wr.cell? ⟨w.heap.size + 2, 0, none⟩ = some (.int .i64 kd) := cell_of hpk 0 _ rfl
            have p1 : wr.cell? ⟨w.heap.size + 2, 1, none⟩ = some (.int .i64 c) := cell_of hpk 1 _ rfl
            have p2 : wr.cell? ⟨w.heap.size + 2, 2, none⟩ = some (.int .i64 li) := cell_of hpk 2 _ rfl
            have p3 : wr.cell? ⟨w.heap.size + 2, 3, none⟩ = some (.int .i64 ln) := cell_of hpk 3 _ rfl
            have p4 : wr.cell? ⟨w.heap.size + 2, 4, none⟩ = some (.int .i64 sq) := cell_of hpk 4 _ rfl
            have p5 : wr.cell? ⟨w.heap.size + 2, 5, none⟩ = some (.int .i64 u) := cell_of hpk 5 _ rfl
            have p6 : wr.cell? ⟨w.heap.size + 2, 6, none⟩ = some (.int .i64 pa) := cell_of hpk 6 _ rfl
            have p7 : wr.cell? ⟨w.heap.size + 2, 7, none⟩ = some (.int .i64 o) := cell_of hpk 7 _ rfl
            have p8 : wr.cell? ⟨w.heap.size + 2, 8, none⟩ = some (.bool ((k8 : Int) == 1)) := cell_of hpk 8 _ rfl
            have p9 : wr.cell? ⟨w.heap.size + 2, 9, none⟩ = some (.string ⟨#[]⟩) := cell_of hpk 9 _ rfl
            have zz := thaw_of hrs
            have pz := thaw_of hpk
            have hlr := lt_of_block hrs
            have HBO : Hid (bodyOk ⟨kd, c, li, ln, sq, u, pa, o, ((k8 : Int) == 1), l⟩) := (unhide HBOK) l hll
            clear hp hb hrs hpk hll
            subst hie
            go_wp2
            obtain ⟨WL, hWL⟩ : ∃ WL, wr.setCell ⟨w.heap.size + 2, 9, none⟩ (.string (str l)) = WL := ⟨_, rfl⟩
            have zw : ∀ i v, wr.cell? ⟨w.heap.size, i, none⟩ = some v → WL.cell? ⟨w.heap.size, i, none⟩ = some v := fun i v h => by
              rw [← hWL]
              simp [go_sem, h]
            rw [hWL] at HBW ⊢
            have y0 := zw _ _ z0
            have y1 := zw _ _ z1
            have y2 := zw _ _ z2
            have y3 := zw _ _ z3
            have y4 := zw _ _ z4
            have y5 := zw _ _ z5
            have y6 := zw _ _ z6
            have y7 := zw _ _ z7
            have y8 := zw _ _ z8
            have y9 := zw _ _ z9
            exact bodyPost_ret (v := pv ⟨kd, c, li, ln, sq, u, pa, o, ((k8 : Int) == 1), l⟩) (by simp [results, Try.results27, go_sem, y0, y1, y2, y3, y4, y5, y6, y7, y8, y9]) rfl ((unhide HEND) l _ (unhide HBO) (below10 (unhide HBW) (Nat.le_refl _) (.int .i64 kd) (.int .i64 c) (.int .i64 li) (.int .i64 ln) (.int .i64 sq) (.int .i64 u) (.int .i64 pa) (.int .i64 o) (.bool ((k8 : Int) == 1)) (.string (str l))))
    · have tp : (pa == o - 1) = false := by simpa using hpa
      have HBOK : Hid (∀ l : List UInt8, l.length = 8 → bodyOk ⟨kd, c, li, ln, sq, u, pa, o, ((k8 : Int) == 1), l⟩) := fun l hl => by
        unfold bodyOk
        simp only
        rw [if_pos hkk, if_pos (by omega)]
        exact hl
      obtain ⟨M, hM⟩ : ∃ M, madeCells (Value.int .u8 0).cells (8 * 1) = M := ⟨_, rfl⟩
      have hmk : ∀ W, (Instr.makeSlice 67 (.int .i64 8) (.int .i64 8)).run Try.prog W = .ok (.slice (some ⟨W.heap.size, 0, none⟩) 8 8) (W.alloc (.cells (madeCells (Value.int .u8 0).cells (8 * 1)) 5)) := fun W => make_run W 8 (by omega)
      have HBX := hide (BC.made W 8)
      rw [hM] at HBX
      rw [hM] at hmk
      have HPX := hide ((unhide HP9).alloc (.cells M 5))
      obtain ⟨G, hG⟩ : ∃ G, w9.heap.size = G := ⟨_, rfl⟩
      have hWG : W.heap.size = G := by
        rw [← unhide HW, ← hG]
        simp
      rw [hWG] at HBX
      rw [← unhide HW] at HBX HPX
      have hGl : w.heap.size + 2 < G := by omega
      clear hrs hkk hpa hM
      rcases htt with t1 | ⟨t1, t5⟩
      all_goals
        go_wp2
        go_loopw [7] (fun iv wr => ∃ (i m : Nat) (l : List UInt8), i ≤ 8 ∧ iv = .int .i64 i ∧ m ≤ 100 + i ∧ PP w wr (.slice va vn vc) m #[.int .i64 kd, .int .i64 c, .int .i64 li, .int .i64 ln, .int .i64 sq, .int .i64 u, .int .i64 pa, .int .i64 o, .bool ((k8 : Int) == 1), .string ⟨#[]⟩] ∧ BC wr G 8 l) (fun iv _ => 8 - (intOf iv).toNat)
        case atStart => exact ⟨0, _, _, Nat.zero_le _, rfl, by omega, unhide HPX, unhide HBX⟩
        case round =>
          obtain ⟨i, m, l, hi, rfl, hm, hp, hb⟩ := hrel
          have hgl := lt_of_block hb.2
          by_cases hlt2 : i < 8
          · have HNX := hide (hp.next (unhide HV) (by omega) 256 (by omega) (by omega))
            have HB0 := hide hb
            clear hp hb
            go_wp2_with fail
            refine (unhide HNX).mono ?_
            rintro e wn ⟨⟨k, hk, rfl⟩, hpn, hkn, _⟩
            have hbn := (unhide HB0).keep (hkn G (by omega))
            obtain ⟨v0, hv0⟩ := hbn.cell hlt2
            have hth := hbn.thaw i
            have HR1 := hide (hpn.other G i (by omega) (.int .u8 (k : Int)))
            have HR2 := hide (hbn.set i (k : Int) (by omega) (by omega))
            have hkI : (k : Int) ≤ 255 := by omega
            clear hpn hbn hkn HNX HB0
            go_wp2
            go_roundw
            case rel => exact ⟨i + 1, m + 1, _, by omega, by go_num, by omega, unhide HR1, unhide HR2⟩
            case measure => simp [intOf]; omega
          · have hie : i = 8 := by omega
            have hcv := hb.conv
            have hll := hb.1
            have hrs := hp.res
            have hpk := hp.pk
            have HBW := hide (hp.set 9 (.string (str l))).below
            have z0 : wr.cell? ⟨w.heap.size, 0, none⟩ = some (.int .i64 0) := cell_of hrs 0 _ rfl
            have z1 : wr.cell? ⟨w.heap.size, 1, none⟩ = some (.int .i64 0) := cell_of hrs 1 _ rfl
            have z2 : wr.cell? ⟨w.heap.size, 2, none⟩ = some (.int .i64 0) := cell_of hrs 2 _ rfl
            have z3 : wr.cell? ⟨w.heap.size, 3, none⟩ = some (.int .i64 0) := cell_of hrs 3 _ rfl
            have z4 : wr.cell? ⟨w.heap.size, 4, none⟩ = some (.int .i64 0) := cell_of hrs 4 _ rfl
            have z5 : wr.cell? ⟨w.heap.size, 5, none⟩ = some (.int .i64 0) := cell_of hrs 5 _ rfl
            have z6 : wr.cell? ⟨w.heap.size, 6, none⟩ = some (.int .i64 0) := cell_of hrs 6 _ rfl
            have z7 : wr.cell? ⟨w.heap.size, 7, none⟩ = some (.int .i64 0) := cell_of hrs 7 _ rfl
            have z8 : wr.cell? ⟨w.heap.size, 8, none⟩ = some (.bool false) := cell_of hrs 8 _ rfl
            have z9 : wr.cell? ⟨w.heap.size, 9, none⟩ = some (.string ⟨#[]⟩) := cell_of hrs 9 _ rfl
            have p0 : wr.cell? ⟨w.heap.size + 2, 0, none⟩ = some (.int .i64 kd) := cell_of hpk 0 _ rfl
            have p1 : wr.cell? ⟨w.heap.size + 2, 1, none⟩ = some (.int .i64 c) := cell_of hpk 1 _ rfl
            have p2 : wr.cell? ⟨w.heap.size + 2, 2, none⟩ = some (.int .i64 li) := cell_of hpk 2 _ rfl
            have p3 : wr.cell? ⟨w.heap.size + 2, 3, none⟩ = some (.int .i64 ln) := cell_of hpk 3 _ rfl
            have p4 : wr.cell? ⟨w.heap.size + 2, 4, none⟩ = some (.int .i64 sq) := cell_of hpk 4 _ rfl
            have p5 : wr.cell? ⟨w.heap.size + 2, 5, none⟩ = some (.int .i64 u) := cell_of hpk 5 _ rfl
            have p6 : wr.cell? ⟨w.heap.size + 2, 6, none⟩ = some (.int .i64 pa) := cell_of hpk 6 _ rfl
            have p7 : wr.cell? ⟨w.heap.size + 2, 7, none⟩ = some (.int .i64 o) := cell_of hpk 7 _ rfl
            have p8 : wr.cell? ⟨w.heap.size + 2, 8, none⟩ = some (.bool ((k8 : Int) == 1)) := cell_of hpk 8 _ rfl
            have p9 : wr.cell? ⟨w.heap.size + 2, 9, none⟩ = some (.string ⟨#[]⟩) := cell_of hpk 9 _ rfl
            have zz := thaw_of hrs
            have pz := thaw_of hpk
            have hlr := lt_of_block hrs
            have HBO : Hid (bodyOk ⟨kd, c, li, ln, sq, u, pa, o, ((k8 : Int) == 1), l⟩) := (unhide HBOK) l hll
            clear hp hb hrs hpk hll
            subst hie
            go_wp2
            obtain ⟨WL, hWL⟩ : ∃ WL, wr.setCell ⟨w.heap.size + 2, 9, none⟩ (.string (str l)) = WL := ⟨_, rfl⟩
            have zw : ∀ i v, wr.cell? ⟨w.heap.size, i, none⟩ = some v → WL.cell? ⟨w.heap.size, i, none⟩ = some v := fun i v h => by
              rw [← hWL]
              simp [go_sem, h]
            rw [hWL] at HBW ⊢
            have y0 := zw _ _ z0
            have y1 := zw _ _ z1
            have y2 := zw _ _ z2
            have y3 := zw _ _ z3
            have y4 := zw _ _ z4
            have y5 := zw _ _ z5
            have y6 := zw _ _ z6
            have y7 := zw _ _ z7
            have y8 := zw _ _ z8
            have y9 := zw _ _ z9
            exact bodyPost_ret (v := pv ⟨kd, c, li, ln, sq, u, pa, o, ((k8 : Int) == 1), l⟩) (by simp [results, Try.results27, go_sem, y0, y1, y2, y3, y4, y5, y6, y7, y8, y9]) rfl ((unhide HEND) l _ (unhide HBO) (below10 (unhide HBW) (Nat.le_refl _) (.int .i64 kd) (.int .i64 c) (.int .i64 li) (.int .i64 ln) (.int .i64 sq) (.int .i64 u) (.int .i64 pa) (.int .i64 o) (.bool ((k8 : Int) == 1)) (.string (str l))))
  · have t1 : (kd == 1) = false := by simp; omega
    have t5 : (kd == 5) = false := by simp; omega
    have hbo : bodyOk ⟨kd, c, li, ln, sq, u, pa, o, ((k8 : Int) == 1), []⟩ := by
      unfold bodyOk
      simp only
      rw [if_neg hkk]
      rfl
    have HBW := hide (unhide HP9).below
    have z0 : w9.cell? ⟨w.heap.size, 0, none⟩ = some (.int .i64 0) := cell_of hrs 0 _ rfl
    have z1 : w9.cell? ⟨w.heap.size, 1, none⟩ = some (.int .i64 0) := cell_of hrs 1 _ rfl
    have z2 : w9.cell? ⟨w.heap.size, 2, none⟩ = some (.int .i64 0) := cell_of hrs 2 _ rfl
    have z3 : w9.cell? ⟨w.heap.size, 3, none⟩ = some (.int .i64 0) := cell_of hrs 3 _ rfl
    have z4 : w9.cell? ⟨w.heap.size, 4, none⟩ = some (.int .i64 0) := cell_of hrs 4 _ rfl
    have z5 : w9.cell? ⟨w.heap.size, 5, none⟩ = some (.int .i64 0) := cell_of hrs 5 _ rfl
    have z6 : w9.cell? ⟨w.heap.size, 6, none⟩ = some (.int .i64 0) := cell_of hrs 6 _ rfl
    have z7 : w9.cell? ⟨w.heap.size, 7, none⟩ = some (.int .i64 0) := cell_of hrs 7 _ rfl
    have z8 : w9.cell? ⟨w.heap.size, 8, none⟩ = some (.bool false) := cell_of hrs 8 _ rfl
    have z9 : w9.cell? ⟨w.heap.size, 9, none⟩ = some (.string ⟨#[]⟩) := cell_of hrs 9 _ rfl
    have zz := thaw_of hrs
    have hne : ¬ w.heap.size = w.heap.size + 2 := by omega
    have hlr := lt_of_block hrs
    clear hrs hkk HP9
    go_wp2
    rw [unhide HW]
    have zw : ∀ i v, w9.cell? ⟨w.heap.size, i, none⟩ = some v → W.cell? ⟨w.heap.size, i, none⟩ = some v := fun i v h => by
      rw [← unhide HW]
      simp [go_sem, h]
    have y0 := zw _ _ z0
    have y1 := zw _ _ z1
    have y2 := zw _ _ z2
    have y3 := zw _ _ z3
    have y4 := zw _ _ z4
    have y5 := zw _ _ z5
    have y6 := zw _ _ z6
    have y7 := zw _ _ z7
    have y8 := zw _ _ z8
    have y9 := zw _ _ z9
    exact bodyPost_ret (v := pv ⟨kd, c, li, ln, sq, u, pa, o, ((k8 : Int) == 1), []⟩) (by simp [results, Try.results27, go_sem, y0, y1, y2, y3, y4, y5, y6, y7, y8, y9]) rfl ((unhide HEND) [] _ hbo (below10 (unhide HBW) (Nat.le_refl _) (.int .i64 kd) (.int .i64 c) (.int .i64 li) (.int .i64 ln) (.int .i64 sq) (.int .i64 u) (.int .i64 pa) (.int .i64 o) (.bool ((k8 : Int) == 1)) (.string ⟨#[]⟩)))
end Go.Proofs.Ytblomippkddgiaa
