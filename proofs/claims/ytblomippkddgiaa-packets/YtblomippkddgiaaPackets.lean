/-
  Proved: errandlaw.Packets returns true for every packet and every text, and leaves its arguments as they were: the landed Seal answers the bytes and the error, the landed Open the packet and the error, that the document's own answer. No condition.
-/
import Derived.Test.YtblomippkddgiaaRefOpen
import Derived.Test.YtblomippkddgiaaSeal
import Derived.ProofKit
import Derived.OpenShut
import Derived.ShutString
import Derived.ChangeOld
import Derived.Below
namespace Go.Proofs.Ytblomippkddgiaa
open Go.RowKit

theorem seal_end (p : Pk) (w : World) : Calls Try.prog 22 #[pv p] w fun e w' => e = sealEnd p ∧ Below w.heap.size w w' := by
  refine (seal_any p w).mono ?_
  rintro e w' ⟨hb, ⟨hr, rfl⟩ | ⟨hr, rfl⟩⟩
  · exact ⟨(if_pos hr).symm, hb⟩
  · exact ⟨(if_neg hr).symm, hb⟩
theorem open_end (l : List UInt8) (w : World) (hl : l.length ≤ 9223372036854775807) : Calls Try.prog 24 #[.string (str l)] w fun e w' => e = openEnd (openR l) ∧ Below w.heap.size w w' := by
  refine (open_any l w hl).mono ?_
  rw [openR_readP]
  rintro e w' ⟨hb, ⟨hr, rfl⟩ | ⟨p, hr, rfl⟩⟩
  · rw [hr]
    exact ⟨rfl, hb⟩
  · rw [hr]
    exact ⟨rfl, hb⟩

set_option maxRecDepth 100000 in
set_option maxHeartbeats 1000000 in
theorem seals_any (p : Pk) (w : World) : Calls Try.prog 25 #[pv p] w fun e w' => e = .returned (.bool true) ∧ Below w.heap.size w w' := by
  have H1 := hide (fun w => seal_end p w)
  have H2 := hide (fun w => refSeal_any p w)
  obtain ⟨S, n, hS⟩ : ∃ (S : ByteArray) (n : Int), sealEnd p = .returned (.tuple #[.string S, .int .i64 n]) := by
    by_cases hr : RightP p
    · exact ⟨_, _, if_pos hr⟩
    · exact ⟨_, _, if_neg hr⟩
  rw [hS] at H1 H2
  clear hS
  obtain ⟨k, c, li, ln, sq, u, pa, o, pl, body⟩ := p
  have HB := hide (boxW_below w k c li ln sq u pa o pl (str body))
  have hbx := heap_alloc_new w (.cells #[.int .i64 k, .int .i64 c, .int .i64 li, .int .i64 ln, .int .i64 sq, .int .i64 u, .int .i64 pa, .int .i64 o, .bool pl, .string (str body)] 59)
  have HX := hide hbx
  clear hbx
  go_enter Try.func25, Try.ntmps25
  go_wp2_with fail
  refine ((unhide H1) _).mono ?_
  rintro e w1 ⟨rfl, hb1⟩
  have hbz := (hb1.block w.heap.size (by simp)).trans (unhide HX)
  have f0 : w1.cell? ⟨w.heap.size, 0, none⟩ = some (.int .i64 k) := cell_of hbz 0 _ rfl
  have f1 : w1.cell? ⟨w.heap.size, 1, none⟩ = some (.int .i64 c) := cell_of hbz 1 _ rfl
  have f2 : w1.cell? ⟨w.heap.size, 2, none⟩ = some (.int .i64 li) := cell_of hbz 2 _ rfl
  have f3 : w1.cell? ⟨w.heap.size, 3, none⟩ = some (.int .i64 ln) := cell_of hbz 3 _ rfl
  have f4 : w1.cell? ⟨w.heap.size, 4, none⟩ = some (.int .i64 sq) := cell_of hbz 4 _ rfl
  have f5 : w1.cell? ⟨w.heap.size, 5, none⟩ = some (.int .i64 u) := cell_of hbz 5 _ rfl
  have f6 : w1.cell? ⟨w.heap.size, 6, none⟩ = some (.int .i64 pa) := cell_of hbz 6 _ rfl
  have f7 : w1.cell? ⟨w.heap.size, 7, none⟩ = some (.int .i64 o) := cell_of hbz 7 _ rfl
  have f8 : w1.cell? ⟨w.heap.size, 8, none⟩ = some (.bool pl) := cell_of hbz 8 _ rfl
  have f9 : w1.cell? ⟨w.heap.size, 9, none⟩ = some (.string (str body)) := cell_of hbz 9 _ rfl
  have HB1 := hide ((unhide HB).trans (hb1.mono (by simp)))
  clear hbz hb1
  go_wp2_with fail
  refine ((unhide H2) _).mono ?_
  rintro e w2 ⟨rfl, hb2⟩
  have HB2 := hide ((unhide HB1).trans (hb2.mono (unhide HB1).size))
  clear hb2
  go_wp2_with (go_at_call 10; go_in)
  go_ret
  exact ⟨rfl, unhide HB2⟩

abbrev agg10 (x0 x1 x2 x3 x4 x5 x6 x7 x8 x9 : Value) : Array Value := #[x0, x1, x2, x3, x4, x5, x6, x7, x8, x9]
set_option maxRecDepth 100000 in
set_option maxHeartbeats 1000000 in
theorem opens_any (l : List UInt8) (w : World) (hl : l.length ≤ 9223372036854775807) : Calls Try.prog 26 #[.string (str l)] w fun e w' => e = .returned (.bool true) ∧ Below w.heap.size w w' := by
  have H1 := hide (fun w => open_end l w hl)
  have H2 := hide (fun w => refOpen_any l w hl)
  obtain ⟨k, c, li, ln, sq, u, pa, o, pl, S, n, hS⟩ : ∃ (k c li ln sq u pa o : Int) (pl : Bool) (S : ByteArray) (n : Int), openEnd (openR l) = .returned (.tuple #[.agg #[.int .i64 k, .int .i64 c, .int .i64 li, .int .i64 ln, .int .i64 sq, .int .i64 u, .int .i64 pa, .int .i64 o, .bool pl, .string S], .int .i64 n]) := by
    cases openR l with
    | none => exact ⟨_, _, _, _, _, _, _, _, _, _, _, rfl⟩
    | some p => exact ⟨_, _, _, _, _, _, _, _, _, _, _, rfl⟩
  rw [hS] at H1 H2
  clear hS
  generalize str l = L at *
  go_enter Try.func26, Try.ntmps26
  go_wp2_with fail
  refine ((unhide H1) _).mono ?_
  rintro e w1 ⟨rfl, hb1⟩
  have HB1 := hide hb1
  clear hb1
  go_wp2_with fail
  refine ((unhide H2) _).mono ?_
  rintro e w2 ⟨rfl, hb2⟩
  have hx := (hb2.block w1.heap.size (by simp)).trans (heap_alloc_new w1 (.cells #[.int .i64 k, .int .i64 c, .int .i64 li, .int .i64 ln, .int .i64 sq, .int .i64 u, .int .i64 pa, .int .i64 o, .bool pl, .string S] 59))
  have HB2 := hide (((unhide HB1).alloc (unhide HB1).size (.cells #[.int .i64 k, .int .i64 c, .int .i64 li, .int .i64 ln, .int .i64 sq, .int .i64 u, .int .i64 pa, .int .i64 o, .bool pl, .string S] 59)).trans (hb2.mono (by have := (unhide HB1).size; simp; omega)))
  have hs2 := hb2.size
  simp at hs2
  have hlt : w1.heap.size < w2.heap.size := by omega
  clear hb2 hs2
  have x0 : w2.cell? ⟨w1.heap.size, 0, none⟩ = some (.int .i64 k) := cell_of hx 0 _ rfl
  have x1 : w2.cell? ⟨w1.heap.size, 1, none⟩ = some (.int .i64 c) := cell_of hx 1 _ rfl
  have x2 : w2.cell? ⟨w1.heap.size, 2, none⟩ = some (.int .i64 li) := cell_of hx 2 _ rfl
  have x3 : w2.cell? ⟨w1.heap.size, 3, none⟩ = some (.int .i64 ln) := cell_of hx 3 _ rfl
  have x4 : w2.cell? ⟨w1.heap.size, 4, none⟩ = some (.int .i64 sq) := cell_of hx 4 _ rfl
  have x5 : w2.cell? ⟨w1.heap.size, 5, none⟩ = some (.int .i64 u) := cell_of hx 5 _ rfl
  have x6 : w2.cell? ⟨w1.heap.size, 6, none⟩ = some (.int .i64 pa) := cell_of hx 6 _ rfl
  have x7 : w2.cell? ⟨w1.heap.size, 7, none⟩ = some (.int .i64 o) := cell_of hx 7 _ rfl
  have x8 : w2.cell? ⟨w1.heap.size, 8, none⟩ = some (.bool pl) := cell_of hx 8 _ rfl
  have x9 : w2.cell? ⟨w1.heap.size, 9, none⟩ = some (.string S) := cell_of hx 9 _ rfl
  clear hx
  go_wp2_with (go_at_call 10; go_in)
  go_ret
  exact ⟨rfl, (unhide HB2).alloc (by have := (unhide HB2).size; omega) _⟩
def exP : Pk := ⟨1, 0, 1, 0, 1, 1, 0, 1, false, [0, 0, 0, 5]⟩
theorem exP_right : RightP exP := by decide
abbrev exCells : Array Value := #[.int .i64 1, .int .i64 0, .int .i64 1, .int .i64 0, .int .i64 1, .int .i64 1, .int .i64 0, .int .i64 1, .bool false, .string ⟨#[0, 0, 0, 5]⟩]
theorem num_any (n : Int) (w : World) : Calls Try.prog 10 #[.int .i64 n] w fun e w' => e = .returned (.int .i64 n) ∧ w = w' := by
  go_enter Try.func10, Try.ntmps10
  go_wp2
  go_ret
  exact ⟨rfl, rfl⟩
set_option maxRecDepth 100000 in
set_option maxHeartbeats 1000000 in
theorem example_any (w : World) : Calls Try.prog 23 #[] w fun e w' => e = .returned (.agg #[.int .i64 1, .int .i64 0, .int .i64 1, .int .i64 0, .int .i64 1, .int .i64 1, .int .i64 0, .int .i64 1, .bool false, .string ⟨#[0, 0, 0, 5]⟩]) ∧ Below w.heap.size w w' := by
  go_enter Try.func23, Try.ntmps23
  go_wp2
  exact bodyPost_ret (v := .agg #[.int .i64 1, .int .i64 0, .int .i64 1, .int .i64 0, .int .i64 1, .int .i64 1, .int .i64 0, .int .i64 1, .bool false, .string ⟨#[0, 0, 0, 5]⟩]) (by simp [results, Try.results23, go_sem]) rfl ⟨rfl, (Below.refl _ _).alloc (Nat.le_refl _) _⟩
theorem seal_ex (w : World) : Calls Try.prog 22 #[.agg #[.int .i64 1, .int .i64 0, .int .i64 1, .int .i64 0, .int .i64 1, .int .i64 1, .int .i64 0, .int .i64 1, .bool false, .string ⟨#[0, 0, 0, 5]⟩]] w fun e w' => e = .returned (.tuple #[.string (str (sealB exP)), .int .i64 0]) ∧ Below w.heap.size w w' := by
  have h := seal_end exP w
  rw [show sealEnd exP = .returned (.tuple #[.string (str (sealB exP)), .int .i64 0]) from if_pos exP_right] at h
  exact h
theorem open_ex (w : World) : Calls Try.prog 24 #[.string (str (sealB exP))] w fun e w' => e = .returned (.tuple #[.agg #[.int .i64 1, .int .i64 0, .int .i64 1, .int .i64 0, .int .i64 1, .int .i64 1, .int .i64 0, .int .i64 1, .bool false, .string ⟨#[0, 0, 0, 5]⟩], .int .i64 0]) ∧ Below w.heap.size w w' := by
  have hl := sealB_length exP
  have h := open_end (sealB exP) w (by rw [hl]; decide)
  rw [openR_readP, readP_seal exP_right] at h
  exact h

set_option maxRecDepth 100000 in
set_option maxHeartbeats 2000000 in
theorem packets_any (p : Pk) (l : List UInt8) (w : World) (hl : l.length ≤ 9223372036854775807) : Calls Try.prog 7 #[pv p, .string (str l)] w fun e w' => e = .returned (.bool true) ∧ Below w.heap.size w w' := by
  have H1 := hide example_any
  have H2 := hide seal_ex
  have H3 := hide open_ex
  have H4 := hide (fun w => seals_any p w)
  have H5 := hide (fun w => opens_any l w hl)
  have HN := hide num_any
  have hsz : ((str (sealB exP)).size : Int) = 17 := by
    rw [str_size, sealB_length]
    rfl
  generalize str (sealB exP) = SE at *
  generalize str l = L at *
  obtain ⟨k, c, li, ln, sq, u, pa, o, pl, body⟩ := p
  have HB := hide (boxW_below w k c li ln sq u pa o pl (str body))
  have hbx := heap_alloc_new w (.cells #[.int .i64 k, .int .i64 c, .int .i64 li, .int .i64 ln, .int .i64 sq, .int .i64 u, .int .i64 pa, .int .i64 o, .bool pl, .string (str body)] 59)
  have HX := hide hbx
  clear hbx
  go_enter Try.func7, Try.ntmps7
  go_wp2_with fail
  refine ((unhide H1) _).mono ?_
  rintro e w1 ⟨rfl, hb1⟩
  have HB1 := hide ((unhide HB).trans (hb1.mono (by simp)))
  have HX1 := hide ((hb1.block w.heap.size (by simp)).trans (unhide HX))
  clear hb1 HX
  go_wp2_with fail
  refine ((unhide H2) _).mono ?_
  rintro e w2 ⟨rfl, hb2⟩
  have HX2 := hide ((hb2.block w.heap.size (lt_of_block (unhide HX1))).trans (unhide HX1))
  have HB2 := hide ((unhide HB1).trans (hb2.mono (unhide HB1).size))
  clear hb2 HX1 HB1
  go_wp2_with fail
  refine ((unhide H3) _).mono ?_
  rintro e w3 ⟨rfl, hb3⟩
  have hl3 := lt_of_block (unhide HX2)
  have HX3 := hide ((hb3.block w.heap.size hl3).trans (unhide HX2))
  have HB3 := hide ((unhide HB2).trans (hb3.mono (unhide HB2).size))
  have hls := lt_of_block (unhide HX3)
  clear hb3 HX2 HB2 hl3
  obtain ⟨W, hW⟩ : ∃ W, w3.alloc (.cells #[.int .i64 1, .int .i64 0, .int .i64 1, .int .i64 0, .int .i64 1, .int .i64 1, .int .i64 0, .int .i64 1, .bool false, .string ⟨#[0, 0, 0, 5]⟩] 59) = W := ⟨_, rfl⟩
  have hq : W.heap[w3.heap.size]? = some (.cells #[.int .i64 1, .int .i64 0, .int .i64 1, .int .i64 0, .int .i64 1, .int .i64 1, .int .i64 0, .int .i64 1, .bool false, .string ⟨#[0, 0, 0, 5]⟩] 59 (0, 0)) := by
    rw [← hW]
    exact heap_alloc_new w3 _
  have HX4 : Hid (W.heap[w.heap.size]? = some (.cells #[.int .i64 k, .int .i64 c, .int .i64 li, .int .i64 ln, .int .i64 sq, .int .i64 u, .int .i64 pa, .int .i64 o, .bool pl, .string (str body)] 59 (0, 0))) := by
    rw [← hW]
    exact (Below.heap_alloc w3 _ _ hls).trans (unhide HX3)
  have HB4 : Hid (Below w.heap.size w W) := by
    rw [← hW]
    exact (unhide HB3).alloc (by omega) _
  have HW := hide hW
  clear hW HX3 HB3
  have q0 : W.cell? ⟨w3.heap.size, 0, none⟩ = some (.int .i64 1) := cell_of hq 0 _ rfl
  have q1 : W.cell? ⟨w3.heap.size, 1, none⟩ = some (.int .i64 0) := cell_of hq 1 _ rfl
  have q2 : W.cell? ⟨w3.heap.size, 2, none⟩ = some (.int .i64 1) := cell_of hq 2 _ rfl
  have q3 : W.cell? ⟨w3.heap.size, 3, none⟩ = some (.int .i64 0) := cell_of hq 3 _ rfl
  have q4 : W.cell? ⟨w3.heap.size, 4, none⟩ = some (.int .i64 1) := cell_of hq 4 _ rfl
  have q5 : W.cell? ⟨w3.heap.size, 5, none⟩ = some (.int .i64 1) := cell_of hq 5 _ rfl
  have q6 : W.cell? ⟨w3.heap.size, 6, none⟩ = some (.int .i64 0) := cell_of hq 6 _ rfl
  have q7 : W.cell? ⟨w3.heap.size, 7, none⟩ = some (.int .i64 1) := cell_of hq 7 _ rfl
  have q8 : W.cell? ⟨w3.heap.size, 8, none⟩ = some (.bool false) := cell_of hq 8 _ rfl
  have q9 : W.cell? ⟨w3.heap.size, 9, none⟩ = some (.string ⟨#[0, 0, 0, 5]⟩) := cell_of hq 9 _ rfl
  have HALL : Hid (∀ w5, Below W.drew.heap.size W.drew w5 → (w5.cell? ⟨w3.heap.size, 0, none⟩ = some (.int .i64 1) ∧ w5.cell? ⟨w3.heap.size, 1, none⟩ = some (.int .i64 0) ∧ w5.cell? ⟨w3.heap.size, 2, none⟩ = some (.int .i64 1) ∧ w5.cell? ⟨w3.heap.size, 3, none⟩ = some (.int .i64 0) ∧ w5.cell? ⟨w3.heap.size, 4, none⟩ = some (.int .i64 1) ∧ w5.cell? ⟨w3.heap.size, 5, none⟩ = some (.int .i64 1) ∧ w5.cell? ⟨w3.heap.size, 6, none⟩ = some (.int .i64 0) ∧ w5.cell? ⟨w3.heap.size, 7, none⟩ = some (.int .i64 1) ∧ w5.cell? ⟨w3.heap.size, 8, none⟩ = some (.bool false) ∧ w5.cell? ⟨w3.heap.size, 9, none⟩ = some (.string ⟨#[0, 0, 0, 5]⟩)) ∧ w5.heap[w.heap.size]? = some (.cells #[.int .i64 k, .int .i64 c, .int .i64 li, .int .i64 ln, .int .i64 sq, .int .i64 u, .int .i64 pa, .int .i64 o, .bool pl, .string (str body)] 59 (0, 0)) ∧ Below w.heap.size w w5) := fun w5 hb5 => by
    have hz := (hb5.block w3.heap.size (lt_of_block hq)).trans hq
    exact ⟨⟨cell_of hz 0 _ rfl, cell_of hz 1 _ rfl, cell_of hz 2 _ rfl, cell_of hz 3 _ rfl, cell_of hz 4 _ rfl, cell_of hz 5 _ rfl, cell_of hz 6 _ rfl, cell_of hz 7 _ rfl, cell_of hz 8 _ rfl, cell_of hz 9 _ rfl⟩, (hb5.block w.heap.size (lt_of_block (unhide HX4))).trans (unhide HX4), (unhide HB4).drew.trans (hb5.mono (unhide HB4).size)⟩
  clear hq HX4 HB4
  go_wp2
  rw [unhide HW]
  go_region_held3 (fun w' => w'.cell? ⟨w3.heap.size, 0, none⟩ = some (.int .i64 1) ∧ w'.cell? ⟨w3.heap.size, 1, none⟩ = some (.int .i64 0) ∧ w'.cell? ⟨w3.heap.size, 2, none⟩ = some (.int .i64 1) ∧ w'.cell? ⟨w3.heap.size, 3, none⟩ = some (.int .i64 0) ∧ w'.cell? ⟨w3.heap.size, 4, none⟩ = some (.int .i64 1) ∧ w'.cell? ⟨w3.heap.size, 5, none⟩ = some (.int .i64 1) ∧ w'.cell? ⟨w3.heap.size, 6, none⟩ = some (.int .i64 0) ∧ w'.cell? ⟨w3.heap.size, 7, none⟩ = some (.int .i64 1) ∧ w'.cell? ⟨w3.heap.size, 8, none⟩ = some (.bool false) ∧ w'.cell? ⟨w3.heap.size, 9, none⟩ = some (.string ⟨#[0, 0, 0, 5]⟩)) (go_keep)
    (first
      | (go_at_call 10; refine ((unhide HN) _ _).mono ?_; rintro e w' ⟨rfl, rfl⟩)
      | (go_at_call 23; refine ((unhide H1) _).mono ?_; rintro e w5 ⟨rfl, hb5⟩; have hz := (unhide HALL) w5 hb5; obtain ⟨⟨r0, r1, r2, r3, r4, r5, r6, r7, r8, r9⟩, hx5, hbl5⟩ := hz; have HX5 := hide hx5; have HB5 := hide hbl5; clear hb5 hx5 hbl5))
  have hx5 := unhide HX5
  have f0 : w5.cell? ⟨w.heap.size, 0, none⟩ = some (.int .i64 k) := cell_of hx5 0 _ rfl
  have f1 : w5.cell? ⟨w.heap.size, 1, none⟩ = some (.int .i64 c) := cell_of hx5 1 _ rfl
  have f2 : w5.cell? ⟨w.heap.size, 2, none⟩ = some (.int .i64 li) := cell_of hx5 2 _ rfl
  have f3 : w5.cell? ⟨w.heap.size, 3, none⟩ = some (.int .i64 ln) := cell_of hx5 3 _ rfl
  have f4 : w5.cell? ⟨w.heap.size, 4, none⟩ = some (.int .i64 sq) := cell_of hx5 4 _ rfl
  have f5 : w5.cell? ⟨w.heap.size, 5, none⟩ = some (.int .i64 u) := cell_of hx5 5 _ rfl
  have f6 : w5.cell? ⟨w.heap.size, 6, none⟩ = some (.int .i64 pa) := cell_of hx5 6 _ rfl
  have f7 : w5.cell? ⟨w.heap.size, 7, none⟩ = some (.int .i64 o) := cell_of hx5 7 _ rfl
  have f8 : w5.cell? ⟨w.heap.size, 8, none⟩ = some (.bool pl) := cell_of hx5 8 _ rfl
  have f9 : w5.cell? ⟨w.heap.size, 9, none⟩ = some (.string (str body)) := cell_of hx5 9 _ rfl
  clear hx5 q0 q1 q2 q3 q4 q5 q6 q7 q8 q9 r0 r1 r2 r3 r4 r5 r6 r7 r8 r9
  go_wp2_with fail
  refine ((unhide H4) _).mono ?_
  rintro e w6 ⟨rfl, hb6⟩
  have HB6 := hide ((unhide HB5).trans (hb6.mono (unhide HB5).size))
  clear hb6
  go_wp2_with fail
  refine ((unhide H5) _).mono ?_
  rintro e w7 ⟨rfl, hb7⟩
  have HB7 := hide ((unhide HB6).trans (hb7.mono (unhide HB6).size))
  clear hb7
  go_wp2
  go_ret
  exact ⟨rfl, unhide HB7⟩
end Go.Proofs.Ytblomippkddgiaa
