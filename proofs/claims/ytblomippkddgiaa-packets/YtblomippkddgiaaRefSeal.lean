/-
  The document's own Seal and Open.
-/
import Derived.Test.YtblomippkddgiaaRefSealed
import Derived.Test.YtblomippkddgiaaRefRight2
namespace Go.Proofs.Ytblomippkddgiaa
open Go.RowKit

abbrev sealEnd (p : Pk) : Ending := if RightP p then .returned (.tuple #[.string (str (sealB p)), .int .i64 0]) else .returned (.tuple #[.string ⟨#[]⟩, .int .i64 7])

set_option maxRecDepth 100000 in
set_option maxHeartbeats 1000000 in
theorem refSeal_any (p : Pk) (w : World) : Calls Try.prog 49 #[pv p] w fun e w' => e = sealEnd p ∧ Below w.heap.size w w' := by
  have HR := hide (fun w => refRight_any p w)
  by_cases hr : RightP p
  · have hd : decide (RightP p) = true := decide_eq_true hr
    rw [hd] at HR
    have HS := hide (fun w => refSealed_any p w hr)
    have he : sealEnd p = .returned (.tuple #[.string (str (sealB p)), .int .i64 0]) := if_pos hr
    rw [he]
    clear he hd hr
    generalize str (sealB p) = SS at *
    obtain ⟨k, c, li, ln, sq, u, pa, o, pl, body⟩ := p
    have HB := hide (boxW_below w k c li ln sq u pa o pl (str body))
    have hbx := heap_alloc_new w (.cells #[.int .i64 k, .int .i64 c, .int .i64 li, .int .i64 ln, .int .i64 sq, .int .i64 u, .int .i64 pa, .int .i64 o, .bool pl, .string (str body)] 59)
    have HX := hide hbx
    clear hbx
    go_enter Try.func49, Try.ntmps49
    go_wp2_with fail
    refine ((unhide HR) _).mono ?_
    rintro e w1 ⟨rfl, hb1⟩
    have hbz := (hb1.block w.heap.size (by simp)).trans (unhide HX)
    have f0 : w1.cell? ⟨w.heap.size, 0, none⟩ = some (.int .i64 k) := cell_of hbz 0 _ rfl
    have f1 : w1.cell? ⟨w.heap.size, 1, none⟩ = some (.int .i64 c) := cell_of hbz 1 _ rfl
    have f2 : w1.cell? ⟨w.heap.size, 2, none⟩ = some (.int .i64 li) := cell_of hbz 2 _ rfl
    have f3 : w1.cell? ⟨w.heap.size, 3, none⟩ = some (.int .i64 ln) := cell_of hbz 3 _ rfl
    have f4 : w1.cell? ⟨w.heap.size, 4, none⟩ = some (.int .i64 sq) := cell_of hbz 4 _ rfl
    have f5 : w1.cell? ⟨w.heap.size, 5, none⟩ = some (.int .i64 u) := cell_of hbz 5 _ rfl
    have f6 : w1.cell? ⟨w.heap.size, 6, none⟩ = some (.int .i64 pa) := cell_of hbz 6 _ rfl
    have f7 : w1.cell? ⟨w.heap.size, 7, none⟩ = some (.int .i64 o) := cell_of hbz 7 _ rfl
    have f8 : w1.cell? ⟨w.heap.size, 8, none⟩ = some (.bool pl) := cell_of hbz 8 _ rfl
    have f9 : w1.cell? ⟨w.heap.size, 9, none⟩ = some (.string (str body)) := cell_of hbz 9 _ rfl
    have HB1 := hide ((unhide HB).trans (hb1.mono (by simp)))
    clear hbz hb1
    go_wp2_with fail
    refine ((unhide HS) _).mono ?_
    rintro e w2 ⟨rfl, hb2⟩
    have HB2 := hide ((unhide HB1).trans (hb2.mono (unhide HB1).size))
    clear hb2
    go_wp2
    go_ret2
    exact ⟨rfl, unhide HB2⟩
  · have hd : decide (RightP p) = false := decide_eq_false hr
    rw [hd] at HR
    have he : sealEnd p = .returned (.tuple #[.string ⟨#[]⟩, .int .i64 7]) := if_neg hr
    rw [he]
    clear he hd hr
    obtain ⟨k, c, li, ln, sq, u, pa, o, pl, body⟩ := p
    have HB := hide (boxW_below w k c li ln sq u pa o pl (str body))
    go_enter Try.func49, Try.ntmps49
    go_wp2_with fail
    refine ((unhide HR) _).mono ?_
    rintro e w1 ⟨rfl, hb1⟩
    have HB1 := hide ((unhide HB).trans (hb1.mono (by simp)))
    clear hb1
    go_wp2
    go_ret2
    exact ⟨rfl, unhide HB1⟩
end Go.Proofs.Ytblomippkddgiaa
