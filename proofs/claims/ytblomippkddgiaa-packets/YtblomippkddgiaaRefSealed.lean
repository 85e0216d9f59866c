/-
  The document's own 'sealed'.
-/
import Derived.Test.YtblomippkddgiaaRefSix2
import Derived.Test.YtblomippkddgiaaRefBytes
import Derived.Laws.Closers25
namespace Go.Proofs.Ytblomippkddgiaa
open Go.RowKit

theorem str_app (a b : List UInt8) : str a ++ str b = str (a ++ b) := by
  apply ByteArray.ext
  simp

theorem lit_ints (W : World) (xs : List Int) (t : TypeId) : ∀ (i : Nat) (x : Int), xs[i]? = some x → (W.alloc (.cells (xs.map (Value.int .i64)).toArray t)).cell? ⟨W.heap.size, i, none⟩ = some (.int .i64 x) := by
  intro i x hx
  rw [World.cell?_alloc_new W _ _ i, List.getElem?_toArray, List.getElem?_map, hx]
  rfl

set_option maxRecDepth 100000 in
set_option maxHeartbeats 400000 in
theorem refSealed_any (p : Pk) (w : World) (hr : RightP p) : Calls Try.prog 70 #[pv p] w fun e w' => e = .returned (.string (str (sealB p))) ∧ Below w.heap.size w w' := by
  have hbl := body_le hr
  have HSB : Hid (sealB p = headB p ++ two8 (crcI (headB p))) := rfl
  have HHB : Hid (headB p = ([p.kind, p.client, p.life, p.line, p.seq / 256, p.seq % 256, p.uid, p.part, p.off, yes p.please, (p.body.length : Int)] : List Int).map b8 ++ p.body) := rfl
  have HHL := hide (headB_length p)
  rw [unhide HSB]
  clear HSB
  generalize headB p = H at *
  obtain ⟨k, c, li, ln, sq, u, pa, o, pl, body⟩ := p
  obtain ⟨b1, b2, b3, b4, b5, b6, b7, b8', _⟩ := hr
  simp only at b1 b2 b3 b4 b5 b6 b7 b8' hbl
  show Calls Try.prog 70 #[pvs k c li ln sq u pa o pl (str body)] w _
  have qY : 0 ≤ yes pl ∧ yes pl ≤ 1 := by unfold yes; split <;> omega
  have HXS : Hid (∀ x ∈ ([k, c, li, ln, sq / 256, sq % 256, u, pa, o, yes pl, (body.length : Int)] : List Int), 0 ≤ x ∧ x ≤ 255) := by
    intro x hx
    simp only [List.mem_cons, List.not_mem_nil, or_false] at hx
    omega
  obtain ⟨BX, hBX⟩ : ∃ BX, w.alloc (.cells #[.int .i64 k, .int .i64 c, .int .i64 li, .int .i64 ln, .int .i64 sq, .int .i64 u, .int .i64 pa, .int .i64 o, .bool pl, .string (str body)] 59) = BX := ⟨_, rfl⟩
  have hbx : BX.heap[w.heap.size]? = some (.cells #[.int .i64 k, .int .i64 c, .int .i64 li, .int .i64 ln, .int .i64 sq, .int .i64 u, .int .i64 pa, .int .i64 o, .bool pl, .string (str body)] 59 (0, 0)) := by
    rw [← hBX]
    exact heap_alloc_new w _
  have hbs : BX.heap.size = w.heap.size + 1 := by rw [← hBX]; simp
  have HBW : Hid (Below w.heap.size w BX) := by
    rw [← hBX]
    exact (Below.refl _ _).alloc (Nat.le_refl _) _
  have HBB := hide (refBytes_any [k, c, li, ln, sq / 256, sq % 256, u, pa, o, yes pl, (body.length : Int)] BX.heap.size 11 ((BX.alloc (.cells (([k, c, li, ln, sq / 256, sq % 256, u, pa, o, yes pl, (body.length : Int)] : List Int).map (Value.int .i64)).toArray 3)).drew) (by simp) (lit_ints BX _ 3) (unhide HXS) (by simp))
  rw [hbs] at HBB
  have HQ1 : Hid (IntKind.i64.wrap (sq.tdiv 256) = sq / 256) := by
    show _ = _
    rw [Int.tdiv_eq_ediv_of_nonneg (by omega)]
    exact wrap_i64_ediv _ _ (by omega) (by omega) (by omega)
  have HQ2 : Hid (sq.tmod 256 = sq % 256) := Int.tmod_eq_emod_of_nonneg (by omega)
  have HCR : Hid (∀ w, Calls Try.prog 92 #[.string (str H)] w fun e w' => e = .returned (.int .i64 (crcI H)) ∧ Below w.heap.size w w') := fun w => refSixteen_any H w (by rw [unhide HHL]; simp only; omega)
  have HTW := hide (fun w => refTwo_any (crcI H) w (crcI_lt H).1 (crcI_lt H).2)
  have HST := hide (str_app H (two8 (crcI H)))
  have HSH : Hid (str (([k, c, li, ln, sq / 256, sq % 256, u, pa, o, yes pl, (body.length : Int)] : List Int).map b8) ++ str body = str H) := by
    show _ = _
    rw [unhide HHB, str_app]
  have hlen : H.length = 11 + body.length := unhide HHL
  have hadd1 : ∀ w, (Op.stringOp .add (str (([k, c, li, ln, sq / 256, sq % 256, u, pa, o, yes pl, (body.length : Int)] : List Int).map b8)) (str body)).run Try.prog w = .ok (.string (str H)) w := fun w => by
    rw [← unhide HSH]
    exact run_string_add_sum w _ _ (by rw [str_size, str_size]; simp; omega)
  have hadd2 : ∀ w, (Op.stringOp .add (str H) (str (two8 (crcI H)))).run Try.prog w = .ok (.string (str (H ++ two8 (crcI H)))) w := fun w => by
    rw [← unhide HST]
    exact run_string_add_sum w _ _ (by rw [str_size, str_size]; simp [two8]; omega)
  clear hlen
  generalize crcI H = C at *
  generalize str (H ++ two8 C) = ST at *
  generalize str (two8 C) = S2 at *
  generalize str H = SH at *
  generalize str (([k, c, li, ln, sq / 256, sq % 256, u, pa, o, yes pl, (body.length : Int)] : List Int).map b8) = SN at *
  have hsz : ((str body).size : Int) = (body.length : Int) := by rw [str_size]
  generalize str body = SB at *
  have c0 : BX.cell? ⟨w.heap.size, 0, none⟩ = some (.int .i64 k) := cell_of hbx 0 _ rfl
  have c1 : BX.cell? ⟨w.heap.size, 1, none⟩ = some (.int .i64 c) := cell_of hbx 1 _ rfl
  have c2 : BX.cell? ⟨w.heap.size, 2, none⟩ = some (.int .i64 li) := cell_of hbx 2 _ rfl
  have c3 : BX.cell? ⟨w.heap.size, 3, none⟩ = some (.int .i64 ln) := cell_of hbx 3 _ rfl
  have c4 : BX.cell? ⟨w.heap.size, 4, none⟩ = some (.int .i64 sq) := cell_of hbx 4 _ rfl
  have c5 : BX.cell? ⟨w.heap.size, 5, none⟩ = some (.int .i64 u) := cell_of hbx 5 _ rfl
  have c6 : BX.cell? ⟨w.heap.size, 6, none⟩ = some (.int .i64 pa) := cell_of hbx 6 _ rfl
  have c7 : BX.cell? ⟨w.heap.size, 7, none⟩ = some (.int .i64 o) := cell_of hbx 7 _ rfl
  have c8 : BX.cell? ⟨w.heap.size, 8, none⟩ = some (.bool pl) := cell_of hbx 8 _ rfl
  have c9 : BX.cell? ⟨w.heap.size, 9, none⟩ = some (.string SB) := cell_of hbx 9 _ rfl
  have HBX := hide hBX
  have HK9 : Hid ((BX.alloc (.cells (([k, c, li, ln, sq / 256, sq % 256, u, pa, o, yes pl, (body.length : Int)] : List Int).map (Value.int .i64)).toArray 3)).drew.heap[w.heap.size]? = some (.cells #[.int .i64 k, .int .i64 c, .int .i64 li, .int .i64 ln, .int .i64 sq, .int .i64 u, .int .i64 pa, .int .i64 o, .bool pl, .string SB] 59 (0, 0))) := (Below.heap_alloc _ _ _ (by omega)).trans hbx
  have HBW' := hide (((unhide HBW).alloc (by omega) (.cells (([k, c, li, ln, sq / 256, sq % 256, u, pa, o, yes pl, (body.length : Int)] : List Int).map (Value.int .i64)).toArray 3)).drew)
  clear HHB HHL HXS hBX
  clear hbx
  cases pl
  all_goals
    first | rw [show yes true = 1 from rfl] at HBB HK9 HBW' | rw [show yes false = 0 from rfl] at HBB HK9 HBW'
    go_enter Try.func70, Try.ntmps70
    go_wp2_with fail
    rw [unhide HBX]
    go_region_held3 (fun w' => w'.cell? ⟨w.heap.size, 0, none⟩ = some (.int .i64 k) ∧ w'.cell? ⟨w.heap.size, 1, none⟩ = some (.int .i64 c) ∧ w'.cell? ⟨w.heap.size, 2, none⟩ = some (.int .i64 li) ∧ w'.cell? ⟨w.heap.size, 3, none⟩ = some (.int .i64 ln) ∧ w'.cell? ⟨w.heap.size, 4, none⟩ = some (.int .i64 sq) ∧ w'.cell? ⟨w.heap.size, 5, none⟩ = some (.int .i64 u) ∧ w'.cell? ⟨w.heap.size, 6, none⟩ = some (.int .i64 pa) ∧ w'.cell? ⟨w.heap.size, 7, none⟩ = some (.int .i64 o) ∧ w'.cell? ⟨w.heap.size, 9, none⟩ = some (.string SB)) (go_keep)
      ((go_at_call 91; rw [unhide HQ1, unhide HQ2]; refine (unhide HBB).mono ?_; rintro e w1 ⟨rfl, hb1⟩; have hs1 := hb1.size; have hbz := (hb1.block w.heap.size (by simp; omega)).trans (unhide HK9); have f0 : w1.cell? ⟨w.heap.size, 0, none⟩ = some (.int .i64 k) := cell_of hbz 0 _ rfl; have f1 : w1.cell? ⟨w.heap.size, 1, none⟩ = some (.int .i64 c) := cell_of hbz 1 _ rfl; have f2 : w1.cell? ⟨w.heap.size, 2, none⟩ = some (.int .i64 li) := cell_of hbz 2 _ rfl; have f3 : w1.cell? ⟨w.heap.size, 3, none⟩ = some (.int .i64 ln) := cell_of hbz 3 _ rfl; have f4 : w1.cell? ⟨w.heap.size, 4, none⟩ = some (.int .i64 sq) := cell_of hbz 4 _ rfl; have f5 : w1.cell? ⟨w.heap.size, 5, none⟩ = some (.int .i64 u) := cell_of hbz 5 _ rfl; have f6 : w1.cell? ⟨w.heap.size, 6, none⟩ = some (.int .i64 pa) := cell_of hbz 6 _ rfl; have f7 : w1.cell? ⟨w.heap.size, 7, none⟩ = some (.int .i64 o) := cell_of hbz 7 _ rfl; have f9 : w1.cell? ⟨w.heap.size, 9, none⟩ = some (.string SB) := cell_of hbz 9 _ rfl; clear hbz; have HB1 := hide ((unhide HBW').trans (hb1.mono (by simp; omega))); clear hb1))
    go_wp2_with fail
    refine ((unhide HCR) _).mono ?_
    rintro e w2 ⟨rfl, hb2⟩
    have HB2 := hide ((unhide HB1).trans (hb2.mono (unhide HB1).size))
    clear hb2
    go_wp2_with fail
    refine ((unhide HTW) _).mono ?_
    rintro e w3 ⟨rfl, hb3⟩
    have HB3 := hide ((unhide HB2).trans (hb3.mono (unhide HB2).size))
    clear hb3
    go_wp2
    go_ret
    exact ⟨rfl, unhide HB3⟩
end Go.Proofs.Ytblomippkddgiaa
