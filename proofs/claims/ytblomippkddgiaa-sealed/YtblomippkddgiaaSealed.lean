/-
  The law Sealed, walked: every right packet comes back; with a byte turned, a byte less, a byte more it is refused.
-/
import Derived.Test.YtblomippkddgiaaPick
import Derived.Test.YtblomippkddgiaaSeal
import Derived.Lib.ConvBytes
namespace Go.Proofs.Ytblomippkddgiaa
open Go.RowKit

/- the bytes l lie in block G, and may be written -/
def RowB (W : World) (G : Nat) (l : List UInt8) : Prop := G < W.heap.size ∧ ∀ j (c : UInt8), l[j]? = some c → W.cell? ⟨G, j, none⟩ = some (.int .u8 (c.toNat : Int)) ∧ W.frozen? ⟨G, j, none⟩ = false
theorem RowB.set {W : World} {G : Nat} {l : List UInt8} (h : RowB W G l) (i : Nat) (x : UInt8) : RowB (W.setCell ⟨G, i, none⟩ (.int .u8 (x.toNat : Int))) G (l.set i x) := by
  refine ⟨by simpa using h.1, fun j c hj => ?_⟩
  by_cases hji : j = i
  · subst hji
    have hl : j < l.length := by
      have := (List.getElem?_eq_some_iff.1 hj).1
      simpa using this
    rw [List.getElem?_set_self hl] at hj
    obtain rfl := Option.some.inj hj
    obtain ⟨h1, h2⟩ := h.2 j _ (List.getElem?_eq_getElem hl)
    exact ⟨by simp [go_sem, h1], by simpa [go_sem] using h2⟩
  · rw [List.getElem?_set_ne (by omega)] at hj
    obtain ⟨h1, h2⟩ := h.2 j c hj
    exact ⟨by simp [go_sem, h1], by simpa [go_sem] using h2⟩
theorem RowB.conv {W : World} {G : Nat} {l : List UInt8} (h : RowB W G l) (cap : Nat) : (convert 67 9 (.slice (some ⟨G, 0, none⟩) l.length cap)).run Try.prog W = .ok (.string (str l)) W := by
  refine run_convert_bytes_back (P := Try.prog) W 67 9 5 ⟨G, 0, none⟩ cap l Try.underlying67 (by kernel_rfl) Try.underlying9 fun j hj => ?_
  rw [Addr.add_lit, Nat.zero_add]
  exact (h.2 j _ (List.getElem?_eq_getElem hj)).1
theorem RowB.drew {W : World} {G : Nat} {l : List UInt8} (h : RowB W G l) : RowB W.drew G l := h
theorem RowB.alloc {W : World} {G : Nat} {l : List UInt8} (h : RowB W G l) (o : Obj) : RowB (W.alloc o) G l := by
  have h1 := h.1
  refine ⟨by simp; omega, fun j c hj => ?_⟩
  obtain ⟨h2, h3⟩ := h.2 j c hj
  exact ⟨(World.cell?_alloc_lt _ _ _ (by exact h1)).trans h2, by simpa [World.frozen?, Below.heap_alloc W o G h1] using h3⟩
theorem conv_ex (W : World) (l : List UInt8) : ∃ (cap : Nat) (W' : World), (convert 9 67 (.string (str l))).run Try.prog W = .ok (.slice (some ⟨W.heap.size, 0, none⟩) l.length cap) W' ∧ RowB W' W.heap.size l ∧ Below W.heap.size W W' := by
  have h := Lib.run_convert_string_bytes (P := Try.prog) W 9 67 5 (str l) Try.underlying9 Try.underlying67 (by kernel_rfl)
  rw [str_size] at h
  refine ⟨_, _, h, ⟨by rw [Lib.bytesWorld_size]; omega, fun j c hj => ⟨?_, ?_⟩⟩, ?_⟩
  · have hl : j < l.length := (List.getElem?_eq_some_iff.1 hj).1
    rw [Lib.bytesWorld_cell W 5 (str l) j (by rw [str_size]; exact hl)]
    simp [List.getD, hj]
  · have hl : j < l.length := (List.getElem?_eq_some_iff.1 hj).1
    have hs : l.length ≤ (Lib.bytesCells W 5 (str l)).size := by
      unfold Lib.bytesCells
      simp
    simp only [World.frozen?, Lib.bytesWorld_at_new]
    simp
    omega
  · refine ⟨?_, ?_, ?_, by rw [Lib.bytesWorld_size]; omega, fun k hk => Lib.bytesWorld_at_old W 5 (str l) k hk⟩
    · simp [Lib.bytesWorld, World.freeze]
      rfl
    · simp [Lib.bytesWorld, World.freeze]
    · simp [Lib.bytesWorld, World.freeze]
      rfl
theorem seal_right (p : Pk) (hr : RightP p) (w : World) : Calls Try.prog 22 #[pv p] w fun e w' => e = .returned (.tuple #[.string (str (sealB p)), .int .i64 0]) ∧ Below w.heap.size w w' := by
  refine (seal_any p w).mono ?_
  rintro e w' ⟨hb, ⟨_, rfl⟩ | ⟨hn, _⟩⟩
  · exact ⟨rfl, hb⟩
  · exact absurd hr hn
theorem open_right (p : Pk) (hr : RightP p) (w : World) : Calls Try.prog 24 #[.string (str (sealB p))] w fun e w' => e = .returned (.tuple #[pv p, .int .i64 0]) ∧ Below w.heap.size w w' := by
  have hl := sealB_length p
  have hb := body_le hr
  refine (open_any (sealB p) w (by omega)).mono ?_
  unfold openPost
  rw [readP_seal hr]
  rintro e w' ⟨hb, ⟨hn, _⟩ | ⟨p', hp, rfl⟩⟩
  · cases hn
  · cases hp
    exact ⟨rfl, hb⟩
theorem open_none (l : List UInt8) (hn : readP l = none) (hl : l.length ≤ 1000) (w : World) : Calls Try.prog 24 #[.string (str l)] w fun e w' => e = .returned (.tuple #[zeroP, .int .i64 7]) ∧ Below w.heap.size w w' := by
  refine (open_any l w (by omega)).mono ?_
  unfold openPost
  rw [hn]
  rintro e w' ⟨hb, ⟨_, rfl⟩ | ⟨p', hp, _⟩⟩
  · exact ⟨rfl, hb⟩
  · cases hp
theorem xor_u8 (a d : UInt8) : bits .xor .u8 (a.toNat : Int) (d.toNat : Int) = ((a ^^^ d).toNat : Int) := by
  have ha := a.toNat_lt
  have hd := d.toNat_lt
  have n1 : (BitVec.ofInt 8 (a.toNat : Int)).toNat = a.toNat := by
    rw [BitVec.ofInt_natCast, BitVec.toNat_ofNat]
    omega
  have n2 : (BitVec.ofInt 8 (d.toNat : Int)).toNat = d.toNat := by
    rw [BitVec.ofInt_natCast, BitVec.toNat_ofNat]
    omega
  show IntKind.u8.wrap ((BitVec.ofInt 8 (a.toNat : Int) ^^^ BitVec.ofInt 8 (d.toNat : Int)).toNat : Int) = _
  rw [BitVec.toNat_xor, n1, n2, UInt8.toNat_xor]
  have hlt : a.toNat ^^^ d.toNat < 2 ^ 8 := Nat.xor_lt_two_pow (by omega) (by omega)
  rw [wrap_u8]
  omega
theorem xor_ne (a d : UInt8) (h : d ≠ 0) : a ^^^ d ≠ a := by
  intro e
  apply h
  have : a ^^^ (a ^^^ d) = a ^^^ a := by rw [e]
  simpa [← UInt8.xor_assoc] using this

theorem pick_at (c : Int) (n : Nat) (w : World) (hc : In64 c) (hn : 0 < n) (hn2 : n ≤ 65536) : Calls Try.prog 28 #[.int .i64 c, .int .i64 n] w fun e w' => (∃ k : Nat, k < n ∧ e = .returned (.int .i64 k)) ∧ w = w' := by
  refine (pick_any c n w hc hn hn2).mono ?_
  rintro e w' ⟨h, rfl⟩
  exact ⟨h, rfl⟩

set_option maxRecDepth 100000 in
set_option maxHeartbeats 2000000 in
theorem sealed_any (w : World) (V : Value) (at' by' : Int) (hV : RawOk w V) (ha : In64 at') (hb : In64 by') : Calls Try.prog 8 #[V, .int .i64 at', .int .i64 by'] w fun e w' => e = .returned (.bool true) ∧ Below w.heap.size w w' := by
  have HPK := hide (pick_packet w V hV)
  have HA := hide ha
  have HB := hide hb
  clear ha hb hV
  go_enter Try.func8, Try.ntmps8
  go_wp2_with fail
  refine (unhide HPK).mono ?_
  rintro e w1 ⟨q, hr, rfl, hb1⟩
  clear HPK
  have hbl := body_le hr
  have hsl := sealB_length q
  have HS := hide (fun w => seal_right q hr w)
  have HO := hide (fun w => open_right q hr w)
  have HTU := hide (fun i c hi hc => seal_turned q i c hi hc)
  have HLE := hide (seal_less hr)
  have HMO := hide (seal_more hr 0)
  generalize hL : sealB q = L at *
  have HCV := hide (fun W => conv_ex W L)
  have hss : ((str L).size : Int) = (L.length : Int) := by rw [str_size]
  clear hL
  obtain ⟨k, c, li, ln, sq, u, pa, o, pl, body⟩ := q
  simp only at hbl hsl
  have hsb : ((str body).size : Int) = (body.length : Int) := by rw [str_size]
  have hsI : (L.length : Int) = 13 + (body.length : Int) := by omega
  have HB1 := hide hb1
  clear hb1 hr
  obtain ⟨W1, hW1⟩ : ∃ W1, w1.alloc (.cells #[.int .i64 k, .int .i64 c, .int .i64 li, .int .i64 ln, .int .i64 sq, .int .i64 u, .int .i64 pa, .int .i64 o, .bool pl, .string (str body)] 59) = W1 := ⟨_, rfl⟩
  have hx1 : W1.heap[w1.heap.size]? = some (.cells #[.int .i64 k, .int .i64 c, .int .i64 li, .int .i64 ln, .int .i64 sq, .int .i64 u, .int .i64 pa, .int .i64 o, .bool pl, .string (str body)] 59 (0, 0)) := by
    rw [← hW1]
    exact heap_alloc_new w1 _
  have HBW1 : Hid (Below w.heap.size w W1) := by
    rw [← hW1]
    exact (unhide HB1).alloc (unhide HB1).size _
  have HW1 := hide hW1
  clear hW1
  go_wp2_with fail
  rw [unhide HW1]
  refine ((unhide HS) _).mono ?_
  rintro e w2 ⟨rfl, hb2⟩
  have hx2 := (hb2.block _ (lt_of_block hx1)).trans hx1
  have HB2 := hide ((unhide HBW1).trans (hb2.mono (unhide HBW1).size))
  have HX2 := hide hx2
  have p0 : w2.cell? ⟨w1.heap.size, 0, none⟩ = some (.int .i64 k) := cell_of hx2 0 _ rfl
  have p1 : w2.cell? ⟨w1.heap.size, 1, none⟩ = some (.int .i64 c) := cell_of hx2 1 _ rfl
  have p2 : w2.cell? ⟨w1.heap.size, 2, none⟩ = some (.int .i64 li) := cell_of hx2 2 _ rfl
  have p3 : w2.cell? ⟨w1.heap.size, 3, none⟩ = some (.int .i64 ln) := cell_of hx2 3 _ rfl
  have p4 : w2.cell? ⟨w1.heap.size, 4, none⟩ = some (.int .i64 sq) := cell_of hx2 4 _ rfl
  have p5 : w2.cell? ⟨w1.heap.size, 5, none⟩ = some (.int .i64 u) := cell_of hx2 5 _ rfl
  have p6 : w2.cell? ⟨w1.heap.size, 6, none⟩ = some (.int .i64 pa) := cell_of hx2 6 _ rfl
  have p7 : w2.cell? ⟨w1.heap.size, 7, none⟩ = some (.int .i64 o) := cell_of hx2 7 _ rfl
  have p8 : w2.cell? ⟨w1.heap.size, 8, none⟩ = some (.bool pl) := cell_of hx2 8 _ rfl
  have p9 : w2.cell? ⟨w1.heap.size, 9, none⟩ = some (.string (str body)) := cell_of hx2 9 _ rfl
  clear hb2 hx1 hx2
  go_wp2_with fail
  refine ((unhide HO) _).mono ?_
  rintro e w3 ⟨rfl, hb3⟩
  have hx3 := (hb3.block _ (lt_of_block (unhide HX2))).trans (unhide HX2)
  have HB3 := hide ((unhide HB2).trans (hb3.mono (unhide HB2).size))
  have hlt3 := lt_of_block hx3
  have r0 : w3.cell? ⟨w1.heap.size, 0, none⟩ = some (.int .i64 k) := cell_of hx3 0 _ rfl
  have r1 : w3.cell? ⟨w1.heap.size, 1, none⟩ = some (.int .i64 c) := cell_of hx3 1 _ rfl
  have r2 : w3.cell? ⟨w1.heap.size, 2, none⟩ = some (.int .i64 li) := cell_of hx3 2 _ rfl
  have r3 : w3.cell? ⟨w1.heap.size, 3, none⟩ = some (.int .i64 ln) := cell_of hx3 3 _ rfl
  have r4 : w3.cell? ⟨w1.heap.size, 4, none⟩ = some (.int .i64 sq) := cell_of hx3 4 _ rfl
  have r5 : w3.cell? ⟨w1.heap.size, 5, none⟩ = some (.int .i64 u) := cell_of hx3 5 _ rfl
  have r6 : w3.cell? ⟨w1.heap.size, 6, none⟩ = some (.int .i64 pa) := cell_of hx3 6 _ rfl
  have r7 : w3.cell? ⟨w1.heap.size, 7, none⟩ = some (.int .i64 o) := cell_of hx3 7 _ rfl
  have r8 : w3.cell? ⟨w1.heap.size, 8, none⟩ = some (.bool pl) := cell_of hx3 8 _ rfl
  have r9 : w3.cell? ⟨w1.heap.size, 9, none⟩ = some (.string (str body)) := cell_of hx3 9 _ rfl
  clear hb3 hx3 p0 p1 p2 p3 p4 p5 p6 p7 p8 p9 HX2 HB2 HS HO
  have hn0 : 13 ≤ L.length := by omega
  have hn1 : L.length ≤ 21 := by omega
  clear hsl hsI
  generalize hn : L.length = n at *
  have HN := hide hn
  clear hn
  obtain ⟨cap, W4, hcv, hrow, hb4⟩ := (unhide HCV) (w3.alloc (.cells #[.int .i64 k, .int .i64 c, .int .i64 li, .int .i64 ln, .int .i64 sq, .int .i64 u, .int .i64 pa, .int .i64 o, .bool pl, .string (str body)] 59))
  have hsz3 : (w3.alloc (.cells #[.int .i64 k, .int .i64 c, .int .i64 li, .int .i64 ln, .int .i64 sq, .int .i64 u, .int .i64 pa, .int .i64 o, .bool pl, .string (str body)] 59)).heap.size = w3.heap.size + 1 := by simp
  have HB4 := hide (((unhide HB3).alloc (unhide HB3).size (.cells #[.int .i64 k, .int .i64 c, .int .i64 li, .int .i64 ln, .int .i64 sq, .int .i64 u, .int .i64 pa, .int .i64 o, .bool pl, .string (str body)] 59)).trans (hb4.mono (by have := (unhide HB3).size; omega)))
  have HROW := hide hrow
  have HSZ := hide hrow.1
  have HPI := hide (fun (W : World) => pick_at at' n W (unhide HA) (by omega) (by omega))
  have HP2 := hide (fun (W : World) => pick_at by' 255 W (unhide HB) (by omega) (by omega))
  clear hrow hb4 hsz3 HCV
  go_wp2_with fail
  refine ((unhide HPI) _).mono ?_
  rintro e w5 ⟨⟨i, hi, rfl⟩, rfl⟩
  obtain ⟨x, hx⟩ : ∃ x, L[i]? = some x := ⟨_, List.getElem?_eq_getElem (by rw [unhide HN]; exact hi)⟩
  obtain ⟨hcx, hfx⟩ := (unhide HROW).2 i x hx
  have hsz3 : (w3.alloc (.cells #[.int .i64 k, .int .i64 c, .int .i64 li, .int .i64 ln, .int .i64 sq, .int .i64 u, .int .i64 pa, .int .i64 o, .bool pl, .string (str body)] 59)).heap.size = w3.heap.size + 1 := by simp
  rw [hsz3] at hcx hfx HROW HSZ
  have HX := hide hx
  have hiI : (i : Int) < (n : Int) := by omega
  have hxb := x.toNat_lt
  clear hsz3 hx hcv
  go_wp2_with fail
  go_region_with ((go_at_call 28; refine ((unhide HP2) _).mono ?_; rintro e w6 ⟨⟨j, hj, rfl⟩, rfl⟩))
  all_goals
    have hval : bits BinOp.xor IntKind.u8 (x.toNat : Int) (IntKind.u8.wrap (IntKind.i64.wrap (1 + (j : Int)))) = ((x ^^^ b8 (1 + (j : Int))).toNat : Int) := by
      have e1 : IntKind.i64.wrap (1 + (j : Int)) = 1 + (j : Int) := by rw [IntKind.wrap_i64]; omega
      have e2 : IntKind.u8.wrap (1 + (j : Int)) = ((b8 (1 + (j : Int))).toNat : Int) := by
        rw [b8_val (by omega) (by omega), wrap_u8]
        omega
      rw [e1, e2, xor_u8]
    rw [hval]
    have hd0 : b8 (1 + (j : Int)) ≠ 0 := by
      intro e
      have := b8_val (n := 1 + (j : Int)) (by omega) (by omega)
      rw [e] at this
      simp at this
      omega
    have hne := xor_ne x _ hd0
    clear hval hd0 hj
    generalize x ^^^ b8 (1 + (j : Int)) = x' at *
    have hro := ((unhide HROW).set i x').drew
    obtain ⟨W6, hW6⟩ : ∃ W6, (W4.setCell ⟨w3.heap.size + 1, i, none⟩ (.int .u8 (x'.toNat : Int))).drew = W6 := ⟨_, rfl⟩
    have HB6 : Hid (Below w.heap.size w W6) := by
      rw [← hW6]
      exact ((unhide HB4).setCell (by have := (unhide HB3).size; simp; omega) _).drew
    rw [hW6] at hro ⊢
    have HTN : Hid (readP (L.set i x') = none) := (unhide HTU) i x' hi (by
      rw [unhide HX]
      intro h
      exact hne (Option.some.inj h).symm)
    have hcb := (hro.alloc (.cells #[.int .i64 0, .int .i64 0, .int .i64 0, .int .i64 0, .int .i64 0, .int .i64 0, .int .i64 0, .int .i64 0, .bool false, .string ⟨#[]⟩] 59)).conv cap
    rw [List.length_set, unhide HN] at hcb
    have HO1 := hide (fun w => open_none (L.set i x') (unhide HTN) (by rw [List.length_set, unhide HN]; omega) w)
    generalize str (L.set i x') = T1 at *
    have HO2 := hide (fun w => open_none (L.take (n - 1)) (unhide HLE) (by rw [List.length_take]; omega) w)
    have HO3 := hide (fun w => open_none (L ++ [0]) (unhide HMO) (by rw [List.length_append, unhide HN, List.length_singleton]; omega) w)
    have hex : (str L).extract 0 (n - 1) = str (L.take (n - 1)) := by
      rw [str_extract, List.drop_zero, Nat.sub_zero]
    have hadd : ∀ w, (Op.stringOp .add (str L) ⟨#[0]⟩).run Try.prog w = .ok (.string (str (L ++ [0]))) w := fun w => by
      rw [← show str L ++ str [0] = str (L ++ [0]) from ByteArray.ext (by simp)]
      exact run_string_add_sum w _ _ (by rw [str_size, str_size, unhide HN]; simp; omega)
    have hn1' : ((n : Int) - 1).toNat = n - 1 := by omega
    have hex2 : (str L).extract 0 ((n : Int) - 1).toNat = str (L.take (n - 1)) := by rw [hn1']; exact hex
    clear hn1'
    generalize str (L.take (n - 1)) = T2 at *
    generalize str (L ++ [0]) = T3 at *
    generalize str L = SL at *
    have hnI : (13 : Int) ≤ (n : Int) ∧ (n : Int) ≤ 21 := by omega
    clear hcx hfx hxb hne hro hW6 HX HROW HTU HLE HMO HTN HB4 HP2 HPI
    go_wp2_with fail
    refine ((unhide HO1) _).mono ?_
    rintro e w8 ⟨rfl, hb8⟩
    have hz8 := (hb8.block W6.heap.size (by simp)).trans (heap_alloc_new W6 (.cells #[.int .i64 0, .int .i64 0, .int .i64 0, .int .i64 0, .int .i64 0, .int .i64 0, .int .i64 0, .int .i64 0, .bool false, .string ⟨#[]⟩] 59))
    have HB8 := hide (((unhide HB6).alloc (unhide HB6).size (.cells #[.int .i64 0, .int .i64 0, .int .i64 0, .int .i64 0, .int .i64 0, .int .i64 0, .int .i64 0, .int .i64 0, .bool false, .string ⟨#[]⟩] 59)).trans (hb8.mono (by have := (unhide HB6).size; simp; omega)))
    have hl8 := lt_of_block hz8
    clear hb8 hcb HO1 HB6
    have HZ8 := hide hz8
    clear hz8
    go_wp2_with fail
    refine ((unhide HO2) _).mono ?_
    rintro e w9 ⟨rfl, hb9⟩
    have hz9 := (hb9.block W6.heap.size (by simp; omega)).trans ((Below.heap_alloc w8 _ _ hl8).trans (unhide HZ8))
    have hx9 := (hb9.block w8.heap.size (by simp)).trans (heap_alloc_new w8 (.cells #[.int .i64 0, .int .i64 0, .int .i64 0, .int .i64 0, .int .i64 0, .int .i64 0, .int .i64 0, .int .i64 0, .bool false, .string ⟨#[]⟩] 59))
    have HB9 := hide (((unhide HB8).alloc (unhide HB8).size (.cells #[.int .i64 0, .int .i64 0, .int .i64 0, .int .i64 0, .int .i64 0, .int .i64 0, .int .i64 0, .int .i64 0, .bool false, .string ⟨#[]⟩] 59)).trans (hb9.mono (by have := (unhide HB8).size; simp; omega)))
    have hl9 := lt_of_block hz9
    have hm9 := lt_of_block hx9
    have HZ9 := hide hz9
    have HX9 := hide hx9
    clear hb9 HO2 HZ8 HB8 hz9 hx9
    go_wp2_with fail
    refine ((unhide HO3) _).mono ?_
    rintro e wA ⟨rfl, hbA⟩
    have hzA := (hbA.block W6.heap.size (by simp; omega)).trans ((Below.heap_alloc w9 _ _ hl9).trans (unhide HZ9))
    have hxA := (hbA.block w8.heap.size (by simp; omega)).trans ((Below.heap_alloc w9 _ _ hm9).trans (unhide HX9))
    have hyA := (hbA.block w9.heap.size (by simp)).trans (heap_alloc_new w9 (.cells #[.int .i64 0, .int .i64 0, .int .i64 0, .int .i64 0, .int .i64 0, .int .i64 0, .int .i64 0, .int .i64 0, .bool false, .string ⟨#[]⟩] 59))
    have HBA := hide (((unhide HB9).alloc (unhide HB9).size (.cells #[.int .i64 0, .int .i64 0, .int .i64 0, .int .i64 0, .int .i64 0, .int .i64 0, .int .i64 0, .int .i64 0, .bool false, .string ⟨#[]⟩] 59)).trans (hbA.mono (by have := (unhide HB9).size; simp; omega)))
    have lA := lt_of_block hzA
    have lB := lt_of_block hxA
    have lC := lt_of_block hyA
    clear hbA HO3 HZ9 HX9 HB9
    have z0 : wA.cell? ⟨W6.heap.size, 0, none⟩ = some (.int .i64 0) := cell_of hzA 0 _ rfl
    have z1 : wA.cell? ⟨W6.heap.size, 1, none⟩ = some (.int .i64 0) := cell_of hzA 1 _ rfl
    have z2 : wA.cell? ⟨W6.heap.size, 2, none⟩ = some (.int .i64 0) := cell_of hzA 2 _ rfl
    have z3 : wA.cell? ⟨W6.heap.size, 3, none⟩ = some (.int .i64 0) := cell_of hzA 3 _ rfl
    have z4 : wA.cell? ⟨W6.heap.size, 4, none⟩ = some (.int .i64 0) := cell_of hzA 4 _ rfl
    have z5 : wA.cell? ⟨W6.heap.size, 5, none⟩ = some (.int .i64 0) := cell_of hzA 5 _ rfl
    have z6 : wA.cell? ⟨W6.heap.size, 6, none⟩ = some (.int .i64 0) := cell_of hzA 6 _ rfl
    have z7 : wA.cell? ⟨W6.heap.size, 7, none⟩ = some (.int .i64 0) := cell_of hzA 7 _ rfl
    have z8 : wA.cell? ⟨W6.heap.size, 8, none⟩ = some (.bool false) := cell_of hzA 8 _ rfl
    have z9 : wA.cell? ⟨W6.heap.size, 9, none⟩ = some (.string ⟨#[]⟩) := cell_of hzA 9 _ rfl
    have x0 : wA.cell? ⟨w8.heap.size, 0, none⟩ = some (.int .i64 0) := cell_of hxA 0 _ rfl
    have x1 : wA.cell? ⟨w8.heap.size, 1, none⟩ = some (.int .i64 0) := cell_of hxA 1 _ rfl
    have x2 : wA.cell? ⟨w8.heap.size, 2, none⟩ = some (.int .i64 0) := cell_of hxA 2 _ rfl
    have x3 : wA.cell? ⟨w8.heap.size, 3, none⟩ = some (.int .i64 0) := cell_of hxA 3 _ rfl
    have x4 : wA.cell? ⟨w8.heap.size, 4, none⟩ = some (.int .i64 0) := cell_of hxA 4 _ rfl
    have x5 : wA.cell? ⟨w8.heap.size, 5, none⟩ = some (.int .i64 0) := cell_of hxA 5 _ rfl
    have x6 : wA.cell? ⟨w8.heap.size, 6, none⟩ = some (.int .i64 0) := cell_of hxA 6 _ rfl
    have x7 : wA.cell? ⟨w8.heap.size, 7, none⟩ = some (.int .i64 0) := cell_of hxA 7 _ rfl
    have x8 : wA.cell? ⟨w8.heap.size, 8, none⟩ = some (.bool false) := cell_of hxA 8 _ rfl
    have x9 : wA.cell? ⟨w8.heap.size, 9, none⟩ = some (.string ⟨#[]⟩) := cell_of hxA 9 _ rfl
    have y0 : wA.cell? ⟨w9.heap.size, 0, none⟩ = some (.int .i64 0) := cell_of hyA 0 _ rfl
    have y1 : wA.cell? ⟨w9.heap.size, 1, none⟩ = some (.int .i64 0) := cell_of hyA 1 _ rfl
    have y2 : wA.cell? ⟨w9.heap.size, 2, none⟩ = some (.int .i64 0) := cell_of hyA 2 _ rfl
    have y3 : wA.cell? ⟨w9.heap.size, 3, none⟩ = some (.int .i64 0) := cell_of hyA 3 _ rfl
    have y4 : wA.cell? ⟨w9.heap.size, 4, none⟩ = some (.int .i64 0) := cell_of hyA 4 _ rfl
    have y5 : wA.cell? ⟨w9.heap.size, 5, none⟩ = some (.int .i64 0) := cell_of hyA 5 _ rfl
    have y6 : wA.cell? ⟨w9.heap.size, 6, none⟩ = some (.int .i64 0) := cell_of hyA 6 _ rfl
    have y7 : wA.cell? ⟨w9.heap.size, 7, none⟩ = some (.int .i64 0) := cell_of hyA 7 _ rfl
    have y8 : wA.cell? ⟨w9.heap.size, 8, none⟩ = some (.bool false) := cell_of hyA 8 _ rfl
    have y9 : wA.cell? ⟨w9.heap.size, 9, none⟩ = some (.string ⟨#[]⟩) := cell_of hyA 9 _ rfl
    clear hzA hxA hyA
    go_wp2
    go_ret
    exact ⟨rfl, (unhide HBA).alloc (unhide HBA).size _⟩
end Go.Proofs.Ytblomippkddgiaa
