/-
  The landed code's writer of a packet.
-/
import Derived.Test.YtblomippkddgiaaRow
namespace Go.Proofs.Ytblomippkddgiaa
open Go.RowKit

theorem own_four (w1 : World) (B : Nat) (hB : B ≤ w1.heap.size) (k c li ln : Int) (q1 : 0 ≤ k ∧ k ≤ 255) (q2 : 0 ≤ c ∧ c ≤ 255) (q3 : 0 ≤ li ∧ li ≤ 255) (q4 : 0 ≤ ln ∧ ln ≤ 255) :
    Own (w1.alloc (.cells #[.int .u8 k, .int .u8 c, .int .u8 li, .int .u8 ln] 5)) B (.slice (some ⟨w1.heap.size, 0, none⟩) 4 4) [b8 k, b8 c, b8 li, b8 ln] := by
  have h := World.ownsRow_lit (base := B) (e := 5) (size := 1) w1 #[.int .u8 k, .int .u8 c, .int .u8 li, .int .u8 ln] 4 hB (by unfold maxLen; omega) rfl
  have e : u8s [b8 k, b8 c, b8 li, b8 ln] = [.int .u8 k, .int .u8 c, .int .u8 li, .int .u8 ln] := by
    unfold u8s
    simp only [List.map_cons, List.map_nil, b8_val q1.1 q1.2, b8_val q2.1 q2.2, b8_val q3.1 q3.2, b8_val q4.1 q4.2]
  unfold Own
  rw [e]
  exact h
theorem five_cells (u pa o n m : Int) (q1 : 0 ≤ u ∧ u ≤ 255) (q2 : 0 ≤ pa ∧ pa ≤ 255) (q3 : 0 ≤ o ∧ o ≤ 255) (q4 : 0 ≤ n ∧ n ≤ 255) (q5 : 0 ≤ m ∧ m ≤ 255) : u8s [b8 u, b8 pa, b8 o, b8 n, b8 m] = [.int .u8 u, .int .u8 pa, .int .u8 o, .int .u8 n, .int .u8 m] := by
  unfold u8s
  simp only [List.map_cons, List.map_nil, b8_val q1.1 q1.2, b8_val q2.1 q2.2, b8_val q3.1 q3.2, b8_val q4.1 q4.2, b8_val q5.1 q5.2]

theorem wrap_u8 (n : Int) : IntKind.u8.wrap n = n % 256 := by
  simp [IntKind.wrap, IntKind.bits, IntKind.signed]

def writePost (p : Pk) (w : World) (e : Ending) (w' : World) : Prop := Below w.heap.size w w' ∧ ((RightP p ∧ e = .returned (.string (str (sealB p)))) ∨ (¬ RightP p ∧ e = gaveUp 7 0))

set_option maxRecDepth 100000 in
set_option maxHeartbeats 2000000 in
theorem write_any (p : Pk) (w : World) : Calls Try.prog 46 #[pv p] w (writePost p w) := by
  obtain ⟨post, hpost⟩ : ∃ post, post = writePost p w := ⟨_, rfl⟩
  have HNO : Hid (∀ w', Below w.heap.size w w' → ¬ RightP p → post (gaveUp 7 0) w') := by
    rw [hpost]
    exact fun w' hb hr => ⟨hb, Or.inr ⟨hr, rfl⟩⟩
  have HYES : Hid (∀ w', Below w.heap.size w w' → RightP p → post (.returned (.string (str (sealB p)))) w') := by
    rw [hpost]
    exact fun w' hb hr => ⟨hb, Or.inl ⟨hr, rfl⟩⟩
  rw [← hpost]
  clear hpost
  have HRT := hide (fun w => right_any p w)
  have HLE := hide (fun h : RightP p => body_le h)
  have HWH := hide (fun h : RightP p => h)
  have HSB : Hid (sealB p = headB p ++ two8 (crcI (headB p))) := rfl
  have HHB : Hid (headB p = [b8 p.kind, b8 p.client, b8 p.life, b8 p.line] ++ two8 p.seq ++ [b8 p.uid, b8 p.part, b8 p.off, b8 (yes p.please), b8 (p.body.length : Int)] ++ p.body) := rfl
  obtain ⟨k, c, li, ln, sq, u, pa, o, pl, body⟩ := p
  go_enter Try.func46, Try.ntmps46
  go_wp2_with fail
  refine ((unhide HRT) _).mono ?_
  rintro e w1 ⟨hb1, ⟨hrt, rfl⟩ | ⟨hnr, rfl⟩⟩
  · have hs1 := hb1.size
    have hbx := (hb1.block w.heap.size (by simp)).trans (heap_alloc_new w _)
    have HB1 := hide (((Below.refl w.heap.size w).alloc (Nat.le_refl _) (.cells #[.int .i64 k, .int .i64 c, .int .i64 li, .int .i64 ln, .int .i64 sq, .int .i64 u, .int .i64 pa, .int .i64 o, .bool pl, .string (str body)] 59)).trans (hb1.mono (by simp)))
    have hbl := (unhide HLE) hrt
    simp at hs1 hbl
    have HRR := hide hrt
    obtain ⟨b1, b2, b3, b4, b5, b6, b7, b8', _⟩ := hrt
    simp only at b1 b2 b3 b4 b5 b6 b7 b8'
    have q1 : 0 ≤ k ∧ k ≤ 255 := by omega
    have q2 : 0 ≤ c ∧ c ≤ 255 := by omega
    have q3 : 0 ≤ li ∧ li ≤ 255 := by omega
    have q4 : 0 ≤ ln ∧ ln ≤ 255 := by omega
    have q6 : 0 ≤ u ∧ u ≤ 255 := by omega
    have q7 : 0 ≤ pa ∧ pa ≤ 255 := by omega
    have q8 : 0 ≤ o ∧ o ≤ 255 := by omega
    have e0 : w1.cell? ⟨w.heap.size, 0, none⟩ = some (.int .i64 k) := cell_of hbx 0 _ rfl
    have e1 : w1.cell? ⟨w.heap.size, 1, none⟩ = some (.int .i64 c) := cell_of hbx 1 _ rfl
    have e2 : w1.cell? ⟨w.heap.size, 2, none⟩ = some (.int .i64 li) := cell_of hbx 2 _ rfl
    have e3 : w1.cell? ⟨w.heap.size, 3, none⟩ = some (.int .i64 ln) := cell_of hbx 3 _ rfl
    have e4 : w1.cell? ⟨w.heap.size, 4, none⟩ = some (.int .i64 sq) := cell_of hbx 4 _ rfl
    have hcl : w.heap.size < w1.heap.size := by omega
    have HBX := hide hbx
    clear hbx hb1
    go_wp2_with fail
    refine (appendTwo_any (w.heap.size + 1) _ _ sq _ (own_four w1 (w.heap.size + 1) (by omega) k c li ln q1 q2 q3 q4) (by simp; omega) (by simp) (by omega)).mono ?_
    rintro e w2 ⟨O2, rfl, hown2, hb2⟩
    have hs2 := hb2.size
    simp at hs2
    have hbx2 := (hb2.block w.heap.size (by omega)).trans ((Below.heap_alloc w1 _ _ hcl).trans (unhide HBX))
    obtain ⟨o2a, o2n, o2c, hO2⟩ := row_shape hown2
    subst hO2
    have hlt2 := fun k => World.ownsRow.lt hown2 k
    have HLT2 := hide hlt2
    have HB2 := hide (((unhide HB1).alloc (by omega) (.cells #[.int .u8 k, .int .u8 c, .int .u8 li, .int .u8 ln] 5)).trans (hb2.mono (by omega)))
    have e5 : w2.cell? ⟨w.heap.size, 5, none⟩ = some (.int .i64 u) := cell_of hbx2 5 _ rfl
    have e6 : w2.cell? ⟨w.heap.size, 6, none⟩ = some (.int .i64 pa) := cell_of hbx2 6 _ rfl
    have e7 : w2.cell? ⟨w.heap.size, 7, none⟩ = some (.int .i64 o) := cell_of hbx2 7 _ rfl
    have e8 : w2.cell? ⟨w.heap.size, 8, none⟩ = some (.bool pl) := cell_of hbx2 8 _ rfl
    have e9 : w2.cell? ⟨w.heap.size, 9, none⟩ = some (.string (str body)) := cell_of hbx2 9 _ rfl
    have HBX2 := hide hbx2
    have HOW2 := hide hown2
    have hcl2 : w.heap.size < w2.heap.size := by omega
    have HZO := hide zeroOrOne_any
    have hne : ¬ w2.heap.size = w.heap.size := by omega
    obtain ⟨i0, hi, hz0, hz1, hz2⟩ := info_parts info5
    have qs : 0 ≤ (body.length : Int) ∧ (body.length : Int) ≤ 255 := by omega
    have wu : IntKind.u8.wrap u = u := by rw [wrap_u8]; omega
    have wpa : IntKind.u8.wrap pa = pa := by rw [wrap_u8]; omega
    have wo : IntKind.u8.wrap o = o := by rw [wrap_u8]; omega
    have wl : IntKind.u8.wrap (body.length : Int) = (body.length : Int) := by rw [wrap_u8]; omega
    have qy : 0 ≤ yes pl ∧ yes pl ≤ 255 := by unfold yes; split <;> omega
    generalize hYP : yes pl = Y at *
    have HN := cells_lit w2 (u8s [b8 u, b8 pa, b8 o, b8 Y, b8 (body.length : Int)])
    rw [five_cells u pa o Y (body.length : Int) q6 q7 q8 qy qs] at HN
    have HNN := hide HN
    have HF5 := hide (five_cells u pa o Y (body.length : Int) q6 q7 q8 qy qs)
    have HGR : Hid (∀ (o5 : Obj) (wz : World), ((w2.alloc o5).drew).grownBy wz (Value.slice o2a o2n o2c).ownBlock → Below (w.heap.size + 1) w2 wz ∧ wz.heap[w.heap.size]? = w2.heap[w.heap.size]?) := by
      intro o5 wz hg
      have h := ((Below.refl (w.heap.size + 1) w2).alloc (by omega) o5).drew.grown hg (by simp; omega) (fun k hk => (hlt2 k hk).1)
      exact ⟨h, h.block _ (by omega)⟩
    clear HN hbx2 hown2 hb2 hlt2 e0 e1 e2 e3 e4 HRT HLE HBX HB1
    go_wp2
    go_region_held3 (fun w' => w'.cell? ⟨w.heap.size, 5, none⟩ = some (.int .i64 u) ∧ w'.cell? ⟨w.heap.size, 6, none⟩ = some (.int .i64 pa) ∧ w'.cell? ⟨w.heap.size, 7, none⟩ = some (.int .i64 o) ∧ w'.cell? ⟨w.heap.size, 8, none⟩ = some (.bool pl) ∧ w'.cell? ⟨w.heap.size, 9, none⟩ = some (.string (str body))) (go_keep)
      (first
        | (go_at_call 65; refine ((unhide HZO) _ _).mono ?_; rintro e w' ⟨rfl, rfl⟩)
        | (refine step_append_own rfl (.tmp 23) (.tmp 40) 67 rfl (w.heap.size + 1) 5 i0 (.int .u8 0) 1 1 Try.underlying67 hi hz0 hz1 hz2 rfl (by decide) (.slice o2a o2n o2c) 6 (u8s ([b8 k, b8 c, b8 li, b8 ln] ++ two8 sq)) rfl (by exact (unhide HOW2).alloc _) ⟨w2.heap.size, 0, none⟩ 5 5 [.int .u8 u, .int .u8 pa, .int .u8 o, .int .u8 Y, .int .u8 (body.length : Int)] rfl rfl (by first | exact (unhide HNN) | (rw [wu, wpa, wo, wl]; exact (unhide HNN))) (by rw [← unhide HF5]; exact u8s_one _) (by unfold maxLen; omega) (by omega) (by simp; omega) ?_; intro v' wz hown hgrow hat; obtain ⟨va, vn, vc, hvs⟩ := row_shape hown; subst hvs; have hgg := (unhide HGR) _ _ hgrow; obtain ⟨hbz, hkz⟩ := hgg; have hbxz := hkz.trans (unhide HBX2); have f5 := cell_of hbxz 5 _ rfl; have f6 := cell_of hbxz 6 _ rfl; have f7 := cell_of hbxz 7 _ rfl; have f8 := cell_of hbxz 8 _ rfl; have f9 := cell_of hbxz 9 _ rfl; have HOZ := hide hown; have HBZ := hide hbz; clear hown hgrow hat hbz hkz hbxz))
    have hown3 := unhide HOZ
    rw [← unhide HF5] at hown3
    have hown3' : Own wz (w.heap.size + 1) (.slice va vn vc) ([b8 k, b8 c, b8 li, b8 ln] ++ two8 sq ++ [b8 u, b8 pa, b8 o, b8 Y, b8 (body.length : Int)]) := Own.push hown3
    have HOW3 := hide hown3'
    have hlt3 := fun k => World.ownsRow.lt hown3' k
    have HLT3 := hide hlt3
    have hsz3 := (unhide HBZ).size
    have HB3 := hide ((unhide HB2).trans ((unhide HBZ).mono (by omega : w.heap.size ≤ w.heap.size + 1)))
    have g9 : wz.cell? ⟨w.heap.size, 9, none⟩ = some (.string (str body)) := f9
    obtain ⟨acc, hacc⟩ : ∃ acc, acc = [b8 k, b8 c, b8 li, b8 ln] ++ two8 sq ++ [b8 u, b8 pa, b8 o, b8 Y, b8 (body.length : Int)] := ⟨_, rfl⟩
    have hal : acc.length = 11 := by rw [hacc]; rfl
    rw [← hacc] at HOW3
    have HACC := hide hacc
    have hsb : (str body).size = body.length := str_size body
    have HSC : Hid (Lib.strCells (str body) = u8s body) := rfl
    clear hown3 hown3' HOZ f5 f6 f7 f8 f9 e5 e6 e7 e8 e9 HNN HF5 HGR HOW2 HLT2 HBZ HBX2 HB2 HZO hlt3 hacc
    go_wp2_with (at_builtin; go_must (refine Lib.wpList_append_own_string _ rfl (.tmp 42) (.tmp 44) 67 9 rfl (w.heap.size + 1) 5 i0 Try.underlying67 Try.underlying9 hi hz0 hz1 hz2 (.slice va vn vc) acc.length (u8s acc) rfl (by exact unhide HOW3) (str body) rfl (by unfold maxLen; omega) (by omega) (by omega) ?_))
    intro O4 w4 hown4 hgrow4 _
    obtain ⟨o4a, o4n, o4c, hO4⟩ := row_shape hown4
    subst hO4
    have hbl4 := (Below.refl (w.heap.size + 1) wz).grown hgrow4 (by omega) (fun k hk => ((unhide HLT3) k hk).1)
    have hs4 := hbl4.size
    have HB4 := hide ((unhide HB3).trans (hbl4.mono (by omega : w.heap.size ≤ w.heap.size + 1)))
    rw [unhide HSC] at hown4
    have hown4' : Own w4 (w.heap.size + 1) (.slice o4a o4n o4c) (acc ++ body) := Own.push (by rw [hal]; exact hown4)
    have hhd : acc ++ body = headB ⟨k, c, li, ln, sq, u, pa, o, pl, body⟩ := by rw [unhide HACC, unhide HHB]
    rw [hhd] at hown4'
    have hhl : (headB ⟨k, c, li, ln, sq, u, pa, o, pl, body⟩).length ≤ 1000 := by rw [← hhd, List.length_append]; omega
    generalize hHH : headB ⟨k, c, li, ln, sq, u, pa, o, pl, body⟩ = H at *
    have hcv := hown4'.conv
    have H6 := hide (fun w => sixteen_any H w (by omega))
    have hcd : ((crc H).toNat : Int) = crcI H := rfl
    rw [hcd] at H6
    have H7 := hide (appendTwo_any (w.heap.size + 1) _ H (crcI H) w4 hown4' (by omega) hhl (crcI_lt H))
    generalize hC : crcI H = C at *
    clear hown4 hown4' hgrow4 hbl4 HB3 HOW3 HLT3 g9 hhd hcd
    generalize hSH : str H = SH at *
    go_wp2_with fail
    refine ((unhide H6) _).mono ?_
    rintro e w5 ⟨rfl, rfl⟩
    go_wp2_with fail
    refine (unhide H7).mono ?_
    rintro e w6 ⟨O6, rfl, hown6, hb6⟩
    obtain ⟨o6a, o6n, o6c, hO6⟩ := row_shape hown6
    subst hO6
    have hcv6 := hown6.conv
    have HB6 := hide ((unhide HB4).trans (hb6.mono (by omega : w.heap.size ≤ w.heap.size + 1)))
    clear hown6 hb6 hcv
    have HY := (unhide HYES)
    rw [unhide HSB] at HY
    have HY' := hide HY
    clear HY HYES HNO HSB HHB
    generalize hST : str (H ++ two8 C) = ST at *
    go_wp2
    exact (unhide HY') _ (unhide HB6) (unhide HRR)
  · go_wp2
    exact ⟨rfl, (unhide HNO) _ (((Below.refl _ _).alloc (Nat.le_refl _) _).trans (hb1.mono (by simp))) hnr⟩
end Go.Proofs.Ytblomippkddgiaa
