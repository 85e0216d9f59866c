/-
  Joined: VReads4 VReads5 VReaderC.
-/
import Derived.Test.YtblomippkddgiaaGreatDoorJ19
/-
  The landed code's reader of bytes: a number and a string are read.
-/
namespace Go.Proofs.YtblomippkddgiaaGreatDoor.V
open Go.RowKit

set_option maxRecDepth 100000 in
set_option maxHeartbeats 2000000 in
theorem rnumber_ok (w0 w : World) (l : List UInt8) (O : Value) (v : List It) (lo hi n' : Int) (n : Nat) (hn : n < 65536) (hn' : n' = turned lo hi n) (hok : ¬ n' < lo ∧ ¬ hi < n') (hv : v.length ≤ 100000)
    (H : Calls Tryz.prog 114 #[.pointer (some ⟨w0.heap.size, 0, none⟩)] w fun e w' => e = .returned (.int .i64 n) ∧ RS w0 w' l O v ∧ Wk w0.heap.size O O w w') :
    Calls Tryz.prog 285 #[.pointer (some ⟨w0.heap.size, 0, none⟩), .int .i64 lo, .int .i64 hi] w fun e w' => e = .returned (.int .i64 n') ∧ ∃ O', RS w0 w' l O' (v ++ [(n', ⟨#[]⟩)]) ∧ Wk w0.heap.size O O' w w' := by
  have HH := hide H
  clear H
  obtain ⟨h3, h4⟩ := hok
  obtain ⟨i0, hi0, hz0, hz1, hz2⟩ := info_parts info31
  have hcase : (lo < 0 ∧ hi < (n : Int) ∧ n' = (n : Int) - 65536) ∨ (lo < 0 ∧ ¬ hi < (n : Int) ∧ n' = (n : Int)) ∨ (¬ lo < 0 ∧ n' = (n : Int)) := by
    unfold turned at hn'
    split at hn' <;> omega
  clear hn'
  rcases hcase with ⟨h1, h2, rfl⟩ | ⟨h1, h2, rfl⟩ | ⟨h1, rfl⟩
  all_goals
    go_enter Tryz.func285, Tryz.ntmps285
    go_wp2_with fail
    refine (unhide HH).mono ?_
    rintro e w1 ⟨rfl, hrs, hwk⟩
    obtain ⟨oa, on, oc, hsh⟩ := row_shape hrs.own
    subst hsh
    have hO := hrs.rd.items
    have how := hrs.own
    have hlt := hrs.rd.lt
    have HRS := hide hrs
    have HWK := hide hwk
    clear hrs hwk
  · go_wp2_with (at_builtin; refine wpList_append_own_at _ rfl (.tmp 37) (.tmp 40) 44 rfl (w0.heap.size + 1) 106 i0 _ 2 24 Tryz.underlying44 hi0 hz0 hz1 hz2 rfl (by decide) _ v.length (flat v) rfl (by exact how.alloc _) ⟨w1.heap.size, 0, none⟩ 1 1 [.int .i64 ((n : Int) - 65536), .string ⟨#[]⟩] rfl rfl (by exact cells_pair w1 ((n : Int) - 65536, ⟨#[]⟩)) (by exact pair_one ((n : Int) - 65536, ⟨#[]⟩)) (by unfold maxLen; omega) (by omega) (by simp; omega) ?_)
    intro O1 w2 hown hgrow _ hat
    obtain ⟨ta, tn, tc, hts⟩ := row_shape hown
    subst hts
    obtain ⟨hrd, hrs2, hwk2⟩ := rs_push (x := ((n : Int) - 65536, ⟨#[]⟩)) (unhide HRS) hown hgrow (by simpa using hat)
    have k1 := hrd.items
    have k2 := hrd.thaw 2
    have HR2 := hide hrs2
    have HK2 := hide ((unhide HWK).trans hwk2)
    clear hown hgrow hat hrd hrs2 hwk2 how hO
    go_wp2
    go_ret
    exact ⟨rfl, _, unhide HR2, unhide HK2⟩
  · go_wp2_with (at_builtin; refine wpList_append_own_at _ rfl (.tmp 37) (.tmp 40) 44 rfl (w0.heap.size + 1) 106 i0 _ 2 24 Tryz.underlying44 hi0 hz0 hz1 hz2 rfl (by decide) _ v.length (flat v) rfl (by exact how.alloc _) ⟨w1.heap.size, 0, none⟩ 1 1 [.int .i64 (n : Int), .string ⟨#[]⟩] rfl rfl (by exact cells_pair w1 ((n : Int), ⟨#[]⟩)) (by exact pair_one ((n : Int), ⟨#[]⟩)) (by unfold maxLen; omega) (by omega) (by simp; omega) ?_)
    intro O1 w2 hown hgrow _ hat
    obtain ⟨ta, tn, tc, hts⟩ := row_shape hown
    subst hts
    obtain ⟨hrd, hrs2, hwk2⟩ := rs_push (x := ((n : Int), ⟨#[]⟩)) (unhide HRS) hown hgrow (by simpa using hat)
    have k1 := hrd.items
    have k2 := hrd.thaw 2
    have HR2 := hide hrs2
    have HK2 := hide ((unhide HWK).trans hwk2)
    clear hown hgrow hat hrd hrs2 hwk2 how hO
    go_wp2
    go_ret
    exact ⟨rfl, _, unhide HR2, unhide HK2⟩
  · go_wp2_with (at_builtin; refine wpList_append_own_at _ rfl (.tmp 37) (.tmp 40) 44 rfl (w0.heap.size + 1) 106 i0 _ 2 24 Tryz.underlying44 hi0 hz0 hz1 hz2 rfl (by decide) _ v.length (flat v) rfl (by exact how.alloc _) ⟨w1.heap.size, 0, none⟩ 1 1 [.int .i64 (n : Int), .string ⟨#[]⟩] rfl rfl (by exact cells_pair w1 ((n : Int), ⟨#[]⟩)) (by exact pair_one ((n : Int), ⟨#[]⟩)) (by unfold maxLen; omega) (by omega) (by simp; omega) ?_)
    intro O1 w2 hown hgrow _ hat
    obtain ⟨ta, tn, tc, hts⟩ := row_shape hown
    subst hts
    obtain ⟨hrd, hrs2, hwk2⟩ := rs_push (x := ((n : Int), ⟨#[]⟩)) (unhide HRS) hown hgrow (by simpa using hat)
    have k1 := hrd.items
    have k2 := hrd.thaw 2
    have HR2 := hide hrs2
    have HK2 := hide ((unhide HWK).trans hwk2)
    clear hown hgrow hat hrd hrs2 hwk2 how hO
    go_wp2
    go_ret
    exact ⟨rfl, _, unhide HR2, unhide HK2⟩

set_option maxRecDepth 100000 in
set_option maxHeartbeats 1000000 in
theorem rtext_none (w0 w : World) (H : Calls Tryz.prog 114 #[.pointer (some ⟨w0.heap.size, 0, none⟩)] w fun e w' => e = gaveUp 6 0 ∧ Below w0.heap.size w0 w') :
    Calls Tryz.prog 286 #[.pointer (some ⟨w0.heap.size, 0, none⟩)] w fun e w' => e = gaveUp 6 0 ∧ Below w0.heap.size w0 w' := by
  have HH := hide H
  clear H
  go_enter Tryz.func286, Tryz.ntmps286
  go_wp2_with fail
  refine (unhide HH).mono ?_
  rintro e w1 ⟨rfl, hb⟩
  go_wp2
  exact ⟨rfl, rfl, hb⟩

set_option maxRecDepth 100000 in
set_option maxHeartbeats 1000000 in
theorem rtext_long (w0 w : World) (l : List UInt8) (O : Value) (v : List It) (n : Nat) (hn : ¬ n ≤ 14)
    (H : Calls Tryz.prog 114 #[.pointer (some ⟨w0.heap.size, 0, none⟩)] w fun e w' => e = .returned (.int .i64 n) ∧ RS w0 w' l O v ∧ Wk w0.heap.size O O w w') :
    Calls Tryz.prog 286 #[.pointer (some ⟨w0.heap.size, 0, none⟩)] w fun e w' => e = gaveUp 6 0 ∧ Below w0.heap.size w0 w' := by
  have HH := hide H
  have h14 : (14 : Int) < (n : Int) := by omega
  clear H hn
  go_enter Tryz.func286, Tryz.ntmps286
  go_wp2_with fail
  refine (unhide HH).mono ?_
  rintro e w1 ⟨rfl, hrs, _⟩
  have hb := hrs.below
  have HR := hide (refuse_any w0.heap.size l O w1 hrs.rd)
  clear hrs
  go_wp2_with fail
  refine (unhide HR).mono ?_
  rintro e w2 ⟨rfl, rfl⟩
  go_wp2
  exact ⟨rfl, rfl, hb⟩

set_option maxRecDepth 100000 in
set_option maxHeartbeats 1000000 in
theorem rtext_short (w0 w : World) (l : List UInt8) (O : Value) (v : List It) (n : Nat) (hn : n ≤ 14) (hs : ¬ n ≤ l.length)
    (H : Calls Tryz.prog 114 #[.pointer (some ⟨w0.heap.size, 0, none⟩)] w fun e w' => e = .returned (.int .i64 n) ∧ RS w0 w' l O v ∧ Wk w0.heap.size O O w w') :
    Calls Tryz.prog 286 #[.pointer (some ⟨w0.heap.size, 0, none⟩)] w fun e w' => e = gaveUp 6 0 ∧ Below w0.heap.size w0 w' := by
  have HH := hide H
  have h14 : ¬ (14 : Int) < (n : Int) := by omega
  clear H
  go_enter Tryz.func286, Tryz.ntmps286
  go_wp2_with fail
  refine (unhide HH).mono ?_
  rintro e w1 ⟨rfl, hrs, _⟩
  have hb := hrs.below
  have HT := hide (take_no w0.heap.size l O n w1 hrs.rd hs)
  clear hrs
  go_wp2_with fail
  refine (unhide HT).mono ?_
  rintro e w2 ⟨rfl, hb2⟩
  go_wp2
  exact ⟨rfl, rfl, hb.trans (hb2.mono hb.size)⟩

end Go.Proofs.YtblomippkddgiaaGreatDoor.V
/-
  The landed code's reader of bytes: a string is read.
-/
namespace Go.Proofs.YtblomippkddgiaaGreatDoor.V
open Go.RowKit

set_option maxRecDepth 100000 in
set_option maxHeartbeats 2000000 in
theorem rtext_even (w0 w : World) (l : List UInt8) (O : Value) (v : List It) (n : Nat) (hn : n ≤ 14) (hs : n ≤ l.length) (hl : l.length ≤ 500) (hv : v.length ≤ 100000) (he : n % 2 = 0)
    (H : Calls Tryz.prog 114 #[.pointer (some ⟨w0.heap.size, 0, none⟩)] w fun e w' => e = .returned (.int .i64 n) ∧ RS w0 w' l O v ∧ Wk w0.heap.size O O w w') :
    Calls Tryz.prog 286 #[.pointer (some ⟨w0.heap.size, 0, none⟩)] w fun e w' => e = .returned (.tuple #[]) ∧ ∃ O', RS w0 w' (l.drop n) O' (v ++ [(0, str (l.take n))]) ∧ Wk w0.heap.size O O' w w' := by
  have HH := hide H
  have h14 : ¬ (14 : Int) < (n : Int) := by omega
  have HOD := hide (fun w => isOdd_any n w hn)
  rw [show (n % 2 == 1) = false by simp [he]] at HOD
  have hcl : (l.take n).length ≤ 1000 := by rw [List.length_take]; omega
  have HC := hide (fun w => clone_any (l.take n) w hcl)
  obtain ⟨i0, hi0, hz0, hz1, hz2⟩ := info_parts info31
  clear H
  go_enter Tryz.func286, Tryz.ntmps286
  go_wp2_with fail
  refine (unhide HH).mono ?_
  rintro e w1 ⟨rfl, hrs, hwk⟩
  have HT := hide (take_ok w0.heap.size l O n w1 hrs.rd hs (by omega))
  obtain ⟨hrs1, hwk1⟩ := hrs.took (l.drop n)
  have HRS := hide hrs1
  have HWK := hide (hwk.trans hwk1)
  clear hrs hwk hrs1 hwk1 HH
  generalize hSS : str (l.take n) = S at *
  go_wp2_with fail
  refine (unhide HT).mono ?_
  rintro e w2 ⟨rfl, rfl⟩
  generalize w1.setCell { block := w0.heap.size, off := 0 } (.string (str (l.drop n))) = W2 at *
  go_wp2_with fail
  refine ((unhide HC) _).mono ?_
  rintro e w3 ⟨rfl, hb3⟩
  have hrs3 := (unhide HRS).go hb3
  have HWK3 := hide ((unhide HWK).trans (Wk.of_below hb3))
  clear hb3 HRS HWK HT HC
  go_wp2_with fail
  refine ((unhide HOD) _).mono ?_
  rintro e w4 ⟨rfl, rfl⟩
  obtain ⟨oa, on, oc, hsh⟩ := row_shape hrs3.own
  subst hsh
  have hO := hrs3.rd.items
  have how := hrs3.own
  have hlt := hrs3.rd.lt
  have HRS := hide hrs3
  clear hrs3
  go_wp2_with (at_builtin; refine wpList_append_own_at _ rfl (.tmp 37) (.tmp 40) 44 rfl (w0.heap.size + 1) 106 i0 _ 2 24 Tryz.underlying44 hi0 hz0 hz1 hz2 rfl (by decide) _ v.length (flat v) rfl (by exact how.alloc _) ⟨w4.heap.size, 0, none⟩ 1 1 [.int .i64 0, .string S] rfl rfl (by exact cells_pair w4 (0, S)) (by exact pair_one (0, S)) (by unfold maxLen; omega) (by omega) (by simp; omega) ?_)
  intro O1 w5 hown hgrow _ hat
  obtain ⟨ta, tn, tc, hts⟩ := row_shape hown
  subst hts
  obtain ⟨hrd, hrs2, hwk2⟩ := rs_push (x := (0, S)) (unhide HRS) hown hgrow (by simpa using hat)
  have k1 := hrd.items
  have k2 := hrd.thaw 2
  have HR2 := hide hrs2
  have HK2 := hide ((unhide HWK3).trans hwk2)
  clear hown hgrow hat hrd hrs2 hwk2 how hO
  go_wp2
  go_end0
  rw [hSS]
  exact ⟨rfl, _, unhide HR2, unhide HK2⟩

set_option maxRecDepth 100000 in
set_option maxHeartbeats 1000000 in
theorem rtext_end (w0 w : World) (l : List UInt8) (O : Value) (v : List It) (n : Nat) (hn : n ≤ 14) (hs : n = l.length) (hl : l.length ≤ 500) (he : n % 2 = 1)
    (H : Calls Tryz.prog 114 #[.pointer (some ⟨w0.heap.size, 0, none⟩)] w fun e w' => e = .returned (.int .i64 n) ∧ RS w0 w' l O v ∧ Wk w0.heap.size O O w w') :
    Calls Tryz.prog 286 #[.pointer (some ⟨w0.heap.size, 0, none⟩)] w fun e w' => e = gaveUp 6 0 ∧ Below w0.heap.size w0 w' := by
  have HH := hide H
  have h14 : ¬ (14 : Int) < (n : Int) := by omega
  have HOD := hide (fun w => isOdd_any n w hn)
  rw [show (n % 2 == 1) = true by simp [he]] at HOD
  have hcl : (l.take n).length ≤ 1000 := by rw [List.length_take]; omega
  have HC := hide (fun w => clone_any (l.take n) w hcl)
  have HSL := hide hs
  have HLL := hide hl
  clear H hs hl he hcl
  go_enter Tryz.func286, Tryz.ntmps286
  go_wp2_with fail
  refine (unhide HH).mono ?_
  rintro e w1 ⟨rfl, hrs, hwk⟩
  have HT := hide (take_ok w0.heap.size l O n w1 hrs.rd (by have := unhide HSL; omega) (by have := unhide HLL; omega))
  obtain ⟨hrs1, hwk1⟩ := hrs.took (l.drop n)
  have HRS := hide hrs1
  clear hrs hwk hrs1 hwk1 HH
  generalize hSS : str (l.take n) = S at *
  go_wp2_with fail
  refine (unhide HT).mono ?_
  rintro e w2 ⟨rfl, rfl⟩
  generalize w1.setCell { block := w0.heap.size, off := 0 } (.string (str (l.drop n))) = W2 at *
  go_wp2_with fail
  refine ((unhide HC) _).mono ?_
  rintro e w3 ⟨rfl, hb3⟩
  have hrs3 := (unhide HRS).go hb3
  clear hb3 HRS HT HC
  go_wp2_with fail
  refine ((unhide HOD) _).mono ?_
  rintro e w4 ⟨rfl, rfl⟩
  have hdn : l.drop n = [] := List.drop_of_length_le (by have := unhide HSL; omega)
  have hrd3 := hrs3.rd
  rw [hdn] at hrd3
  have HT1 := hide (byte_no w0.heap.size O w4 hrd3)
  have hb4 := hrs3.below
  clear hrs3 hrd3 hdn
  go_wp2_with fail
  refine (unhide HT1).mono ?_
  rintro e w5 ⟨rfl, hb5⟩
  go_wp2
  exact ⟨rfl, rfl, hb4.trans (hb5.mono hb4.size)⟩

set_option maxRecDepth 100000 in
set_option maxHeartbeats 1000000 in
theorem rtext_pad (w0 w : World) (l r : List UInt8) (c : UInt8) (O : Value) (v : List It) (n : Nat) (hn : n ≤ 14) (hs : n ≤ l.length) (hd : l.drop n = c :: r) (hc : c ≠ 0) (hl : l.length ≤ 500) (he : n % 2 = 1)
    (H : Calls Tryz.prog 114 #[.pointer (some ⟨w0.heap.size, 0, none⟩)] w fun e w' => e = .returned (.int .i64 n) ∧ RS w0 w' l O v ∧ Wk w0.heap.size O O w w') :
    Calls Tryz.prog 286 #[.pointer (some ⟨w0.heap.size, 0, none⟩)] w fun e w' => e = gaveUp 6 0 ∧ Below w0.heap.size w0 w' := by
  have HH := hide H
  have h14 : ¬ (14 : Int) < (n : Int) := by omega
  have hcb : ((c.toNat : Int) != 0) = true := by
    rw [bne_iff_ne]
    intro h
    exact hc (UInt8.toNat_inj.1 (by simpa using h))
  have HOD := hide (fun w => isOdd_any n w hn)
  rw [show (n % 2 == 1) = true by simp [he]] at HOD
  have hcl : (l.take n).length ≤ 1000 := by rw [List.length_take]; omega
  have HC := hide (fun w => clone_any (l.take n) w hcl)
  have HSL := hide hs
  have HLL := hide hl
  have HD := hide hd
  clear H hs hl he hcl hd hc
  go_enter Tryz.func286, Tryz.ntmps286
  go_wp2_with fail
  refine (unhide HH).mono ?_
  rintro e w1 ⟨rfl, hrs, hwk⟩
  have HT := hide (take_ok w0.heap.size l O n w1 hrs.rd (unhide HSL) (by have := unhide HLL; omega))
  obtain ⟨hrs1, hwk1⟩ := hrs.took (l.drop n)
  rw [unhide HD] at HT hrs1
  have HRS := hide hrs1
  clear hrs hwk hrs1 hwk1 HH
  generalize hSS : str (l.take n) = S at *
  go_wp2_with fail
  refine (unhide HT).mono ?_
  rintro e w2 ⟨rfl, rfl⟩
  generalize w1.setCell { block := w0.heap.size, off := 0 } (.string (str (c :: r))) = W2 at *
  go_wp2_with fail
  refine ((unhide HC) _).mono ?_
  rintro e w3 ⟨rfl, hb3⟩
  have hrs3 := (unhide HRS).go hb3
  clear hb3 HRS HT HC
  go_wp2_with fail
  refine ((unhide HOD) _).mono ?_
  rintro e w4 ⟨rfl, rfl⟩
  have hrl : (c :: r).length ≤ 500 := by
    rw [← unhide HD, List.length_drop]
    have := unhide HLL
    omega
  have HT1 := hide (byte_ok w0.heap.size c r O w4 hrs3.rd (by simp only [List.length_cons] at hrl; omega))
  obtain ⟨hrs5, _⟩ := hrs3.took r
  have hb5 := hrs5.below
  have HR5 := hide (refuse_any w0.heap.size r O _ hrs5.rd)
  clear hrs3 hrs5 hrl
  go_wp2_with fail
  refine (unhide HT1).mono ?_
  rintro e w5 ⟨rfl, rfl⟩
  generalize w4.setCell { block := w0.heap.size, off := 0 } (.string (str r)) = W5 at *
  go_wp2_with fail
  refine (unhide HR5).mono ?_
  rintro e w6 ⟨rfl, rfl⟩
  go_wp2
  exact ⟨rfl, rfl, hb5⟩

set_option maxRecDepth 100000 in
set_option maxHeartbeats 1000000 in
theorem rtext_odd (w0 w : World) (l r : List UInt8) (O : Value) (v : List It) (n : Nat) (hn : n ≤ 14) (hs : n ≤ l.length) (hd : l.drop n = 0 :: r) (hl : l.length ≤ 500) (hv : v.length ≤ 100000) (he : n % 2 = 1)
    (H : Calls Tryz.prog 114 #[.pointer (some ⟨w0.heap.size, 0, none⟩)] w fun e w' => e = .returned (.int .i64 n) ∧ RS w0 w' l O v ∧ Wk w0.heap.size O O w w') :
    Calls Tryz.prog 286 #[.pointer (some ⟨w0.heap.size, 0, none⟩)] w fun e w' => e = .returned (.tuple #[]) ∧ ∃ O', RS w0 w' r O' (v ++ [(0, str (l.take n))]) ∧ Wk w0.heap.size O O' w w' := by
  have HH := hide H
  have h14 : ¬ (14 : Int) < (n : Int) := by omega
  have HOD := hide (fun w => isOdd_any n w hn)
  rw [show (n % 2 == 1) = true by simp [he]] at HOD
  have hcl : (l.take n).length ≤ 1000 := by rw [List.length_take]; omega
  have HC := hide (fun w => clone_any (l.take n) w hcl)
  obtain ⟨i0, hi0, hz0, hz1, hz2⟩ := info_parts info31
  have HSL := hide hs
  have HLL := hide hl
  have HD := hide hd
  clear H hs hl he hcl hd
  go_enter Tryz.func286, Tryz.ntmps286
  go_wp2_with fail
  refine (unhide HH).mono ?_
  rintro e w1 ⟨rfl, hrs, hwk⟩
  have HT := hide (take_ok w0.heap.size l O n w1 hrs.rd (unhide HSL) (by have := unhide HLL; omega))
  obtain ⟨hrs1, hwk1⟩ := hrs.took (l.drop n)
  rw [unhide HD] at HT hrs1 hwk1
  have HRS := hide hrs1
  have HWK := hide (hwk.trans hwk1)
  clear hrs hwk hrs1 hwk1 HH
  generalize hSS : str (l.take n) = S at *
  go_wp2_with fail
  refine (unhide HT).mono ?_
  rintro e w2 ⟨rfl, rfl⟩
  generalize w1.setCell { block := w0.heap.size, off := 0 } (.string (str (0 :: r))) = W2 at *
  go_wp2_with fail
  refine ((unhide HC) _).mono ?_
  rintro e w3 ⟨rfl, hb3⟩
  have hrs3 := (unhide HRS).go hb3
  have HWK3 := hide ((unhide HWK).trans (Wk.of_below hb3))
  clear hb3 HRS HT HC HWK
  go_wp2_with fail
  refine ((unhide HOD) _).mono ?_
  rintro e w4 ⟨rfl, rfl⟩
  have hrl : (0 :: r).length ≤ 500 := by
    rw [← unhide HD, List.length_drop]
    have := unhide HLL
    omega
  have HT1 := hide (byte_ok w0.heap.size 0 r O w4 hrs3.rd (by simp only [List.length_cons] at hrl; omega))
  rw [show (((0 : UInt8).toNat : Nat) : Int) = 0 from rfl] at HT1
  obtain ⟨hrs5, hwk5⟩ := hrs3.took r
  clear hrl
  have HR5 := hide hrs5
  have HK5 := hide ((unhide HWK3).trans hwk5)
  clear hrs3 hrs5 hwk5 HWK3
  go_wp2_with fail
  refine (unhide HT1).mono ?_
  rintro e w5 ⟨rfl, rfl⟩
  generalize w4.setCell { block := w0.heap.size, off := 0 } (.string (str r)) = W5 at *
  have hrs6 := unhide HR5
  obtain ⟨oa, on, oc, hsh⟩ := row_shape hrs6.own
  subst hsh
  have hO := hrs6.rd.items
  have how := hrs6.own
  have hlt := hrs6.rd.lt
  clear hrs6
  go_wp2_with (at_builtin; refine wpList_append_own_at _ rfl (.tmp 37) (.tmp 40) 44 rfl (w0.heap.size + 1) 106 i0 _ 2 24 Tryz.underlying44 hi0 hz0 hz1 hz2 rfl (by decide) _ v.length (flat v) rfl (by exact how.alloc _) ⟨W5.heap.size, 0, none⟩ 1 1 [.int .i64 0, .string S] rfl rfl (by exact cells_pair W5 (0, S)) (by exact pair_one (0, S)) (by unfold maxLen; omega) (by omega) (by simp; omega) ?_)
  intro O1 w6 hown hgrow _ hat
  obtain ⟨ta, tn, tc, hts⟩ := row_shape hown
  subst hts
  obtain ⟨hrd, hrs2, hwk2⟩ := rs_push (x := (0, S)) (unhide HR5) hown hgrow (by simpa using hat)
  have k1 := hrd.items
  have k2 := hrd.thaw 2
  have HR2 := hide hrs2
  have HK2 := hide ((unhide HK5).trans hwk2)
  clear hown hgrow hat hrd hrs2 hwk2 how hO
  go_wp2
  go_end0
  rw [hSS]
  exact ⟨rfl, _, unhide HR2, unhide HK2⟩

end Go.Proofs.YtblomippkddgiaaGreatDoor.V
/-
  The landed code's reader carries.
-/
namespace Go.Proofs.YtblomippkddgiaaGreatDoor.V
open Go.RowKit

abbrev RSt := List UInt8 × List It
def rNum (lo hi : Int) (x : RSt) : Option (Int × RSt) := match x.1 with
  | a :: c :: r => if turned lo hi (num2 a c) < lo ∨ hi < turned lo hi (num2 a c) then none else some (turned lo hi (num2 a c), (r, x.2 ++ [(turned lo hi (num2 a c), ⟨#[]⟩)]))
  | _ => none
def rTxt (x : RSt) : Option RSt := match x.1 with
  | a :: c :: r => if num2 a c ≤ 14 ∧ num2 a c ≤ r.length then
      (if num2 a c % 2 = 0 then some (r.drop (num2 a c), x.2 ++ [(0, str (r.take (num2 a c)))])
       else match r.drop (num2 a c) with
        | p :: r' => if p = 0 then some (r', x.2 ++ [(0, str (r.take (num2 a c)))]) else none
        | [] => none)
      else none
  | _ => none
def reader (w0 : World) : Carrier RSt where
  tid := 311
  fnum := 285
  ftxt := 286
  er := 6
  ptr := ⟨w0.heap.size, 0, none⟩
  w0 := w0
  St := fun w c x O => ∃ Ov, RS w0 w x.1 Ov x.2 ∧ O = wOwn w0 Ov ∧ x.1.length ≤ 490 ∧ x.2.length ≤ c
  num := rNum
  txt := rTxt

theorem no_two {w0 w : World} {l : List UInt8} {O : Value} {v : List It} (h : RS w0 w l O v) (hn : ¬ 2 ≤ l.length) : Calls Tryz.prog 114 #[.pointer (some ⟨w0.heap.size, 0, none⟩)] w fun e w' => e = gaveUp 6 0 ∧ Below w0.heap.size w0 w' := by
  refine (twoBytes_no w0.heap.size l O w h.rd hn).mono ?_
  rintro e w' ⟨rfl, hb⟩
  exact ⟨rfl, h.below.trans hb⟩

theorem rnum_said (w0 w : World) (c : Nat) (l : List UInt8) (v : List It) (Ov : Value) (lo hi : Int) (h : RS w0 w l Ov v) (hl : l.length ≤ 490) (hv : v.length ≤ c) (hc : c ≤ 40000) :
    Calls Tryz.prog 285 #[.pointer (some ⟨w0.heap.size, 0, none⟩), .int .i64 lo, .int .i64 hi] w
      (OrN 6 ((reader w0).No (rNum lo hi (l, v) = none)) (fun i w' => ∃ x', rNum lo hi (l, v) = some (i, x') ∧ (reader w0).Lv (wOwn w0 Ov) (c + 1) x' w w')) := by
  have bad : rNum lo hi (l, v) = none → ∀ e w', e = gaveUp 6 0 ∧ Below w0.heap.size w0 w' → OrN 6 ((reader w0).No (rNum lo hi (l, v) = none)) (fun i w' => ∃ x', rNum lo hi (l, v) = some (i, x') ∧ (reader w0).Lv (wOwn w0 Ov) (c + 1) x' w w') e w' := by
    rintro hno e w' ⟨rfl, hb⟩
    exact Or.inl ⟨rfl, hno, hb⟩
  match l, h, hl, bad with
  | [], h, _, bad => exact (rnumber_none w0 w lo hi (no_two h (by simp))).mono (bad rfl)
  | [a], h, _, bad => exact (rnumber_none w0 w lo hi (no_two h (by simp))).mono (bad rfl)
  | a :: b :: r, h, hl, bad =>
    simp only [List.length_cons] at hl
    have H := two_said w0 w a b r Ov v h (by omega)
    by_cases hb : turned lo hi (num2 a b) < lo ∨ hi < turned lo hi (num2 a b)
    · exact (rnumber_bad w0 w r Ov v lo hi _ (num2_lt a b) hb H).mono (bad (by simp only [rNum]; rw [if_pos hb]))
    · refine (rnumber_ok w0 w r Ov v lo hi _ _ (num2_lt a b) rfl ⟨fun h => hb (Or.inl h), fun h => hb (Or.inr h)⟩ (by omega) H).mono ?_
      rintro e w' ⟨rfl, O', hrs, hwk⟩
      refine Or.inr ⟨_, rfl, (r, v ++ [(turned lo hi (num2 a b), ⟨#[]⟩)]), by simp only [rNum]; rw [if_neg hb], c + 1, wOwn w0 O', Nat.le_refl _, ⟨O', hrs, rfl, by simp only; omega, ?_⟩, hwk.kept⟩
      simp only [List.length_append, List.length_cons, List.length_nil]
      omega

theorem rtxt_said (w0 w : World) (c : Nat) (l : List UInt8) (v : List It) (Ov : Value) (h : RS w0 w l Ov v) (hl : l.length ≤ 490) (hv : v.length ≤ c) (hc : c ≤ 40000) :
    Calls Tryz.prog 286 #[.pointer (some ⟨w0.heap.size, 0, none⟩)] w
      (Or2 6 ((reader w0).No (rTxt (l, v) = none)) (fun w' => ∃ x', rTxt (l, v) = some x' ∧ (reader w0).Lv (wOwn w0 Ov) (c + 1) x' w w')) := by
  have bad : rTxt (l, v) = none → ∀ e w', e = gaveUp 6 0 ∧ Below w0.heap.size w0 w' → Or2 6 ((reader w0).No (rTxt (l, v) = none)) (fun w' => ∃ x', rTxt (l, v) = some x' ∧ (reader w0).Lv (wOwn w0 Ov) (c + 1) x' w w') e w' := by
    rintro hno e w' ⟨rfl, hb⟩
    exact Or.inl ⟨rfl, hno, hb⟩
  have good : ∀ r' S, rTxt (l, v) = some (r', v ++ [(0, S)]) → r'.length ≤ 490 → ∀ e w', (e = .returned (.tuple #[]) ∧ ∃ O', RS w0 w' r' O' (v ++ [(0, S)]) ∧ Wk w0.heap.size Ov O' w w') → Or2 6 ((reader w0).No (rTxt (l, v) = none)) (fun w' => ∃ x', rTxt (l, v) = some x' ∧ (reader w0).Lv (wOwn w0 Ov) (c + 1) x' w w') e w' := by
    rintro r' S hr hrl e w' ⟨rfl, O', hrs, hwk⟩
    refine Or.inr ⟨rfl, _, hr, c + 1, wOwn w0 O', Nat.le_refl _, ⟨O', hrs, rfl, hrl, ?_⟩, hwk.kept⟩
    simp only [List.length_append, List.length_cons, List.length_nil]
    omega
  match l, h, hl, bad, good with
  | [], h, _, bad, _ => exact (rtext_none w0 w (no_two h (by simp))).mono (bad rfl)
  | [a], h, _, bad, _ => exact (rtext_none w0 w (no_two h (by simp))).mono (bad rfl)
  | a :: b :: r, h, hl, bad, good =>
    simp only [List.length_cons] at hl
    have H := two_said w0 w a b r Ov v h (by omega)
    have hT : rTxt (a :: b :: r, v) = if num2 a b ≤ 14 ∧ num2 a b ≤ r.length then
        (if num2 a b % 2 = 0 then some (r.drop (num2 a b), v ++ [(0, str (r.take (num2 a b)))])
         else match r.drop (num2 a b) with
          | p :: r' => if p = 0 then some (r', v ++ [(0, str (r.take (num2 a b)))]) else none
          | [] => none)
        else none := rfl
    generalize num2 a b = n at H hT
    by_cases h14 : n ≤ 14
    · by_cases hs : n ≤ r.length
      · rw [if_pos ⟨h14, hs⟩] at hT
        by_cases he : n % 2 = 0
        · rw [if_pos he] at hT
          exact (rtext_even w0 w r Ov v n h14 hs (by omega) (by omega) he H).mono (good _ _ hT (by rw [List.length_drop]; omega))
        · rw [if_neg he] at hT
          cases hd : r.drop n with
          | nil =>
            rw [hd] at hT
            have : r.length = n := by
              have := congrArg List.length hd
              rw [List.length_drop] at this
              simp at this
              omega
            exact (rtext_end w0 w r Ov v n h14 this.symm (by omega) (by omega) H).mono (bad hT)
          | cons p r' =>
            rw [hd] at hT
            simp only at hT
            by_cases hp : p = 0
            · subst hp
              rw [if_pos rfl] at hT
              refine (rtext_odd w0 w r r' Ov v n h14 hs hd (by omega) (by omega) (by omega) H).mono (good _ _ hT ?_)
              have := congrArg List.length hd
              rw [List.length_drop] at this
              simp at this
              omega
            · rw [if_neg hp] at hT
              exact (rtext_pad w0 w r r' p Ov v n h14 hs hd hp (by omega) (by omega) H).mono (bad hT)
      · exact (rtext_short w0 w r Ov v n h14 hs H).mono (bad (by rw [hT, if_neg (fun h => hs h.2)]))
    · exact (rtext_long w0 w r Ov v n h14 H).mono (bad (by rw [hT, if_neg (fun h => h14 h.1)]))

set_option maxRecDepth 100000 in
theorem reader_carries (w0 : World) : Carries (reader w0) where
  below := by
    rintro w c x O ⟨Ov, h, _⟩
    exact h.below
  fresh := by
    rintro w c x O ⟨Ov, h, rfl, _⟩ k (rfl | hk)
    · exact ⟨Nat.le_refl _, h.rd.lt⟩
    · have := h.row hk
      exact ⟨by simp only [reader]; omega, this.2⟩
  go := by
    rintro w c x O w' ⟨Ov, h, r⟩ hb
    exact ⟨Ov, h.go hb, r⟩
  range := by
    rintro lo hi ⟨l, v⟩ n x' h
    simp only [reader, rNum] at h
    split at h
    · split at h
      · cases h
      · rename_i hb
        cases h
        omega
    · cases h
  mnum := ⟨fun _ => by kernel_rfl, fun _ _ => rfl⟩
  mtxt := ⟨fun _ => by kernel_rfl, fun _ _ => rfl⟩
  number := by
    rintro w c ⟨l, v⟩ O lo hi ⟨Ov, h, rfl, hl, hv⟩ hc _
    exact rnum_said w0 w c l v Ov lo hi h hl hv hc
  text := by
    rintro w c ⟨l, v⟩ O ⟨Ov, h, rfl, hl, hv⟩ hc
    exact rtxt_said w0 w c l v Ov h hl hv hc

end Go.Proofs.YtblomippkddgiaaGreatDoor.V
