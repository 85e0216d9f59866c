/-
  The landed code's reader of bytes: a string is read.
-/
import Derived.Test.YtblomippkddgiaaVReads4
namespace Go.Proofs.Ytblomippkddgiaa.V
open Go.RowKit

set_option maxRecDepth 100000 in
set_option maxHeartbeats 2000000 in
theorem rtext_even (w0 w : World) (l : List UInt8) (O : Value) (v : List It) (n : Nat) (hn : n ≤ 14) (hs : n ≤ l.length) (hl : l.length ≤ 500) (hv : v.length ≤ 100000) (he : n % 2 = 0)
    (H : Calls Try.prog 88 #[.pointer (some ⟨w0.heap.size, 0, none⟩)] w fun e w' => e = .returned (.int .i64 n) ∧ RS w0 w' l O v ∧ Wk w0.heap.size O O w w') :
    Calls Try.prog 122 #[.pointer (some ⟨w0.heap.size, 0, none⟩)] w fun e w' => e = .returned (.tuple #[]) ∧ ∃ O', RS w0 w' (l.drop n) O' (v ++ [(0, str (l.take n))]) ∧ Wk w0.heap.size O O' w w' := by
  have HH := hide H
  have h14 : ¬ (14 : Int) < (n : Int) := by omega
  have HOD := hide (fun w => isOdd_any n w hn)
  rw [show (n % 2 == 1) = false by simp [he]] at HOD
  have hcl : (l.take n).length ≤ 1000 := by rw [List.length_take]; omega
  have HC := hide (fun w => clone_any (l.take n) w hcl)
  obtain ⟨i0, hi0, hz0, hz1, hz2⟩ := info_parts info31
  clear H
  go_enter Try.func122, Try.ntmps122
  go_wp2_with fail
  refine (unhide HH).mono ?_
  rintro e w1 ⟨rfl, hrs, hwk⟩
  have HT := hide (take_ok w0.heap.size l O n w1 hrs.rd hs (by omega))
  obtain ⟨hrs1, hwk1⟩ := hrs.took (l.drop n)
  have HRS := hide hrs1
  have HWK := hide (hwk.trans hwk1)
  clear hrs hwk hrs1 hwk1 HH
  generalize hSS : str (l.take n) = S at *
  go_wp2_with fail
  refine (unhide HT).mono ?_
  rintro e w2 ⟨rfl, rfl⟩
  generalize w1.setCell { block := w0.heap.size, off := 0 } (.string (str (l.drop n))) = W2 at *
  go_wp2_with fail
  refine ((unhide HC) _).mono ?_
  rintro e w3 ⟨rfl, hb3⟩
  have hrs3 := (unhide HRS).go hb3
  have HWK3 := hide ((unhide HWK).trans (Wk.of_below hb3))
  clear hb3 HRS HWK HT HC
  go_wp2_with fail
  refine ((unhide HOD) _).mono ?_
  rintro e w4 ⟨rfl, rfl⟩
  obtain ⟨oa, on, oc, hsh⟩ := row_shape hrs3.own
  subst hsh
  have hO := hrs3.rd.items
  have how := hrs3.own
  have hlt := hrs3.rd.lt
  have HRS := hide hrs3
  clear hrs3
  go_wp2_with (at_builtin; refine wpList_append_own_at _ rfl (.tmp 37) (.tmp 40) 27 rfl (w0.heap.size + 1) 31 i0 _ 2 24 Try.underlying27 hi0 hz0 hz1 hz2 rfl (by decide) _ v.length (flat v) rfl (by exact how.alloc _) ⟨w4.heap.size, 0, none⟩ 1 1 [.int .i64 0, .string S] rfl rfl (by exact cells_pair w4 (0, S)) (by exact pair_one (0, S)) (by unfold maxLen; omega) (by omega) (by simp; omega) ?_)
  intro O1 w5 hown hgrow _ hat
  obtain ⟨ta, tn, tc, hts⟩ := row_shape hown
  subst hts
  obtain ⟨hrd, hrs2, hwk2⟩ := rs_push (x := (0, S)) (unhide HRS) hown hgrow (by simpa using hat)
  have k1 := hrd.items
  have k2 := hrd.thaw 2
  have HR2 := hide hrs2
  have HK2 := hide ((unhide HWK3).trans hwk2)
  clear hown hgrow hat hrd hrs2 hwk2 how hO
  go_wp2
  go_end0
  rw [hSS]
  exact ⟨rfl, _, unhide HR2, unhide HK2⟩

set_option maxRecDepth 100000 in
set_option maxHeartbeats 1000000 in
theorem rtext_end (w0 w : World) (l : List UInt8) (O : Value) (v : List It) (n : Nat) (hn : n ≤ 14) (hs : n = l.length) (hl : l.length ≤ 500) (he : n % 2 = 1)
    (H : Calls Try.prog 88 #[.pointer (some ⟨w0.heap.size, 0, none⟩)] w fun e w' => e = .returned (.int .i64 n) ∧ RS w0 w' l O v ∧ Wk w0.heap.size O O w w') :
    Calls Try.prog 122 #[.pointer (some ⟨w0.heap.size, 0, none⟩)] w fun e w' => e = gaveUp 6 0 ∧ Below w0.heap.size w0 w' := by
  have HH := hide H
  have h14 : ¬ (14 : Int) < (n : Int) := by omega
  have HOD := hide (fun w => isOdd_any n w hn)
  rw [show (n % 2 == 1) = true by simp [he]] at HOD
  have hcl : (l.take n).length ≤ 1000 := by rw [List.length_take]; omega
  have HC := hide (fun w => clone_any (l.take n) w hcl)
  have HSL := hide hs
  have HLL := hide hl
  clear H hs hl he hcl
  go_enter Try.func122, Try.ntmps122
  go_wp2_with fail
  refine (unhide HH).mono ?_
  rintro e w1 ⟨rfl, hrs, hwk⟩
  have HT := hide (take_ok w0.heap.size l O n w1 hrs.rd (by have := unhide HSL; omega) (by have := unhide HLL; omega))
  obtain ⟨hrs1, hwk1⟩ := hrs.took (l.drop n)
  have HRS := hide hrs1
  clear hrs hwk hrs1 hwk1 HH
  generalize hSS : str (l.take n) = S at *
  go_wp2_with fail
  refine (unhide HT).mono ?_
  rintro e w2 ⟨rfl, rfl⟩
  generalize w1.setCell { block := w0.heap.size, off := 0 } (.string (str (l.drop n))) = W2 at *
  go_wp2_with fail
  refine ((unhide HC) _).mono ?_
  rintro e w3 ⟨rfl, hb3⟩
  have hrs3 := (unhide HRS).go hb3
  clear hb3 HRS HT HC
  go_wp2_with fail
  refine ((unhide HOD) _).mono ?_
  rintro e w4 ⟨rfl, rfl⟩
  have hdn : l.drop n = [] := List.drop_of_length_le (by have := unhide HSL; omega)
  have hrd3 := hrs3.rd
  rw [hdn] at hrd3
  have HT1 := hide (byte_no w0.heap.size O w4 hrd3)
  have hb4 := hrs3.below
  clear hrs3 hrd3 hdn
  go_wp2_with fail
  refine (unhide HT1).mono ?_
  rintro e w5 ⟨rfl, hb5⟩
  go_wp2
  exact ⟨rfl, rfl, hb4.trans (hb5.mono hb4.size)⟩

set_option maxRecDepth 100000 in
set_option maxHeartbeats 1000000 in
theorem rtext_pad (w0 w : World) (l r : List UInt8) (c : UInt8) (O : Value) (v : List It) (n : Nat) (hn : n ≤ 14) (hs : n ≤ l.length) (hd : l.drop n = c :: r) (hc : c ≠ 0) (hl : l.length ≤ 500) (he : n % 2 = 1)
    (H : Calls Try.prog 88 #[.pointer (some ⟨w0.heap.size, 0, none⟩)] w fun e w' => e = .returned (.int .i64 n) ∧ RS w0 w' l O v ∧ Wk w0.heap.size O O w w') :
    Calls Try.prog 122 #[.pointer (some ⟨w0.heap.size, 0, none⟩)] w fun e w' => e = gaveUp 6 0 ∧ Below w0.heap.size w0 w' := by
  have HH := hide H
  have h14 : ¬ (14 : Int) < (n : Int) := by omega
  have hcb : ((c.toNat : Int) != 0) = true := by
    rw [bne_iff_ne]
    intro h
    exact hc (UInt8.toNat_inj.1 (by simpa using h))
  have HOD := hide (fun w => isOdd_any n w hn)
  rw [show (n % 2 == 1) = true by simp [he]] at HOD
  have hcl : (l.take n).length ≤ 1000 := by rw [List.length_take]; omega
  have HC := hide (fun w => clone_any (l.take n) w hcl)
  have HSL := hide hs
  have HLL := hide hl
  have HD := hide hd
  clear H hs hl he hcl hd hc
  go_enter Try.func122, Try.ntmps122
  go_wp2_with fail
  refine (unhide HH).mono ?_
  rintro e w1 ⟨rfl, hrs, hwk⟩
  have HT := hide (take_ok w0.heap.size l O n w1 hrs.rd (unhide HSL) (by have := unhide HLL; omega))
  obtain ⟨hrs1, hwk1⟩ := hrs.took (l.drop n)
  rw [unhide HD] at HT hrs1
  have HRS := hide hrs1
  clear hrs hwk hrs1 hwk1 HH
  generalize hSS : str (l.take n) = S at *
  go_wp2_with fail
  refine (unhide HT).mono ?_
  rintro e w2 ⟨rfl, rfl⟩
  generalize w1.setCell { block := w0.heap.size, off := 0 } (.string (str (c :: r))) = W2 at *
  go_wp2_with fail
  refine ((unhide HC) _).mono ?_
  rintro e w3 ⟨rfl, hb3⟩
  have hrs3 := (unhide HRS).go hb3
  clear hb3 HRS HT HC
  go_wp2_with fail
  refine ((unhide HOD) _).mono ?_
  rintro e w4 ⟨rfl, rfl⟩
  have hrl : (c :: r).length ≤ 500 := by
    rw [← unhide HD, List.length_drop]
    have := unhide HLL
    omega
  have HT1 := hide (byte_ok w0.heap.size c r O w4 hrs3.rd (by simp only [List.length_cons] at hrl; omega))
  obtain ⟨hrs5, _⟩ := hrs3.took r
  have hb5 := hrs5.below
  have HR5 := hide (refuse_any w0.heap.size r O _ hrs5.rd)
  clear hrs3 hrs5 hrl
  go_wp2_with fail
  refine (unhide HT1).mono ?_
  rintro e w5 ⟨rfl, rfl⟩
  generalize w4.setCell { block := w0.heap.size, off := 0 } (.string (str r)) = W5 at *
  go_wp2_with fail
  refine (unhide HR5).mono ?_
  rintro e w6 ⟨rfl, rfl⟩
  go_wp2
  exact ⟨rfl, rfl, hb5⟩

set_option maxRecDepth 100000 in
set_option maxHeartbeats 1000000 in
theorem rtext_odd (w0 w : World) (l r : List UInt8) (O : Value) (v : List It) (n : Nat) (hn : n ≤ 14) (hs : n ≤ l.length) (hd : l.drop n = 0 :: r) (hl : l.length ≤ 500) (hv : v.length ≤ 100000) (he : n % 2 = 1)
    (H : Calls Try.prog 88 #[.pointer (some ⟨w0.heap.size, 0, none⟩)] w fun e w' => e = .returned (.int .i64 n) ∧ RS w0 w' l O v ∧ Wk w0.heap.size O O w w') :
    Calls Try.prog 122 #[.pointer (some ⟨w0.heap.size, 0, none⟩)] w fun e w' => e = .returned (.tuple #[]) ∧ ∃ O', RS w0 w' r O' (v ++ [(0, str (l.take n))]) ∧ Wk w0.heap.size O O' w w' := by
  have HH := hide H
  have h14 : ¬ (14 : Int) < (n : Int) := by omega
  have HOD := hide (fun w => isOdd_any n w hn)
  rw [show (n % 2 == 1) = true by simp [he]] at HOD
  have hcl : (l.take n).length ≤ 1000 := by rw [List.length_take]; omega
  have HC := hide (fun w => clone_any (l.take n) w hcl)
  obtain ⟨i0, hi0, hz0, hz1, hz2⟩ := info_parts info31
  have HSL := hide hs
  have HLL := hide hl
  have HD := hide hd
  clear H hs hl he hcl hd
  go_enter Try.func122, Try.ntmps122
  go_wp2_with fail
  refine (unhide HH).mono ?_
  rintro e w1 ⟨rfl, hrs, hwk⟩
  have HT := hide (take_ok w0.heap.size l O n w1 hrs.rd (unhide HSL) (by have := unhide HLL; omega))
  obtain ⟨hrs1, hwk1⟩ := hrs.took (l.drop n)
  rw [unhide HD] at HT hrs1 hwk1
  have HRS := hide hrs1
  have HWK := hide (hwk.trans hwk1)
  clear hrs hwk hrs1 hwk1 HH
  generalize hSS : str (l.take n) = S at *
  go_wp2_with fail
  refine (unhide HT).mono ?_
  rintro e w2 ⟨rfl, rfl⟩
  generalize w1.setCell { block := w0.heap.size, off := 0 } (.string (str (0 :: r))) = W2 at *
  go_wp2_with fail
  refine ((unhide HC) _).mono ?_
  rintro e w3 ⟨rfl, hb3⟩
  have hrs3 := (unhide HRS).go hb3
  have HWK3 := hide ((unhide HWK).trans (Wk.of_below hb3))
  clear hb3 HRS HT HC HWK
  go_wp2_with fail
  refine ((unhide HOD) _).mono ?_
  rintro e w4 ⟨rfl, rfl⟩
  have hrl : (0 :: r).length ≤ 500 := by
    rw [← unhide HD, List.length_drop]
    have := unhide HLL
    omega
  have HT1 := hide (byte_ok w0.heap.size 0 r O w4 hrs3.rd (by simp only [List.length_cons] at hrl; omega))
  rw [show (((0 : UInt8).toNat : Nat) : Int) = 0 from rfl] at HT1
  obtain ⟨hrs5, hwk5⟩ := hrs3.took r
  clear hrl
  have HR5 := hide hrs5
  have HK5 := hide ((unhide HWK3).trans hwk5)
  clear hrs3 hrs5 hwk5 HWK3
  go_wp2_with fail
  refine (unhide HT1).mono ?_
  rintro e w5 ⟨rfl, rfl⟩
  generalize w4.setCell { block := w0.heap.size, off := 0 } (.string (str r)) = W5 at *
  have hrs6 := unhide HR5
  obtain ⟨oa, on, oc, hsh⟩ := row_shape hrs6.own
  subst hsh
  have hO := hrs6.rd.items
  have how := hrs6.own
  have hlt := hrs6.rd.lt
  clear hrs6
  go_wp2_with (at_builtin; refine wpList_append_own_at _ rfl (.tmp 37) (.tmp 40) 27 rfl (w0.heap.size + 1) 31 i0 _ 2 24 Try.underlying27 hi0 hz0 hz1 hz2 rfl (by decide) _ v.length (flat v) rfl (by exact how.alloc _) ⟨W5.heap.size, 0, none⟩ 1 1 [.int .i64 0, .string S] rfl rfl (by exact cells_pair W5 (0, S)) (by exact pair_one (0, S)) (by unfold maxLen; omega) (by omega) (by simp; omega) ?_)
  intro O1 w6 hown hgrow _ hat
  obtain ⟨ta, tn, tc, hts⟩ := row_shape hown
  subst hts
  obtain ⟨hrd, hrs2, hwk2⟩ := rs_push (x := (0, S)) (unhide HR5) hown hgrow (by simpa using hat)
  have k1 := hrd.items
  have k2 := hrd.thaw 2
  have HR2 := hide hrs2
  have HK2 := hide ((unhide HK5).trans hwk2)
  clear hown hgrow hat hrd hrs2 hwk2 how hO
  go_wp2
  go_end0
  rw [hSS]
  exact ⟨rfl, _, unhide HR2, unhide HK2⟩

end Go.Proofs.Ytblomippkddgiaa.V
