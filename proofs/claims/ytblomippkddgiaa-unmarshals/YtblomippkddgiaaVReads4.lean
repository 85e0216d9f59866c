/-
  The landed code's reader of bytes: a number and a string are read.
-/
import Derived.Test.YtblomippkddgiaaVReads3
namespace Go.Proofs.Ytblomippkddgiaa.V
open Go.RowKit

set_option maxRecDepth 100000 in
set_option maxHeartbeats 2000000 in
theorem rnumber_ok (w0 w : World) (l : List UInt8) (O : Value) (v : List It) (lo hi n' : Int) (n : Nat) (hn : n < 65536) (hn' : n' = turned lo hi n) (hok : ¬ n' < lo ∧ ¬ hi < n') (hv : v.length ≤ 100000)
    (H : Calls Try.prog 88 #[.pointer (some ⟨w0.heap.size, 0, none⟩)] w fun e w' => e = .returned (.int .i64 n) ∧ RS w0 w' l O v ∧ Wk w0.heap.size O O w w') :
    Calls Try.prog 121 #[.pointer (some ⟨w0.heap.size, 0, none⟩), .int .i64 lo, .int .i64 hi] w fun e w' => e = .returned (.int .i64 n') ∧ ∃ O', RS w0 w' l O' (v ++ [(n', ⟨#[]⟩)]) ∧ Wk w0.heap.size O O' w w' := by
  have HH := hide H
  clear H
  obtain ⟨h3, h4⟩ := hok
  obtain ⟨i0, hi0, hz0, hz1, hz2⟩ := info_parts info31
  have hcase : (lo < 0 ∧ hi < (n : Int) ∧ n' = (n : Int) - 65536) ∨ (lo < 0 ∧ ¬ hi < (n : Int) ∧ n' = (n : Int)) ∨ (¬ lo < 0 ∧ n' = (n : Int)) := by
    unfold turned at hn'
    split at hn' <;> omega
  clear hn'
  rcases hcase with ⟨h1, h2, rfl⟩ | ⟨h1, h2, rfl⟩ | ⟨h1, rfl⟩
  all_goals
    go_enter Try.func121, Try.ntmps121
    go_wp2_with fail
    refine (unhide HH).mono ?_
    rintro e w1 ⟨rfl, hrs, hwk⟩
    obtain ⟨oa, on, oc, hsh⟩ := row_shape hrs.own
    subst hsh
    have hO := hrs.rd.items
    have how := hrs.own
    have hlt := hrs.rd.lt
    have HRS := hide hrs
    have HWK := hide hwk
    clear hrs hwk
  · go_wp2_with (at_builtin; refine wpList_append_own_at _ rfl (.tmp 37) (.tmp 40) 27 rfl (w0.heap.size + 1) 31 i0 _ 2 24 Try.underlying27 hi0 hz0 hz1 hz2 rfl (by decide) _ v.length (flat v) rfl (by exact how.alloc _) ⟨w1.heap.size, 0, none⟩ 1 1 [.int .i64 ((n : Int) - 65536), .string ⟨#[]⟩] rfl rfl (by exact cells_pair w1 ((n : Int) - 65536, ⟨#[]⟩)) (by exact pair_one ((n : Int) - 65536, ⟨#[]⟩)) (by unfold maxLen; omega) (by omega) (by simp; omega) ?_)
    intro O1 w2 hown hgrow _ hat
    obtain ⟨ta, tn, tc, hts⟩ := row_shape hown
    subst hts
    obtain ⟨hrd, hrs2, hwk2⟩ := rs_push (x := ((n : Int) - 65536, ⟨#[]⟩)) (unhide HRS) hown hgrow (by simpa using hat)
    have k1 := hrd.items
    have k2 := hrd.thaw 2
    have HR2 := hide hrs2
    have HK2 := hide ((unhide HWK).trans hwk2)
    clear hown hgrow hat hrd hrs2 hwk2 how hO
    go_wp2
    go_ret
    exact ⟨rfl, _, unhide HR2, unhide HK2⟩
  · go_wp2_with (at_builtin; refine wpList_append_own_at _ rfl (.tmp 37) (.tmp 40) 27 rfl (w0.heap.size + 1) 31 i0 _ 2 24 Try.underlying27 hi0 hz0 hz1 hz2 rfl (by decide) _ v.length (flat v) rfl (by exact how.alloc _) ⟨w1.heap.size, 0, none⟩ 1 1 [.int .i64 (n : Int), .string ⟨#[]⟩] rfl rfl (by exact cells_pair w1 ((n : Int), ⟨#[]⟩)) (by exact pair_one ((n : Int), ⟨#[]⟩)) (by unfold maxLen; omega) (by omega) (by simp; omega) ?_)
    intro O1 w2 hown hgrow _ hat
    obtain ⟨ta, tn, tc, hts⟩ := row_shape hown
    subst hts
    obtain ⟨hrd, hrs2, hwk2⟩ := rs_push (x := ((n : Int), ⟨#[]⟩)) (unhide HRS) hown hgrow (by simpa using hat)
    have k1 := hrd.items
    have k2 := hrd.thaw 2
    have HR2 := hide hrs2
    have HK2 := hide ((unhide HWK).trans hwk2)
    clear hown hgrow hat hrd hrs2 hwk2 how hO
    go_wp2
    go_ret
    exact ⟨rfl, _, unhide HR2, unhide HK2⟩
  · go_wp2_with (at_builtin; refine wpList_append_own_at _ rfl (.tmp 37) (.tmp 40) 27 rfl (w0.heap.size + 1) 31 i0 _ 2 24 Try.underlying27 hi0 hz0 hz1 hz2 rfl (by decide) _ v.length (flat v) rfl (by exact how.alloc _) ⟨w1.heap.size, 0, none⟩ 1 1 [.int .i64 (n : Int), .string ⟨#[]⟩] rfl rfl (by exact cells_pair w1 ((n : Int), ⟨#[]⟩)) (by exact pair_one ((n : Int), ⟨#[]⟩)) (by unfold maxLen; omega) (by omega) (by simp; omega) ?_)
    intro O1 w2 hown hgrow _ hat
    obtain ⟨ta, tn, tc, hts⟩ := row_shape hown
    subst hts
    obtain ⟨hrd, hrs2, hwk2⟩ := rs_push (x := ((n : Int), ⟨#[]⟩)) (unhide HRS) hown hgrow (by simpa using hat)
    have k1 := hrd.items
    have k2 := hrd.thaw 2
    have HR2 := hide hrs2
    have HK2 := hide ((unhide HWK).trans hwk2)
    clear hown hgrow hat hrd hrs2 hwk2 how hO
    go_wp2
    go_ret
    exact ⟨rfl, _, unhide HR2, unhide HK2⟩

set_option maxRecDepth 100000 in
set_option maxHeartbeats 1000000 in
theorem rtext_none (w0 w : World) (H : Calls Try.prog 88 #[.pointer (some ⟨w0.heap.size, 0, none⟩)] w fun e w' => e = gaveUp 6 0 ∧ Below w0.heap.size w0 w') :
    Calls Try.prog 122 #[.pointer (some ⟨w0.heap.size, 0, none⟩)] w fun e w' => e = gaveUp 6 0 ∧ Below w0.heap.size w0 w' := by
  have HH := hide H
  clear H
  go_enter Try.func122, Try.ntmps122
  go_wp2_with fail
  refine (unhide HH).mono ?_
  rintro e w1 ⟨rfl, hb⟩
  go_wp2
  exact ⟨rfl, rfl, hb⟩

set_option maxRecDepth 100000 in
set_option maxHeartbeats 1000000 in
theorem rtext_long (w0 w : World) (l : List UInt8) (O : Value) (v : List It) (n : Nat) (hn : ¬ n ≤ 14)
    (H : Calls Try.prog 88 #[.pointer (some ⟨w0.heap.size, 0, none⟩)] w fun e w' => e = .returned (.int .i64 n) ∧ RS w0 w' l O v ∧ Wk w0.heap.size O O w w') :
    Calls Try.prog 122 #[.pointer (some ⟨w0.heap.size, 0, none⟩)] w fun e w' => e = gaveUp 6 0 ∧ Below w0.heap.size w0 w' := by
  have HH := hide H
  have h14 : (14 : Int) < (n : Int) := by omega
  clear H hn
  go_enter Try.func122, Try.ntmps122
  go_wp2_with fail
  refine (unhide HH).mono ?_
  rintro e w1 ⟨rfl, hrs, _⟩
  have hb := hrs.below
  have HR := hide (refuse_any w0.heap.size l O w1 hrs.rd)
  clear hrs
  go_wp2_with fail
  refine (unhide HR).mono ?_
  rintro e w2 ⟨rfl, rfl⟩
  go_wp2
  exact ⟨rfl, rfl, hb⟩

set_option maxRecDepth 100000 in
set_option maxHeartbeats 1000000 in
theorem rtext_short (w0 w : World) (l : List UInt8) (O : Value) (v : List It) (n : Nat) (hn : n ≤ 14) (hs : ¬ n ≤ l.length)
    (H : Calls Try.prog 88 #[.pointer (some ⟨w0.heap.size, 0, none⟩)] w fun e w' => e = .returned (.int .i64 n) ∧ RS w0 w' l O v ∧ Wk w0.heap.size O O w w') :
    Calls Try.prog 122 #[.pointer (some ⟨w0.heap.size, 0, none⟩)] w fun e w' => e = gaveUp 6 0 ∧ Below w0.heap.size w0 w' := by
  have HH := hide H
  have h14 : ¬ (14 : Int) < (n : Int) := by omega
  clear H
  go_enter Try.func122, Try.ntmps122
  go_wp2_with fail
  refine (unhide HH).mono ?_
  rintro e w1 ⟨rfl, hrs, _⟩
  have hb := hrs.below
  have HT := hide (take_no w0.heap.size l O n w1 hrs.rd hs)
  clear hrs
  go_wp2_with fail
  refine (unhide HT).mono ?_
  rintro e w2 ⟨rfl, hb2⟩
  go_wp2
  exact ⟨rfl, rfl, hb.trans (hb2.mono hb.size)⟩

end Go.Proofs.Ytblomippkddgiaa.V
