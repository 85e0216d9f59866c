/-
  The document's own 'read': a number is read.
-/
import Derived.Test.YtblomippkddgiaaVRefRead3
namespace Go.Proofs.Ytblomippkddgiaa.V
open Go.RowKit

/- what the document's 'read' makes of two bytes -/
def rturn (lo : Int) (n : Nat) : Int := if lo < 0 ∧ 32767 < n then (n : Int) - 65536 else n
theorem rturn_cases (lo : Int) (n : Nat) : (lo < 0 ∧ (32767 : Int) < (n : Int) ∧ rturn lo n = (n : Int) - 65536) ∨ (lo < 0 ∧ ¬ (32767 : Int) < (n : Int) ∧ rturn lo n = (n : Int)) ∨ (¬ lo < 0 ∧ rturn lo n = (n : Int)) := by
  unfold rturn
  split <;> omega

set_option maxRecDepth 100000 in
set_option maxHeartbeats 2000000 in
theorem rread_n_no (s : ByteArray) (p : Nat) (S R : ByteArray) (n : Nat) (a c : UInt8) (O : Value) (w : World) (lo hi n' : Int) (hp : p < s.size) (h97 : ¬ nx s p = 97) (h114 : ¬ nx s p = 114) (h115 : ¬ nx s p = 115) (hT : Twos S R n a c) (hn : n < 65536) (hn' : n' = rturn lo n) (hno : hi < n')
    (HM : ∀ w, Calls Try.prog 82 #[.string s, .int .i64 p] w fun e w' => e = .returned (.tuple #[.int .i64 lo, .int .i64 hi]) ∧ Below w.heap.size w w') :
    Calls Try.prog 62 #[.string s, .int .i64 p, .string S, O] w fun e w' => e = triple O R false ∧ Below w.heap.size w w' := by
  have t1 : ((((s[p]).toNat : Nat) : Int) == 97) = false := by rw [← nx_in hp]; simp; omega
  have t2 : ((((s[p]).toNat : Nat) : Int) == 114) = false := by rw [← nx_in hp]; simp; omega
  have t3 : ((((s[p]).toNat : Nat) : Int) == 115) = false := by rw [← nx_in hp]; simp; omega
  obtain ⟨hge, i0, i1, hN, e2⟩ := hT
  have h2 : ¬ (S.size : Int) < 2 := by omega
  have HMM := hide HM
  have hcase := rturn_cases lo n
  rw [← hn'] at hcase
  clear h97 h114 h115 HM hn'
  rcases hcase with ⟨c1, c2, rfl⟩ | ⟨c1, c2, rfl⟩ | ⟨c1, rfl⟩
  all_goals
    go_enter Try.func62, Try.ntmps62
    go_wp2_with fail
    go_quiet (fail)
    go_wp2_with fail
    refine ((unhide HMM) _).mono ?_
    rintro e w1 ⟨rfl, hb1⟩
    have HB := hide hb1
    clear hb1
    go_wp2
    go_ret3
    exact ⟨rfl, (below_drewN (Below.refl _ _) _).trans (unhide HB)⟩

set_option maxRecDepth 100000 in
set_option maxHeartbeats 4000000 in
theorem rread_leaf (s : ByteArray) (p : Nat) (S R : ByteArray) (n : Nat) (a c : UInt8) (O : Value) (w w0 : World) (v : List It) (l l' : List UInt8) (lo hi n' : Int) (hp : p < s.size) (h97 : ¬ nx s p = 97) (h114 : ¬ nx s p = 114) (h115 : ¬ nx s p = 115) (h117 : ¬ nx s p = 117) (h113 : ¬ nx s p = 113) (hT : Twos S R n a c) (hn : n < 65536) (hn' : n' = rturn lo n) (hok : ¬ hi < n') (hI : IR w0 v l O w) (hll : l'.length < l.length)
    (HM : ∀ w, Calls Try.prog 82 #[.string s, .int .i64 p] w fun e w' => e = .returned (.tuple #[.int .i64 lo, .int .i64 hi]) ∧ Below w.heap.size w w') :
    Calls Try.prog 62 #[.string s, .int .i64 p, .string S, O] w fun e w' => ∃ O1, e = triple O1 R true ∧ IR w0 (v ++ [(n', ⟨#[]⟩)]) l' O1 w' := by
  have t1 : ((((s[p]).toNat : Nat) : Int) == 97) = false := by rw [← nx_in hp]; simp; omega
  have t2 : ((((s[p]).toNat : Nat) : Int) == 114) = false := by rw [← nx_in hp]; simp; omega
  have t3 : ((((s[p]).toNat : Nat) : Int) == 115) = false := by rw [← nx_in hp]; simp; omega
  have t4 : ((((s[p]).toNat : Nat) : Int) == 117) = false := by rw [← nx_in hp]; simp; omega
  have t5 : ((((s[p]).toNat : Nat) : Int) == 113) = false := by rw [← nx_in hp]; simp; omega
  obtain ⟨hge, i0, i1, hN, e2⟩ := hT
  have h2 : ¬ (S.size : Int) < 2 := by omega
  have HMM := hide HM
  have hcase := rturn_cases lo n
  rw [← hn'] at hcase
  obtain ⟨j0, hj0, hz0, hz1, hz2⟩ := info_parts info31
  obtain ⟨oa, on, oc, hsh⟩ := row_shape hI.own
  subst hsh
  have HI := hide hI
  have HL := hide hll
  have hvl := hI.len
  clear h97 h114 h115 h117 h113 HM hn' hI hll
  rcases hcase with ⟨c1, c2, rfl⟩ | ⟨c1, c2, rfl⟩ | ⟨c1, rfl⟩
  all_goals
    go_enter Try.func62, Try.ntmps62
    go_wp2_with fail
    go_quiet (fail)
    go_wp2_with fail
    refine ((unhide HMM) _).mono ?_
    rintro e w1 ⟨rfl, hb1⟩
    have hI1 := ((unhide HI).drewN _).go hb1
    have how := hI1.own
    have HI1 := hide hI1
    clear hb1 hI1
  · go_wp2_with (at_builtin; go_must (refine wpList_append_own_at _ rfl (.tmp 119) (.tmp 122) 27 rfl w0.heap.size 31 j0 _ 2 24 Try.underlying27 hj0 hz0 hz1 hz2 rfl (by decide) _ v.length (flat v) rfl (by exact how.alloc _) ⟨w1.heap.size, 0, none⟩ 1 1 [.int .i64 ((n : Int) - 65536), .string ⟨#[]⟩] rfl rfl (by exact cells_pair w1 ((n : Int) - 65536, ⟨#[]⟩)) (by exact pair_one ((n : Int) - 65536, ⟨#[]⟩)) (by unfold maxLen; omega) (by omega) (by have := (unhide HI1).below.size; simp; omega) ?_))
    intro O1 w2 hown hgrow _ _
    obtain ⟨ta, tn, tc, hts⟩ := row_shape hown
    subst hts
    have HI2 := hide (ir_push (x := ((n : Int) - 65536, ⟨#[]⟩)) (unhide HI1) (unhide HL) hown hgrow)
    clear hown hgrow how
    go_wp2
    go_loopw [2, 3, 11, 17] (fun sv ov okv kv wr => sv = .string R ∧ ov = .slice ta tn tc ∧ okv = .bool true ∧ kv = .int .i64 0 ∧ wr = w2) (fun _ _ _ _ _ => 0)
    case atStart => exact ⟨rfl, rfl, rfl, rfl, rfl⟩
    case round =>
      obtain ⟨rfl, rfl, rfl, rfl, rfl⟩ := hrel
      go_wp2
      go_ret3
      exact ⟨_, rfl, unhide HI2⟩
  · go_wp2_with (at_builtin; go_must (refine wpList_append_own_at _ rfl (.tmp 119) (.tmp 122) 27 rfl w0.heap.size 31 j0 _ 2 24 Try.underlying27 hj0 hz0 hz1 hz2 rfl (by decide) _ v.length (flat v) rfl (by exact how.alloc _) ⟨w1.heap.size, 0, none⟩ 1 1 [.int .i64 ((n : Int)), .string ⟨#[]⟩] rfl rfl (by exact cells_pair w1 ((n : Int), ⟨#[]⟩)) (by exact pair_one ((n : Int), ⟨#[]⟩)) (by unfold maxLen; omega) (by omega) (by have := (unhide HI1).below.size; simp; omega) ?_))
    intro O1 w2 hown hgrow _ _
    obtain ⟨ta, tn, tc, hts⟩ := row_shape hown
    subst hts
    have HI2 := hide (ir_push (x := ((n : Int), ⟨#[]⟩)) (unhide HI1) (unhide HL) hown hgrow)
    clear hown hgrow how
    go_wp2
    go_loopw [2, 3, 11, 17] (fun sv ov okv kv wr => sv = .string R ∧ ov = .slice ta tn tc ∧ okv = .bool true ∧ kv = .int .i64 0 ∧ wr = w2) (fun _ _ _ _ _ => 0)
    case atStart => exact ⟨rfl, rfl, rfl, rfl, rfl⟩
    case round =>
      obtain ⟨rfl, rfl, rfl, rfl, rfl⟩ := hrel
      go_wp2
      go_ret3
      exact ⟨_, rfl, unhide HI2⟩
  · go_wp2_with (at_builtin; go_must (refine wpList_append_own_at _ rfl (.tmp 119) (.tmp 122) 27 rfl w0.heap.size 31 j0 _ 2 24 Try.underlying27 hj0 hz0 hz1 hz2 rfl (by decide) _ v.length (flat v) rfl (by exact how.alloc _) ⟨w1.heap.size, 0, none⟩ 1 1 [.int .i64 ((n : Int)), .string ⟨#[]⟩] rfl rfl (by exact cells_pair w1 ((n : Int), ⟨#[]⟩)) (by exact pair_one ((n : Int), ⟨#[]⟩)) (by unfold maxLen; omega) (by omega) (by have := (unhide HI1).below.size; simp; omega) ?_))
    intro O1 w2 hown hgrow _ _
    obtain ⟨ta, tn, tc, hts⟩ := row_shape hown
    subst hts
    have HI2 := hide (ir_push (x := ((n : Int), ⟨#[]⟩)) (unhide HI1) (unhide HL) hown hgrow)
    clear hown hgrow how
    go_wp2
    go_loopw [2, 3, 11, 17] (fun sv ov okv kv wr => sv = .string R ∧ ov = .slice ta tn tc ∧ okv = .bool true ∧ kv = .int .i64 0 ∧ wr = w2) (fun _ _ _ _ _ => 0)
    case atStart => exact ⟨rfl, rfl, rfl, rfl, rfl⟩
    case round =>
      obtain ⟨rfl, rfl, rfl, rfl, rfl⟩ := hrel
      go_wp2
      go_ret3
      exact ⟨_, rfl, unhide HI2⟩

end Go.Proofs.Ytblomippkddgiaa.V
