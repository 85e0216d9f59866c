/-
  The document's own 'read': a choice, a row.
-/
import Derived.Test.YtblomippkddgiaaVRefRead4
namespace Go.Proofs.Ytblomippkddgiaa.V
open Go.RowKit

set_option maxRecDepth 100000 in
set_option maxHeartbeats 4000000 in
theorem rread_u (s : ByteArray) (p q : Nat) (S R : ByteArray) (n : Nat) (a c : UInt8) (O : Value) (w w0 : World) (v : List It) (l l' : List UInt8) (hi : Int) (A : World → Prop) (B : Value → ByteArray → World → Prop) (hp : p < s.size) (h117 : nx s p = 117) (hT : Twos S R n a c) (_hn : n < 65536) (hok : ¬ hi < (n : Int)) (hI : IR w0 v l O w) (hll : l'.length < l.length)
    (HM : ∀ w, Calls Try.prog 82 #[.string s, .int .i64 p] w fun e w' => e = .returned (.tuple #[.int .i64 0, .int .i64 hi]) ∧ Below w.heap.size w w')
    (HP : ∀ w, Calls Try.prog 83 #[.string s, .int .i64 p, .int .i64 n] w fun e w' => e = .returned (.int .i64 q) ∧ Below w.heap.size w w')
    (HR : ∀ O1 w1, IR w0 (v ++ [((n : Int), ⟨#[]⟩)]) l' O1 w1 → Calls Try.prog 62 #[.string s, .int .i64 q, .string R, O1] w1 (Or47 A B)) :
    Calls Try.prog 62 #[.string s, .int .i64 p, .string S, O] w (Or47 A B) := by
  have t1 : ((((s[p]).toNat : Nat) : Int) == 97) = false := by rw [← nx_in hp]; simp; omega
  have t2 : ((((s[p]).toNat : Nat) : Int) == 114) = false := by rw [← nx_in hp]; simp; omega
  have t3 : ((((s[p]).toNat : Nat) : Int) == 115) = false := by rw [← nx_in hp]; simp; omega
  have t4 : ((((s[p]).toNat : Nat) : Int) == 117) = true := by rw [← nx_in hp]; simp; omega
  obtain ⟨hge, i0, i1, hN, e2⟩ := hT
  have h2 : ¬ (S.size : Int) < 2 := by omega
  have HMM := hide HM
  have HPP := hide HP
  have HRR := hide HR
  obtain ⟨j0, hj0, hz0, hz1, hz2⟩ := info_parts info31
  obtain ⟨oa, on, oc, hsh⟩ := row_shape hI.own
  subst hsh
  have HI := hide hI
  have HL := hide hll
  have hvl := hI.len
  clear h117 HM HP HR hI hll
  go_enter Try.func62, Try.ntmps62
  go_wp2_with fail
  go_quiet (fail)
  go_wp2_with fail
  refine ((unhide HMM) _).mono ?_
  rintro e w1 ⟨rfl, hb1⟩
  have hI1 := ((unhide HI).drewN _).go hb1
  have how := hI1.own
  have HI1 := hide hI1
  clear hb1 hI1
  go_wp2_with (at_builtin; go_must (refine wpList_append_own_at _ rfl (.tmp 119) (.tmp 122) 27 rfl w0.heap.size 31 j0 _ 2 24 Try.underlying27 hj0 hz0 hz1 hz2 rfl (by decide) _ v.length (flat v) rfl (by exact how.alloc _) ⟨w1.heap.size, 0, none⟩ 1 1 [.int .i64 (n : Int), .string ⟨#[]⟩] rfl rfl (by exact cells_pair w1 ((n : Int), ⟨#[]⟩)) (by exact pair_one ((n : Int), ⟨#[]⟩)) (by unfold maxLen; omega) (by omega) (by have := (unhide HI1).below.size; simp; omega) ?_))
  intro O1 w2 hown hgrow _ _
  obtain ⟨ta, tn, tc, hts⟩ := row_shape hown
  subst hts
  have HI2 := hide (ir_push (x := ((n : Int), ⟨#[]⟩)) (unhide HI1) (unhide HL) hown hgrow)
  clear hown hgrow how
  go_wp2_with fail
  refine ((unhide HPP) _).mono ?_
  rintro e w3 ⟨rfl, hb3⟩
  have HC := hide ((unhide HRR) _ _ ((unhide HI2).go hb3))
  clear hb3
  go_wp2_with fail
  refine (unhide HC).mono ?_
  rintro e w4 (⟨O3, S3, rfl, hA⟩ | ⟨O3, S3, rfl, hB⟩)
  · have HA := hide hA
    clear hA
    go_wp2
    go_ret3
    exact Or.inl ⟨_, _, rfl, unhide HA⟩
  · have HB := hide hB
    clear hB
    go_wp2
    go_ret3
    exact Or.inr ⟨_, _, rfl, unhide HB⟩

set_option maxRecDepth 100000 in
set_option maxHeartbeats 4000000 in
theorem rread_q (s : ByteArray) (p : Nat) (S R : ByteArray) (n : Nat) (a c : UInt8) (O : Value) (w w0 : World) (v : List It) (l l' : List UInt8) (hi : Int) (A : World → Prop) (I : Nat → Value → ByteArray → World → Prop) (hp : p < s.size) (hs : s.size ≤ 40) (h113 : nx s p = 113) (hT : Twos S R n a c) (hn : n < 65536) (hok : ¬ hi < (n : Int)) (hI : IR w0 v l O w) (hll : l'.length < l.length)
    (HM : ∀ w, Calls Try.prog 82 #[.string s, .int .i64 p] w fun e w' => e = .returned (.tuple #[.int .i64 0, .int .i64 hi]) ∧ Below w.heap.size w w')
    (H0 : ∀ O1 w1, IR w0 (v ++ [((n : Int), ⟨#[]⟩)]) l' O1 w1 → I 0 O1 R w1)
    (HK : ∀ k O S w, k < n → I k O S w → Calls Try.prog 62 #[.string s, .int .i64 ((p : Int) + 2), .string S, O] w (Or47 A (I (k + 1)))) :
    Calls Try.prog 62 #[.string s, .int .i64 p, .string S, O] w (Or47 A (I n)) := by
  have t1 : ((((s[p]).toNat : Nat) : Int) == 97) = false := by rw [← nx_in hp]; simp; omega
  have t2 : ((((s[p]).toNat : Nat) : Int) == 114) = false := by rw [← nx_in hp]; simp; omega
  have t3 : ((((s[p]).toNat : Nat) : Int) == 115) = false := by rw [← nx_in hp]; simp; omega
  have t4 : ((((s[p]).toNat : Nat) : Int) == 117) = false := by rw [← nx_in hp]; simp; omega
  have t5 : ((((s[p]).toNat : Nat) : Int) == 113) = true := by rw [← nx_in hp]; simp; omega
  have hp40 : p < 40 := by omega
  obtain ⟨hge, i0, i1, hN, e2⟩ := hT
  have h2 : ¬ (S.size : Int) < 2 := by omega
  have HMM := hide HM
  have HKK := hide HK
  have HH0 := hide H0
  obtain ⟨j0, hj0, hz0, hz1, hz2⟩ := info_parts info31
  obtain ⟨oa, on, oc, hsh⟩ := row_shape hI.own
  subst hsh
  have HI := hide hI
  have HL := hide hll
  have hvl := hI.len
  clear h113 HM HK H0 hI hll
  go_enter Try.func62, Try.ntmps62
  go_wp2_with fail
  go_quiet (fail)
  go_wp2_with fail
  refine ((unhide HMM) _).mono ?_
  rintro e w1 ⟨rfl, hb1⟩
  have hI1 := ((unhide HI).drewN _).go hb1
  have how := hI1.own
  have HI1 := hide hI1
  clear hb1 hI1
  go_wp2_with (at_builtin; go_must (refine wpList_append_own_at _ rfl (.tmp 119) (.tmp 122) 27 rfl w0.heap.size 31 j0 _ 2 24 Try.underlying27 hj0 hz0 hz1 hz2 rfl (by decide) _ v.length (flat v) rfl (by exact how.alloc _) ⟨w1.heap.size, 0, none⟩ 1 1 [.int .i64 (n : Int), .string ⟨#[]⟩] rfl rfl (by exact cells_pair w1 ((n : Int), ⟨#[]⟩)) (by exact pair_one ((n : Int), ⟨#[]⟩)) (by unfold maxLen; omega) (by omega) (by have := (unhide HI1).below.size; simp; omega) ?_))
  intro O1 w2 hown hgrow _ _
  obtain ⟨ta, tn, tc, hts⟩ := row_shape hown
  subst hts
  have HI2 := hide ((unhide HH0) _ _ (ir_push (x := ((n : Int), ⟨#[]⟩)) (unhide HI1) (unhide HL) hown hgrow))
  clear hown hgrow how
  go_wp2
  go_loopw [2, 3, 11, 17] (fun sv ov okv kv wr => ∃ (k : Nat) (S' : ByteArray), k ≤ n ∧ kv = .int .i64 k ∧ sv = .string S' ∧ ((okv = .bool true ∧ I k ov S' wr) ∨ (okv = .bool false ∧ A wr))) (fun _ _ _ kv _ => n - (intOf kv).toNat)
  case atStart => exact ⟨0, _, Nat.zero_le _, rfl, rfl, Or.inl ⟨rfl, unhide HI2⟩⟩
  case round =>
    obtain ⟨k, S', hk, rfl, rfl, hrel⟩ := hrel
    rcases hrel with ⟨rfl, hIk⟩ | ⟨rfl, hA⟩
    · by_cases hlt : k < n
      · have HC := hide ((unhide HKK) k _ _ _ hlt hIk)
        clear hIk
        go_wp2_with fail
        refine (unhide HC).mono ?_
        rintro e w3 (⟨O3, S3, rfl, hA⟩ | ⟨O3, S3, rfl, hI3⟩)
        · have HA := hide hA
          clear hA
          go_wp2
          go_roundw
          case rel => exact ⟨k + 1, S3, by omega, by go_num, rfl, Or.inr ⟨rfl, unhide HA⟩⟩
          case measure => simp [intOf]; omega
        · have HI3 := hide hI3
          clear hI3
          go_wp2
          go_roundw
          case rel => exact ⟨k + 1, S3, by omega, by go_num, rfl, Or.inl ⟨rfl, unhide HI3⟩⟩
          case measure => simp [intOf]; omega
      · obtain rfl : k = n := by omega
        have HIK := hide hIk
        clear hIk
        go_wp2
        go_ret3
        exact Or.inr ⟨_, _, rfl, unhide HIK⟩
    · have HA := hide hA
      clear hA
      by_cases hlt : k < n
      · go_wp2
        go_ret3
        exact Or.inl ⟨_, _, rfl, unhide HA⟩
      · go_wp2
        go_ret3
        exact Or.inl ⟨_, _, rfl, unhide HA⟩

end Go.Proofs.Ytblomippkddgiaa.V
