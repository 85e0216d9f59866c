/-
  The document's own 'read': its walk.
-/
import Derived.Test.YtblomippkddgiaaVUnmarshalFace
namespace Go.Proofs.Ytblomippkddgiaa.V
open Go.RowKit

abbrev triple (O : Value) (S : ByteArray) (b : Bool) : Ending := .returned (.tuple #[O, .string S, .bool b])
def Or47 (A : World → Prop) (B : Value → ByteArray → World → Prop) (e : Ending) (w : World) : Prop := (∃ O S, e = triple O S false ∧ A w) ∨ ∃ O S, e = triple O S true ∧ B O S w

set_option maxRecDepth 100000 in
set_option maxHeartbeats 2000000 in
theorem rread_list (s : ByteArray) (p n : Nat) (S : ByteArray) (O : Value) (w : World) (A : World → Prop) (I : Nat → Value → ByteArray → World → Prop) (hp : p < s.size) (hg : nx s p = 97 ∨ nx s p = 114) (hn : n ≤ 9)
    (h0 : I 0 O S w) (hgo : ∀ k O S w w', I k O S w → Below w.heap.size w w' → I k O S w')
    (HI : ∀ w, Calls Try.prog 80 #[.string s, .int .i64 p] w fun e w' => e = .returned (.int .i64 n) ∧ Below w.heap.size w w')
    (HW : ∀ k, k < n → ∃ q : Nat, (∀ w, Calls Try.prog 81 #[.string s, .int .i64 p, .int .i64 k] w fun e w' => e = .returned (.int .i64 q) ∧ Below w.heap.size w w') ∧
      ∀ O S w, I k O S w → Calls Try.prog 62 #[.string s, .int .i64 q, .string S, O] w (Or47 A (I (k + 1)))) :
    Calls Try.prog 62 #[.string s, .int .i64 p, .string S, O] w (Or47 A (I n)) := by
  have H1 := hide HI
  have H2 := hide HW
  have H0 := hide h0
  have HGO := hide hgo
  clear HI HW h0 hgo
  have key : ∀ (t : Bool), t = (nx s p == 97) → (t = true → ((((s[p]).toNat : Nat) : Int) == 97) = true) ∧ (t = false → ((((s[p]).toNat : Nat) : Int) == 97) = false ∧ ((((s[p]).toNat : Nat) : Int) == 114) = true) := by
    intro t ht
    rw [← nx_in hp]
    rcases hg with hg | hg <;> rw [hg] at ht ⊢ <;> subst ht <;> simp
  cases ht : (nx s p == 97) with
  | true =>
    have t1 := (key true ht.symm).1 rfl
    clear key ht hg
    go_enter Try.func62, Try.ntmps62
    go_wp2_with fail
    refine ((unhide H1) _).mono ?_
    rintro e w1 ⟨rfl, hb1⟩
    have I1 := hide ((unhide HGO) _ _ _ _ _ (unhide H0) hb1)
    clear hb1
    go_wp2
    go_loopw [2, 3, 11, 13] (fun sv ov okv kv wr => ∃ (k : Nat) (S' : ByteArray), k ≤ n ∧ kv = .int .i64 k ∧ sv = .string S' ∧ ((okv = .bool true ∧ I k ov S' wr) ∨ (okv = .bool false ∧ A wr))) (fun _ _ _ kv _ => n - (intOf kv).toNat)
    case atStart => exact ⟨0, _, Nat.zero_le _, rfl, rfl, Or.inl ⟨rfl, unhide I1⟩⟩
    case round =>
      obtain ⟨k, S', hk, rfl, rfl, hrel⟩ := hrel
      rcases hrel with ⟨rfl, hIk⟩ | ⟨rfl, hA⟩
      · by_cases hlt : k < n
        · obtain ⟨q, hw58, h47⟩ := (unhide H2) k hlt
          have K58 := hide hw58
          have K47 := hide h47
          have HIK := hide hIk
          clear hw58 h47 hIk I1
          go_wp2_with fail
          refine ((unhide K58) _).mono ?_
          rintro e w2 ⟨rfl, hb2⟩
          have J47 := hide ((unhide K47) _ _ _ ((unhide HGO) _ _ _ _ _ (unhide HIK) hb2))
          clear hb2
          go_wp2_with fail
          refine (unhide J47).mono ?_
          rintro e w3 (⟨O3, S3, rfl, hA⟩ | ⟨O3, S3, rfl, hI3⟩)
          · have HA := hide hA
            clear hA
            go_wp2
            go_roundw
            case rel => exact ⟨k + 1, S3, by omega, by go_num, rfl, Or.inr ⟨rfl, unhide HA⟩⟩
            case measure => simp [intOf]; omega
          · have HI3 := hide hI3
            clear hI3
            go_wp2
            go_roundw
            case rel => exact ⟨k + 1, S3, by omega, by go_num, rfl, Or.inl ⟨rfl, unhide HI3⟩⟩
            case measure => simp [intOf]; omega
        · obtain rfl : k = n := by omega
          have HIK := hide hIk
          clear hIk
          go_wp2
          go_ret3
          exact Or.inr ⟨_, _, rfl, unhide HIK⟩
      · have HA := hide hA
        clear hA
        by_cases hlt : k < n
        · go_wp2
          go_ret3
          exact Or.inl ⟨_, _, rfl, unhide HA⟩
        · go_wp2
          go_ret3
          exact Or.inl ⟨_, _, rfl, unhide HA⟩
  | false =>
    obtain ⟨t1, t2⟩ := (key false ht.symm).2 rfl
    clear key ht hg
    go_enter Try.func62, Try.ntmps62
    go_wp2_with fail
    refine ((unhide H1) _).mono ?_
    rintro e w1 ⟨rfl, hb1⟩
    have I1 := hide ((unhide HGO) _ _ _ _ _ (unhide H0) hb1)
    clear hb1
    go_wp2
    go_loopw [2, 3, 11, 13] (fun sv ov okv kv wr => ∃ (k : Nat) (S' : ByteArray), k ≤ n ∧ kv = .int .i64 k ∧ sv = .string S' ∧ ((okv = .bool true ∧ I k ov S' wr) ∨ (okv = .bool false ∧ A wr))) (fun _ _ _ kv _ => n - (intOf kv).toNat)
    case atStart => exact ⟨0, _, Nat.zero_le _, rfl, rfl, Or.inl ⟨rfl, unhide I1⟩⟩
    case round =>
      obtain ⟨k, S', hk, rfl, rfl, hrel⟩ := hrel
      rcases hrel with ⟨rfl, hIk⟩ | ⟨rfl, hA⟩
      · by_cases hlt : k < n
        · obtain ⟨q, hw58, h47⟩ := (unhide H2) k hlt
          have K58 := hide hw58
          have K47 := hide h47
          have HIK := hide hIk
          clear hw58 h47 hIk I1
          go_wp2_with fail
          refine ((unhide K58) _).mono ?_
          rintro e w2 ⟨rfl, hb2⟩
          have J47 := hide ((unhide K47) _ _ _ ((unhide HGO) _ _ _ _ _ (unhide HIK) hb2))
          clear hb2
          go_wp2_with fail
          refine (unhide J47).mono ?_
          rintro e w3 (⟨O3, S3, rfl, hA⟩ | ⟨O3, S3, rfl, hI3⟩)
          · have HA := hide hA
            clear hA
            go_wp2
            go_roundw
            case rel => exact ⟨k + 1, S3, by omega, by go_num, rfl, Or.inr ⟨rfl, unhide HA⟩⟩
            case measure => simp [intOf]; omega
          · have HI3 := hide hI3
            clear hI3
            go_wp2
            go_roundw
            case rel => exact ⟨k + 1, S3, by omega, by go_num, rfl, Or.inl ⟨rfl, unhide HI3⟩⟩
            case measure => simp [intOf]; omega
        · obtain rfl : k = n := by omega
          have HIK := hide hIk
          clear hIk
          go_wp2
          go_ret3
          exact Or.inr ⟨_, _, rfl, unhide HIK⟩
      · have HA := hide hA
        clear hA
        by_cases hlt : k < n
        · go_wp2
          go_ret3
          exact Or.inl ⟨_, _, rfl, unhide HA⟩
        · go_wp2
          go_ret3
          exact Or.inl ⟨_, _, rfl, unhide HA⟩

end Go.Proofs.Ytblomippkddgiaa.V
