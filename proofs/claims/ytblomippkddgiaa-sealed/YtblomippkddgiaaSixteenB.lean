/-
  The landed code's Sixteen, whole.
-/
import Derived.Test.YtblomippkddgiaaSixteen
namespace Go.Proofs.Ytblomippkddgiaa
open Go.RowKit

theorem xor_high (a : BitVec 16) (c : Nat) (h : c < 256) : bits .xor .u16 (a.toNat : Int) ((c : Int) * 256) = ((a ^^^ BitVec.ofNat 16 (c * 256)).toNat : Int) := by
  have e : ((c : Int) * 256) = ((BitVec.ofNat 16 (c * 256)).toNat : Int) := by
    rw [BitVec.toNat_ofNat]
    omega
  rw [e]
  exact bits_xor16 a _

set_option maxRecDepth 100000 in
set_option maxHeartbeats 1000000 in
theorem sixteen_go (S : ByteArray) (g : Nat → Int) (F : Nat → Nat → Int) (w : World) (hs : S.size ≤ 1000000) (g0 : g 0 = 0)
    (hF0 : ∀ j (h : j < S.size), bits .xor .u16 (g j) ((S[j].toNat : Int) * 256) = F j 0) (hF8 : ∀ j, j < S.size → F j 8 = g (j + 1))
    (HM : Hid (∀ j k (w : World), Calls Try.prog 86 #[.int .u16 (F j k)] w fun e w' => e = .returned (.int .u16 (F j (k + 1))) ∧ w' = w)) (hg : 0 ≤ g S.size ∧ g S.size < 65536) :
    Calls Try.prog 66 #[.string S] w fun e w' => e = .returned (.int .i64 (g S.size)) ∧ w' = w := by
  have HF0 := hide hF0
  have HF8 := hide hF8
  have HG := hide hg
  clear hF0 hF8 hg
  go_enter Try.func66, Try.ntmps66
  go_wp2
  go_loopw [3, 7] (fun wv iv wr => ∃ i : Nat, i ≤ S.size ∧ iv = .int .i64 i ∧ wv = .int .u16 (g i) ∧ wr = w) (fun _ iv _ => S.size - (intOf iv).toNat)
  case atStart => exact ⟨0, Nat.zero_le _, rfl, by rw [g0], rfl⟩
  case round =>
    obtain ⟨i, hi, rfl, rfl, rfl⟩ := hrel
    by_cases hlt : i < S.size
    · have h0 := (unhide HF0) i hlt
      have hc := S[i].toNat_lt
      have h8 := hide ((unhide HF8) i hlt)
      go_wp2
      go_loopw [3, 17] (fun wv kv wr' => ∃ k : Nat, k ≤ 8 ∧ kv = .int .i64 k ∧ wv = .int .u16 (F i k) ∧ wr' = wr) (fun _ kv _ => 8 - (intOf kv).toNat)
      case atStart => exact ⟨0, Nat.zero_le _, rfl, rfl, rfl⟩
      case round =>
        obtain ⟨k, hk, rfl, rfl, rfl⟩ := hrel
        by_cases hk8 : k < 8
        · have hki : (k : Int) < 8 := by omega
          go_wp2_with (go_at_call 86; refine ((unhide HM) _ _ _).mono ?_; rintro e w2 ⟨rfl, rfl⟩)
          go_roundw
          case rel => exact ⟨k + 1, by omega, by go_num, rfl, trivial⟩
          case measure => simp [intOf]; omega
        · have hke : k = 8 := by omega
          subst hke
          rw [unhide h8]
          go_wp2
          go_roundw
          case rel => exact ⟨i + 1, by omega, by go_num, rfl, trivial⟩
          case measure => simp [intOf]; omega
    · have hie : i = S.size := by omega
      subst hie
      obtain ⟨n1, n2⟩ := unhide HG
      go_wp2
      go_ret
      exact ⟨rfl, rfl⟩

def winI (l : List UInt8) (j : Nat) : Int := ((crc (l.take j)).toNat : Int)
def winF (l : List UInt8) (j k : Nat) : Int := match l[j]? with
  | some b => ((mvs k (crc (l.take j) ^^^ high b)).toNat : Int)
  | none => ((mvs k 0).toNat : Int)
theorem winF_step (l : List UInt8) (j k : Nat) (w : World) : Calls Try.prog 86 #[.int .u16 (winF l j k)] w fun e w' => e = .returned (.int .u16 (winF l j (k + 1))) ∧ w' = w := by
  unfold winF
  split
  · rw [mvs_succ]
    exact moveOn_any _ w
  · rw [mvs_succ]
    exact moveOn_any _ w

theorem str_get (l : List UInt8) (j : Nat) (h : j < (str l).size) : l[j]? = some ((str l)[j]) := by
  have hl : j < l.length := by rw [str_size] at h; exact h
  rw [List.getElem?_eq_getElem hl]
  rfl

theorem sixteen_any (l : List UInt8) (w : World) (hl : l.length ≤ 1000000) : Calls Try.prog 66 #[.string (str l)] w fun e w' => e = .returned (.int .i64 ((crc l).toNat : Int)) ∧ w' = w := by
  have h := sixteen_go (str l) (winI l) (winF l) w (by rw [str_size]; exact hl) rfl ?_ ?_ (hide (winF_step l)) ?_
  · have e : winI l (str l).size = ((crc l).toNat : Int) := by
      unfold winI
      rw [str_size, List.take_length]
    rw [e] at h
    exact h
  · intro j hj
    have hg := str_get l j hj
    unfold winI winF
    rw [hg, xor_high _ _ (UInt8.toNat_lt _)]
    rfl
  · intro j hj
    have hg := str_get l j hj
    unfold winF winI
    rw [hg, List.take_add_one, hg, Option.toList_some]
    show _ = (((l.take j ++ [(str l)[j]]).foldl byteIn 0).toNat : Int)
    rw [List.foldl_append]
    rfl
  · unfold winI
    have := (crc (l.take (str l).size)).isLt
    omega
end Go.Proofs.Ytblomippkddgiaa
