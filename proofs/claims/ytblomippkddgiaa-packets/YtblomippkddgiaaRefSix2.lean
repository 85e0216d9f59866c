/-
  The document's own Sixteen, walked.
-/
import Derived.Test.YtblomippkddgiaaRefSix
namespace Go.Proofs.Ytblomippkddgiaa
open Go.RowKit

theorem cellB_last {m : Nat → Bool} {n t : Nat} (h : ∀ k, n ≤ k → m k = false) : cellB m n (n + t) = (reg m n).getMsbD t := by
  unfold cellB
  rw [h _ (by omega), show n + t - n = t by omega]
  simp

set_option maxRecDepth 100000 in
set_option maxHeartbeats 4000000 in
theorem refSixteen_any (l : List UInt8) (w : World) (hl : l.length ≤ 1000) : Calls Try.prog 92 #[.string (str l)] w fun e w' => e = .returned (.int .i64 (crcI l)) ∧ Below w.heap.size w w' := by
  have H1 := hide (spelt_any l w hl)
  have HR : Hid (crcI l = ((reg (mbit l) (8 * l.length)).toNat : Int)) := by
    show _ = _
    rw [reg_all]
    rfl
  have HZ : Hid (∀ k, 8 * l.length ≤ k → mbit l k = false) := mbit_out l
  rw [unhide HR]
  clear HR
  have hsz : ((str l).size : Int) = (l.length : Int) := by rw [str_size]
  generalize hS : str l = S at *
  clear hS
  generalize mbit l = m at *
  generalize l.length = n at *
  obtain ⟨R, hR⟩ : ∃ R, R = reg m (8 * n) := ⟨_, rfl⟩
  have HRL := hide R.isLt
  rw [← hR]
  have HRR := hide hR
  clear hR
  have HBY0 := hide byS_at
  have hbs0 : byS.size = 17 := rfl
  unfold byS at HBY0 hbs0
  go_enter Try.func92, Try.ntmps92
  go_wp2_with fail
  refine (unhide H1).mono ?_
  rintro e w1 ⟨rfl, hb1, hbel1⟩
  have HB1 := hide hb1
  have HL1 := hide hbel1
  clear hb1 hbel1 H1
  go_wp2
  generalize ({ data := #[49, 49, 48, 48, 48, 48, 48, 48, 48, 48, 48, 48, 48, 48, 49, 48, 49] } : ByteArray) = BY at *
  have hbs : (BY.size : Int) = 17 := by omega
  clear hbs0
  go_loopw [5] (fun iv wr => ∃ i : Nat, i ≤ 8 * n ∧ iv = .int .i64 i ∧ Bits wr w.heap.size (8 * n + 16) i (cellB m i) ∧ Below w.heap.size w wr) (fun iv _ => 8 * n - (intOf iv).toNat)
  case atStart => exact ⟨0, Nat.zero_le _, rfl, (unhide HB1).to (Nat.le_refl _) (fun k _ _ => (cellB_zero m k).symm), unhide HL1⟩
  case round =>
    obtain ⟨i, hi, rfl, hbits, hbel⟩ := hrel
    by_cases hlt : i < 8 * n
    · have hcl := hbits.at (k := i) (Nat.le_refl _) (by omega)
      have HBT := hide hbits
      have HBL := hide hbel
      clear hbits hbel
      cases hx : cellB m i i with
      | true =>
        have hc1 : wr.cell? ⟨w.heap.size, i, none⟩ = some (.int .u8 1) := by rw [hcl, hx]; rfl
        clear hcl
        have HX := hide hx
        clear hx
        go_wp2
        go_loopw [6] (fun jv wr' => ∃ j : Nat, j ≤ 17 ∧ jv = .int .i64 j ∧ Bits wr' w.heap.size (8 * n + 16) i (turnF m i j) ∧ Below w.heap.size w wr') (fun jv _ => 17 - (intOf jv).toNat)
        case atStart => exact ⟨0, Nat.zero_le _, rfl, (unhide HBT).to (Nat.le_refl _) (fun k _ _ => turn_zero m i k), unhide HBL⟩
        case round =>
          obtain ⟨j, hj, rfl, hbits, hbel⟩ := hrel
          by_cases hj17 : j < 17
          · have hjb : j < BY.size := by omega
            have hby := (unhide HBY0) j hjb
            have hcl := hbits.at (k := i + j) (by omega) (by omega)
            rw [turn_at] at hcl
            have hth := hbits.thaw (i + j)
            have hjI : (j : Int) < 17 := by omega
            have hij : (i : Int) + (j : Int) < 8 * (n : Int) + 16 := by omega
            have HBT' := hide hbits
            have HBL' := hide hbel
            clear hbits hbel
            cases hf : flips j with
            | true =>
              rw [hf] at hby
              have HF := hide hf
              clear hf
              go_wp2
              go_roundw
              case rel => exact ⟨j + 1, by omega, by go_num, ((unhide HBT').set (i + j) (!(cellB m i (i + j))) _ (by unfold bitI; cases cellB m i (i + j) <;> rfl)).to (Nat.le_refl _) (fun k hk _ => turn_yes hk (unhide HF)), (unhide HBL').setCell (by simp) _⟩
              case measure => simp [intOf]; omega
            | false =>
              rw [hf] at hby
              have HF := hide hf
              clear hf
              go_wp2
              go_roundw
              case rel => exact ⟨j + 1, by omega, by go_num, (unhide HBT').to (Nat.le_refl _) (fun k hk _ => turn_no hk (unhide HF)), unhide HBL'⟩
              case measure => simp [intOf]; omega
          · have hje : j = 17 := by omega
            subst hje
            have HBT' := hide hbits
            have HBL' := hide hbel
            clear hbits hbel
            go_wp2
            go_roundw
            case rel => exact ⟨i + 1, by omega, by go_num, (unhide HBT').to (by omega) (fun k hk _ => turn_end (by omega) (unhide HX)), unhide HBL'⟩
            case measure => simp [intOf]; omega
      | false =>
        have hc1 : wr.cell? ⟨w.heap.size, i, none⟩ = some (.int .u8 0) := by rw [hcl, hx]; rfl
        clear hcl
        have HX := hide hx
        clear hx
        go_wp2
        go_roundw
        case rel => exact ⟨i + 1, by omega, by go_num, (unhide HBT).to (by omega) (fun k hk _ => turn_none (by omega) (unhide HX)), unhide HBL⟩
        case measure => simp [intOf]; omega
    · have hie : i = 8 * n := by omega
      have HBT := hide hbits
      have HBL := hide hbel
      clear hbits hbel hi
      subst hie
      go_wp2
      go_loopw [7, 8] (fun nv iv wr' => ∃ t : Nat, t ≤ 16 ∧ iv = .int .i64 (8 * (n : Int) + (t : Int)) ∧ nv = .int .i64 ((R.toNat / 2 ^ (16 - t) : Nat) : Int) ∧ wr' = wr) (fun _ iv _ => 8 * n + 16 - (intOf iv).toNat)
      case atStart =>
        refine ⟨0, Nat.zero_le _, by go_num, ?_, rfl⟩
        have := unhide HRL
        rw [Nat.div_eq_of_lt (by omega)]
        rfl
      case round =>
        obtain ⟨t, ht, rfl, rfl, rfl⟩ := hrel
        by_cases ht16 : t < 16
        · have hcl := (unhide HBT).at (k := 8 * n + t) (by omega) (by omega)
          rw [cellB_last (unhide HZ), ← unhide HRR] at hcl
          have HST := hide (last_step R t ht16)
          have hbb : 0 ≤ bitI (R.getMsbD t) ∧ bitI (R.getMsbD t) ≤ 1 := by unfold bitI; split <;> omega
          have hrl : (R.toNat / 2 ^ (16 - t) : Nat) < 65536 := by
            have := unhide HRL
            have h2 := Nat.div_le_self R.toNat (2 ^ (16 - t))
            omega
          generalize bitI (R.getMsbD t) = B at *
          generalize R.toNat / 2 ^ (16 - t) = Q at *
          have hij : 8 * (n : Int) + (t : Int) < 8 * (n : Int) + 16 := by omega
          go_wp2
          go_roundw
          case rel => exact ⟨t + 1, by omega, by go_num, by rw [unhide HST], trivial⟩
          case measure => simp [intOf]; omega
        · have hte : t = 16 := by omega
          subst hte
          have hrl := unhide HRL
          have e16 : R.toNat / 2 ^ (16 - 16) = R.toNat := by simp
          rw [e16]
          go_wp2
          go_ret
          exact ⟨rfl, unhide HBL⟩
end Go.Proofs.Ytblomippkddgiaa
