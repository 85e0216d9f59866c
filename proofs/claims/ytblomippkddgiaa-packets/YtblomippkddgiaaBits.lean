/-
  The document's own Sixteen: a table of bits.
-/
import Derived.Test.YtblomippkddgiaaRow
namespace Go.Proofs.Ytblomippkddgiaa
open Go.RowKit

def bitI (b : Bool) : Int := if b then 1 else 0
/- the table lies in block G: N bits, from lo on they are f -/
def Bits (w : World) (G N lo : Nat) (f : Nat → Bool) : Prop := ∃ cur : Array Value, w.heap[G]? = some (.cells cur 5 (0, 0)) ∧ cur.size = N ∧ ∀ k, lo ≤ k → k < N → cur[k]? = some (.int .u8 (bitI (f k)))
theorem Bits.at {w : World} {G N lo : Nat} {f : Nat → Bool} (h : Bits w G N lo f) {k : Nat} (h1 : lo ≤ k) (h2 : k < N) : w.cell? ⟨G, k, none⟩ = some (.int .u8 (bitI (f k))) := by
  obtain ⟨cur, hg, _, hx⟩ := h
  simp [World.cell?, hg, hx k h1 h2]
theorem Bits.thaw {w : World} {G N lo : Nat} {f : Nat → Bool} (h : Bits w G N lo f) (o : Nat) : w.frozen? ⟨G, o, none⟩ = false := by
  obtain ⟨cur, hg, _⟩ := h
  simp [World.frozen?, hg]
theorem Bits.lt {w : World} {G N lo : Nat} {f : Nat → Bool} (h : Bits w G N lo f) : G < w.heap.size := by
  obtain ⟨cur, hg, _⟩ := h
  exact lt_of_block hg
theorem Bits.set {w : World} {G N lo : Nat} {f : Nat → Bool} (h : Bits w G N lo f) (k : Nat) (b : Bool) (n : Int) (hn : n = bitI b) : Bits (w.setCell ⟨G, k, none⟩ (.int .u8 n)) G N lo (fun j => if j = k then b else f j) := by
  obtain ⟨cur, hg, hs, hx⟩ := h
  refine ⟨cur.setIfInBounds k (.int .u8 n), set_block hg _, by simpa using hs, fun j h1 h2 => ?_⟩
  by_cases hj : j = k
  · subst hj
    rw [Array.getElem?_setIfInBounds_self_of_lt (by omega), hn]
    simp
  · rw [Array.getElem?_setIfInBounds_ne (by omega), hx j h1 h2]
    simp [hj]
theorem Bits.to {w : World} {G N lo lo' : Nat} {f g : Nat → Bool} (h : Bits w G N lo f) (hlo : lo ≤ lo') (hfg : ∀ k, lo' ≤ k → k < N → f k = g k) : Bits w G N lo' g := by
  obtain ⟨cur, hg, hs, hx⟩ := h
  exact ⟨cur, hg, hs, fun k h1 h2 => by rw [hx k (by omega) h2, hfg k h1 h2]⟩

theorem bit_arith (b : UInt8) (r : Nat) (h : r < 8) : bitAt b r = decide (b.toNat / 2 ^ (7 - r) % 2 = 1) := by
  have H : ∀ n, n < 256 → ∀ r, r < 8 → (BitVec.ofNat 16 (n * 256)).getMsbD r = decide (n / 2 ^ (7 - r) % 2 = 1) := by decide +kernel
  exact H b.toNat b.toNat_lt r h

theorem made_bits (w : World) (N : Nat) : Bits (w.alloc (.cells (madeCells (Value.int .u8 0).cells (N * 1)) 5)) w.heap.size N 0 (fun _ => false) := by
  refine ⟨_, heap_alloc_new w _, by rw [size_madeCells]; omega, fun k _ hk => ?_⟩
  have e : (Value.int .u8 0).cells = #[.int .u8 0] := rfl
  rw [e, ← Array.getElem?_toList, toList_madeCells_one, List.getElem?_replicate, if_pos (by omega)]
  rfl

theorem wrap_pow (k : Nat) (h : k ≤ 7) : IntKind.i64.wrap (1 * 2 ^ min k 64) = (2 : Int) ^ k := by
  have : ∀ k, k ≤ 7 → IntKind.i64.wrap (1 * 2 ^ min k 64) = (2 : Int) ^ k := by decide
  exact this k h

def speltF (m : Nat → Bool) (i k : Nat) : Bool := decide (k < i) && m k

theorem spelt_one {m : Nat → Bool} {i : Nat} (h : m i = true) (k : Nat) : (if k = i then true else speltF m i k) = speltF m (i + 1) k := by
  unfold speltF
  by_cases hk : k = i
  · subst hk
    simp [h]
  · rw [if_neg hk]
    congr 1
    rw [decide_eq_decide]
    omega
theorem spelt_no {m : Nat → Bool} {i : Nat} (h : m i = false) (k : Nat) : speltF m i k = speltF m (i + 1) k := by
  unfold speltF
  by_cases hk : k = i
  · subst hk
    simp [h]
  · congr 1
    rw [decide_eq_decide]
    omega
theorem spelt_all {m : Nat → Bool} {i : Nat} (h : ∀ k, i ≤ k → m k = false) (k : Nat) : speltF m i k = m k := by
  unfold speltF
  by_cases hk : k < i
  · simp [hk]
  · simp [hk, h k (by omega)]
theorem mbit_out (l : List UInt8) (k : Nat) (h : 8 * l.length ≤ k) : mbit l k = false := by
  unfold mbit
  rw [List.getElem?_eq_none (by omega)]

set_option maxRecDepth 100000 in
set_option maxHeartbeats 2000000 in
theorem spelt_any (l : List UInt8) (w : World) (hl : l.length ≤ 1000) :
    Calls Try.prog 100 #[.string (str l)] w fun e w' => e = .returned (.slice (some ⟨w.heap.size, 0, none⟩) (8 * l.length + 16) (8 * l.length + 16)) ∧ Bits w' w.heap.size (8 * l.length + 16) 0 (mbit l) ∧ Below w.heap.size w w' := by
  obtain ⟨S, hS⟩ : ∃ S, S = str l := ⟨_, rfl⟩
  obtain ⟨n, hn⟩ : ∃ n, n = l.length := ⟨_, rfl⟩
  have hsz : (S.size : Int) = (n : Int) := by rw [hS, str_size, hn]
  obtain ⟨i0, hi, hz0, hz1, hz2⟩ := info_parts info5
  obtain ⟨M, hM⟩ : ∃ M, M = madeCells (Value.int .u8 0).cells ((8 * n + 16) * 1) := ⟨_, rfl⟩
  have hmk : ∀ W : World, (Instr.makeSlice 67 (.int .i64 (8 * (n : Int) + 16)) (.int .i64 (8 * (n : Int) + 16))).run Try.prog W = .ok (.slice (some ⟨W.heap.size, 0, none⟩) (8 * n + 16) (8 * n + 16)) (W.alloc (.cells M 5)) := fun W => by
    have h := run_make (P := Try.prog) W 67 5 i0 (.int .u8 0) Try.underlying67 hi hz0 .i64 .i64 (8 * (n : Int) + 16) (8 * (n : Int) + 16) (by omega) (Int.le_refl _) (by rw [hz2]; omega) (by omega)
    have e : (8 * (n : Int) + 16).toNat = 8 * n + 16 := by omega
    rw [hz1, e, ← hM] at h
    exact h
  have HM : Hid (Bits (w.alloc (.cells M 5)) w.heap.size (8 * n + 16) 0 (fun _ => false)) := by rw [hM]; exact made_bits w _
  have HBM := hide ((Below.refl w.heap.size w).alloc (Nat.le_refl _) (.cells M 5))
  rw [← hS, ← hn]
  have HG : Hid (∀ i q r : Nat, i = 8 * q + r → r < 8 → (hq : q < S.size) → mbit l i = decide ((S[q]).toNat / 2 ^ (7 - r) % 2 = 1)) := by
    intro i q r hi hr hq
    have h1 : l[q]? = some (S[q]) := by subst hS; exact str_get l q hq
    unfold mbit
    rw [show i / 8 = q by omega, show i % 8 = r by omega, h1]
    exact bit_arith _ _ hr
  have HZ0 : Hid (∀ k, 8 * n ≤ k → mbit l k = false) := by rw [hn]; exact mbit_out l
  have hnn : n ≤ 1000 := by omega
  have hSn : S.size = n := by omega
  have HSN := hide hSn
  clear hM hS hn hl hSn
  generalize mbit l = m at *
  go_enter Try.func100, Try.ntmps100
  go_wp2
  go_loopw [4] (fun iv wr => ∃ i : Nat, i ≤ 8 * n ∧ iv = .int .i64 i ∧ Bits wr w.heap.size (8 * n + 16) 0 (speltF m i) ∧ Below w.heap.size w wr) (fun iv _ => 8 * n - (intOf iv).toNat)
  case atStart => exact ⟨0, Nat.zero_le _, rfl, (unhide HM).to (Nat.le_refl _) (fun k _ _ => by simp [speltF]), unhide HBM⟩
  case round =>
    obtain ⟨i, hi, rfl, hbits, hbel⟩ := hrel
    by_cases hlt : i < 8 * n
    · obtain ⟨q, r, hqr, hr8⟩ : ∃ q r : Nat, i = 8 * q + r ∧ r < 8 := ⟨i / 8, i % 8, by omega, by omega⟩
      have hq : q < S.size := by have := unhide HSN; omega
      have hbit := (unhide HG) i q r hqr hr8 hq
      have hcl := hbits.at (k := i) (Nat.zero_le _) (by omega)
      have hth := hbits.thaw i
      have hc := (S[q]).toNat_lt
      have d1 : (i : Int) / 8 = (q : Int) := by omega
      have d2 : (i : Int) % 8 = (r : Int) := by omega
      have hqI : (q : Int) < (n : Int) := by have := unhide HSN; omega
      have HBT := hide hbits
      have HBL := hide hbel
      clear hbits hbel
      have HQR := hide hqr
      clear hqr
      generalize hC : S[q].toNat = C at *
      have hbit' := hide hbit
      clear hbit
      have hr : r = 0 ∨ r = 1 ∨ r = 2 ∨ r = 3 ∨ r = 4 ∨ r = 5 ∨ r = 6 ∨ r = 7 := by omega
      rcases hr with rfl | rfl | rfl | rfl | rfl | rfl | rfl | rfl
      · have hcmp : (((C : Int) / 128 % 2 == 1)) = m i := by
          rw [unhide hbit', Bool.eq_iff_iff]
          simp
          omega
        cases hm : m i with
        | true =>
          rw [hm] at hcmp
          go_wp2
          go_region
          go_wp2
          go_roundw
          case rel => exact ⟨i + 1, by omega, by go_num, ((unhide HBT).set i true 1 rfl).to (Nat.le_refl _) (fun k _ _ => spelt_one hm k), ((unhide HBL).setCell (by simp) _).drew⟩
          case measure => simp [intOf]; omega
        | false =>
          rw [hm] at hcmp
          go_wp2
          go_region
          go_wp2
          go_roundw
          case rel => exact ⟨i + 1, by omega, by go_num, (unhide HBT).to (Nat.le_refl _) (fun k _ _ => spelt_no hm k), (unhide HBL).drew⟩
          case measure => simp [intOf]; omega
      · have hcmp : (((C : Int) / 64 % 2 == 1)) = m i := by
          rw [unhide hbit', Bool.eq_iff_iff]
          simp
          omega
        cases hm : m i with
        | true =>
          rw [hm] at hcmp
          go_wp2
          go_region
          go_wp2
          go_roundw
          case rel => exact ⟨i + 1, by omega, by go_num, ((unhide HBT).set i true 1 rfl).to (Nat.le_refl _) (fun k _ _ => spelt_one hm k), ((unhide HBL).setCell (by simp) _).drew⟩
          case measure => simp [intOf]; omega
        | false =>
          rw [hm] at hcmp
          go_wp2
          go_region
          go_wp2
          go_roundw
          case rel => exact ⟨i + 1, by omega, by go_num, (unhide HBT).to (Nat.le_refl _) (fun k _ _ => spelt_no hm k), (unhide HBL).drew⟩
          case measure => simp [intOf]; omega
      · have hcmp : (((C : Int) / 32 % 2 == 1)) = m i := by
          rw [unhide hbit', Bool.eq_iff_iff]
          simp
          omega
        cases hm : m i with
        | true =>
          rw [hm] at hcmp
          go_wp2
          go_region
          go_wp2
          go_roundw
          case rel => exact ⟨i + 1, by omega, by go_num, ((unhide HBT).set i true 1 rfl).to (Nat.le_refl _) (fun k _ _ => spelt_one hm k), ((unhide HBL).setCell (by simp) _).drew⟩
          case measure => simp [intOf]; omega
        | false =>
          rw [hm] at hcmp
          go_wp2
          go_region
          go_wp2
          go_roundw
          case rel => exact ⟨i + 1, by omega, by go_num, (unhide HBT).to (Nat.le_refl _) (fun k _ _ => spelt_no hm k), (unhide HBL).drew⟩
          case measure => simp [intOf]; omega
      · have hcmp : (((C : Int) / 16 % 2 == 1)) = m i := by
          rw [unhide hbit', Bool.eq_iff_iff]
          simp
          omega
        cases hm : m i with
        | true =>
          rw [hm] at hcmp
          go_wp2
          go_region
          go_wp2
          go_roundw
          case rel => exact ⟨i + 1, by omega, by go_num, ((unhide HBT).set i true 1 rfl).to (Nat.le_refl _) (fun k _ _ => spelt_one hm k), ((unhide HBL).setCell (by simp) _).drew⟩
          case measure => simp [intOf]; omega
        | false =>
          rw [hm] at hcmp
          go_wp2
          go_region
          go_wp2
          go_roundw
          case rel => exact ⟨i + 1, by omega, by go_num, (unhide HBT).to (Nat.le_refl _) (fun k _ _ => spelt_no hm k), (unhide HBL).drew⟩
          case measure => simp [intOf]; omega
      · have hcmp : (((C : Int) / 8 % 2 == 1)) = m i := by
          rw [unhide hbit', Bool.eq_iff_iff]
          simp
          omega
        cases hm : m i with
        | true =>
          rw [hm] at hcmp
          go_wp2
          go_region
          go_wp2
          go_roundw
          case rel => exact ⟨i + 1, by omega, by go_num, ((unhide HBT).set i true 1 rfl).to (Nat.le_refl _) (fun k _ _ => spelt_one hm k), ((unhide HBL).setCell (by simp) _).drew⟩
          case measure => simp [intOf]; omega
        | false =>
          rw [hm] at hcmp
          go_wp2
          go_region
          go_wp2
          go_roundw
          case rel => exact ⟨i + 1, by omega, by go_num, (unhide HBT).to (Nat.le_refl _) (fun k _ _ => spelt_no hm k), (unhide HBL).drew⟩
          case measure => simp [intOf]; omega
      · have hcmp : (((C : Int) / 4 % 2 == 1)) = m i := by
          rw [unhide hbit', Bool.eq_iff_iff]
          simp
          omega
        cases hm : m i with
        | true =>
          rw [hm] at hcmp
          go_wp2
          go_region
          go_wp2
          go_roundw
          case rel => exact ⟨i + 1, by omega, by go_num, ((unhide HBT).set i true 1 rfl).to (Nat.le_refl _) (fun k _ _ => spelt_one hm k), ((unhide HBL).setCell (by simp) _).drew⟩
          case measure => simp [intOf]; omega
        | false =>
          rw [hm] at hcmp
          go_wp2
          go_region
          go_wp2
          go_roundw
          case rel => exact ⟨i + 1, by omega, by go_num, (unhide HBT).to (Nat.le_refl _) (fun k _ _ => spelt_no hm k), (unhide HBL).drew⟩
          case measure => simp [intOf]; omega
      · have hcmp : (((C : Int) / 2 % 2 == 1)) = m i := by
          rw [unhide hbit', Bool.eq_iff_iff]
          simp
          omega
        cases hm : m i with
        | true =>
          rw [hm] at hcmp
          go_wp2
          go_region
          go_wp2
          go_roundw
          case rel => exact ⟨i + 1, by omega, by go_num, ((unhide HBT).set i true 1 rfl).to (Nat.le_refl _) (fun k _ _ => spelt_one hm k), ((unhide HBL).setCell (by simp) _).drew⟩
          case measure => simp [intOf]; omega
        | false =>
          rw [hm] at hcmp
          go_wp2
          go_region
          go_wp2
          go_roundw
          case rel => exact ⟨i + 1, by omega, by go_num, (unhide HBT).to (Nat.le_refl _) (fun k _ _ => spelt_no hm k), (unhide HBL).drew⟩
          case measure => simp [intOf]; omega
      · have hcmp : (((C : Int) % 2 == 1)) = m i := by
          rw [unhide hbit', Bool.eq_iff_iff]
          simp
          omega
        cases hm : m i with
        | true =>
          rw [hm] at hcmp
          go_wp2
          go_region
          go_wp2
          go_roundw
          case rel => exact ⟨i + 1, by omega, by go_num, ((unhide HBT).set i true 1 rfl).to (Nat.le_refl _) (fun k _ _ => spelt_one hm k), ((unhide HBL).setCell (by simp) _).drew⟩
          case measure => simp [intOf]; omega
        | false =>
          rw [hm] at hcmp
          go_wp2
          go_region
          go_wp2
          go_roundw
          case rel => exact ⟨i + 1, by omega, by go_num, (unhide HBT).to (Nat.le_refl _) (fun k _ _ => spelt_no hm k), (unhide HBL).drew⟩
          case measure => simp [intOf]; omega
    · have hie : i = 8 * n := by omega
      have HBT := hide hbits
      have HBL := hide hbel
      clear hbits hbel hi
      subst hie
      go_wp2
      go_ret
      exact ⟨rfl, (unhide HBT).to (Nat.le_refl _) (fun k _ hk => spelt_all (unhide HZ0) k), unhide HBL⟩

end Go.Proofs.Ytblomippkddgiaa
