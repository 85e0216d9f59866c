/-
  The landed code's carry, with whatever carries: its walk, letter by letter.
-/
import Derived.Test.YtblomippkddgiaaVWriterText
namespace Go.Proofs.Ytblomippkddgiaa.V
open Go.RowKit

abbrev box63 (c : Int) (x1 : Int) (a : Option Addr) (n k : Nat) : Obj := .cells #[.int .u8 c, .int .i64 x1, .slice a n k] 75
def Or2 (er : Nat) (A B : World → Prop) (e : Ending) (w : World) : Prop := (e = gaveUp er 0 ∧ A w) ∨ (e = .returned (.tuple #[]) ∧ B w)
def OrN (er : Nat) (A : World → Prop) (B : Int → World → Prop) (e : Ending) (w : World) : Prop := (e = gaveUp er 0 ∧ A w) ∨ ∃ i, e = .returned (.int .i64 i) ∧ B i w
/- which function the number, the text of one that carries is -/
def MNum (tid fn : Nat) (ptr : Addr) : Prop := (∀ w, (method 271 tid (.pointer (some ptr)) "errand/value.number").run Try.prog w = .ok (fn, .pointer (some ptr)) w) ∧ ∀ args w, (callFunc fn args).run Try.prog w = .ok (.enter fn args) w
def MTxt (tid fn : Nat) (ptr : Addr) : Prop := (∀ w, (method 271 tid (.pointer (some ptr)) "errand/value.text").run Try.prog w = .ok (fn, .pointer (some ptr)) w) ∧ ∀ args w, (callFunc fn args).run Try.prog w = .ok (.enter fn args) w

set_option maxRecDepth 100000 in
set_option maxHeartbeats 1000000 in
theorem walk_b (tid fn er : Nat) (ptr : Addr) (hm : MNum tid fn ptr) (w : World) (x1 : Int) (a0 : Option Addr) (n0 k0 : Nat) (A : World → Prop) (B : Int → World → Prop)
    (HN : Calls Try.prog fn #[.pointer (some ptr), .int .i64 0, .int .i64 1] (w.alloc (box63 98 x1 a0 n0 k0)) (OrN er A B)) :
    Calls Try.prog 55 #[.agg #[.int .u8 98, .int .i64 x1, .slice a0 n0 k0], .iface tid (.pointer (some ptr))] w (Or2 er A fun w' => ∃ i, B i w') := by
  obtain ⟨hm1, hm2⟩ := hm
  have HNN := hide HN
  clear HN
  go_enter Try.func55, Try.ntmps55
  go_wp2_with fail
  refine (unhide HNN).mono ?_
  rintro e w1 (⟨rfl, hA⟩ | ⟨i, rfl, hB⟩)
  · go_wp2
    exact ⟨rfl, Or.inl ⟨rfl, hA⟩⟩
  · go_wp2
    go_end0
    exact Or.inr ⟨rfl, i, hB⟩

set_option maxRecDepth 100000 in
set_option maxHeartbeats 1000000 in
theorem walk_c (tid fn er : Nat) (ptr : Addr) (hm : MNum tid fn ptr) (w : World) (x1 : Int) (a0 : Option Addr) (n0 k0 : Nat) (A : World → Prop) (B : Int → World → Prop)
    (HN : Calls Try.prog fn #[.pointer (some ptr), .int .i64 0, .int .i64 65535] (w.alloc (box63 99 x1 a0 n0 k0)) (OrN er A B)) :
    Calls Try.prog 55 #[.agg #[.int .u8 99, .int .i64 x1, .slice a0 n0 k0], .iface tid (.pointer (some ptr))] w (Or2 er A fun w' => ∃ i, B i w') := by
  obtain ⟨hm1, hm2⟩ := hm
  have HNN := hide HN
  clear HN
  go_enter Try.func55, Try.ntmps55
  go_wp2_with fail
  refine (unhide HNN).mono ?_
  rintro e w1 (⟨rfl, hA⟩ | ⟨i, rfl, hB⟩)
  · go_wp2
    exact ⟨rfl, Or.inl ⟨rfl, hA⟩⟩
  · go_wp2
    go_end0
    exact Or.inr ⟨rfl, i, hB⟩

set_option maxRecDepth 100000 in
set_option maxHeartbeats 1000000 in
theorem walk_i (tid fn er : Nat) (ptr : Addr) (hm : MNum tid fn ptr) (w : World) (x1 : Int) (a0 : Option Addr) (n0 k0 : Nat) (A : World → Prop) (B : Int → World → Prop)
    (HN : Calls Try.prog fn #[.pointer (some ptr), .int .i64 (-32768), .int .i64 32767] (w.alloc (box63 105 x1 a0 n0 k0)) (OrN er A B)) :
    Calls Try.prog 55 #[.agg #[.int .u8 105, .int .i64 x1, .slice a0 n0 k0], .iface tid (.pointer (some ptr))] w (Or2 er A fun w' => ∃ i, B i w') := by
  obtain ⟨hm1, hm2⟩ := hm
  have HNN := hide HN
  clear HN
  go_enter Try.func55, Try.ntmps55
  go_wp2_with fail
  refine (unhide HNN).mono ?_
  rintro e w1 (⟨rfl, hA⟩ | ⟨i, rfl, hB⟩)
  · go_wp2
    exact ⟨rfl, Or.inl ⟨rfl, hA⟩⟩
  · go_wp2
    go_end0
    exact Or.inr ⟨rfl, i, hB⟩

set_option maxRecDepth 100000 in
set_option maxHeartbeats 1000000 in
theorem walk_e (tid fn er : Nat) (ptr : Addr) (hm : MNum tid fn ptr) (w : World) (x1 : Int) (a0 : Option Addr) (n0 k0 : Nat) (A : World → Prop) (B : Int → World → Prop) (hx : 0 ≤ x1 ∧ x1 ≤ 9)
    (HN : Calls Try.prog fn #[.pointer (some ptr), .int .i64 0, .int .i64 (x1 - 1)] (w.alloc (box63 101 x1 a0 n0 k0)) (OrN er A B)) :
    Calls Try.prog 55 #[.agg #[.int .u8 101, .int .i64 x1, .slice a0 n0 k0], .iface tid (.pointer (some ptr))] w (Or2 er A fun w' => ∃ i, B i w') := by
  obtain ⟨hm1, hm2⟩ := hm
  have HNN := hide HN
  clear HN
  go_enter Try.func55, Try.ntmps55
  go_wp2_with fail
  refine (unhide HNN).mono ?_
  rintro e w1 (⟨rfl, hA⟩ | ⟨i, rfl, hB⟩)
  · go_wp2
    exact ⟨rfl, Or.inl ⟨rfl, hA⟩⟩
  · go_wp2
    go_end0
    exact Or.inr ⟨rfl, i, hB⟩

set_option maxRecDepth 100000 in
set_option maxHeartbeats 1000000 in
theorem walk_s (tid fn er : Nat) (ptr : Addr) (hm : MTxt tid fn ptr) (w : World) (x1 : Int) (a0 : Option Addr) (n0 k0 : Nat) (A B : World → Prop)
    (HN : Calls Try.prog fn #[.pointer (some ptr)] (w.alloc (box63 115 x1 a0 n0 k0)) (Or2 er A B)) :
    Calls Try.prog 55 #[.agg #[.int .u8 115, .int .i64 x1, .slice a0 n0 k0], .iface tid (.pointer (some ptr))] w (Or2 er A B) := by
  obtain ⟨hm1, hm2⟩ := hm
  have HNN := hide HN
  clear HN
  go_enter Try.func55, Try.ntmps55
  go_wp2_with fail
  refine (unhide HNN).mono ?_
  rintro e w1 (⟨rfl, hA⟩ | ⟨rfl, hB⟩)
  · go_wp2
    exact ⟨rfl, Or.inl ⟨rfl, hA⟩⟩
  · go_wp2
    go_end0
    exact Or.inr ⟨rfl, hB⟩

set_option maxRecDepth 100000 in
set_option maxHeartbeats 1000000 in
theorem walk_a (tid er : Nat) (ptr : Addr) (w : World) (x1 : Int) (g n0 k0 : Nat) (y0 y1 : Int) (ya : Option Addr) (yn yk : Nat) (A B : World → Prop) (hn : 0 < n0)
    (f0 : ∀ o, (w.alloc o).cell? ⟨g, 0, none⟩ = some (.int .u8 y0)) (f1 : ∀ o, (w.alloc o).cell? ⟨g, 1, none⟩ = some (.int .i64 y1)) (f2 : ∀ o, (w.alloc o).cell? ⟨g, 2, none⟩ = some (.slice ya yn yk))
    (HT : Calls Try.prog 75 #[.int .i64 x1, .agg #[.int .u8 y0, .int .i64 y1, .slice ya yn yk], .iface tid (.pointer (some ptr))] (w.alloc (box63 97 x1 (some ⟨g, 0, none⟩) n0 k0)).drew (Or2 er A B)) :
    Calls Try.prog 55 #[.agg #[.int .u8 97, .int .i64 x1, .slice (some ⟨g, 0, none⟩) n0 k0], .iface tid (.pointer (some ptr))] w (Or2 er A B) := by
  have HTT := hide HT
  clear HT
  go_enter Try.func55, Try.ntmps55
  go_wp2_with fail
  go_region_with (go_at_call 75; refine (unhide HTT).mono ?_; rintro e w1 (⟨rfl, hA⟩ | ⟨rfl, hB⟩); focus (go_wp2; exact ⟨rfl, Or.inl ⟨rfl, hA⟩⟩))
  all_goals
    go_wp2
    go_end0
    exact Or.inr ⟨rfl, hB⟩

set_option maxRecDepth 100000 in
set_option maxHeartbeats 1000000 in
theorem walk_q (tid fn er : Nat) (ptr : Addr) (hm : MNum tid fn ptr) (w : World) (x1 : Int) (g n0 k0 : Nat) (y0 y1 : Int) (ya : Option Addr) (yn yk : Nat) (A B : World → Prop) (N : Int → World → Prop) (hn : 0 < n0)
    (HN : Calls Try.prog fn #[.pointer (some ptr), .int .i64 0, .int .i64 x1] (w.alloc (box63 113 x1 (some ⟨g, 0, none⟩) n0 k0)) (OrN er A N))
    (hN : ∀ i w', N i w' → w'.cell? ⟨w.heap.size, 2, none⟩ = some (.slice (some ⟨g, 0, none⟩) n0 k0) ∧ w'.cell? ⟨g, 0, none⟩ = some (.int .u8 y0) ∧ w'.cell? ⟨g, 1, none⟩ = some (.int .i64 y1) ∧ w'.cell? ⟨g, 2, none⟩ = some (.slice ya yn yk) ∧
      Calls Try.prog 75 #[.int .i64 i, .agg #[.int .u8 y0, .int .i64 y1, .slice ya yn yk], .iface tid (.pointer (some ptr))] w' (Or2 er A B)) :
    Calls Try.prog 55 #[.agg #[.int .u8 113, .int .i64 x1, .slice (some ⟨g, 0, none⟩) n0 k0], .iface tid (.pointer (some ptr))] w (Or2 er A B) := by
  obtain ⟨hm1, hm2⟩ := hm
  have HNN := hide HN
  have HNT := hide hN
  clear HN hN
  go_enter Try.func55, Try.ntmps55
  go_wp2_with fail
  refine (unhide HNN).mono ?_
  rintro e w1 (⟨rfl, hA⟩ | ⟨i, rfl, hB⟩)
  · go_wp2
    exact ⟨rfl, Or.inl ⟨rfl, hA⟩⟩
  · obtain ⟨b2, f0, f1, f2, hT⟩ := (unhide HNT) i w1 hB
    have HTT := hide hT
    clear hT hB
    go_wp2_with fail
    refine (unhide HTT).mono ?_
    rintro e w2 (⟨rfl, hA⟩ | ⟨rfl, hB⟩)
    · go_wp2
      exact ⟨rfl, Or.inl ⟨rfl, hA⟩⟩
    · go_wp2
      go_end0
      exact Or.inr ⟨rfl, hB⟩

set_option maxRecDepth 100000 in
set_option maxHeartbeats 1000000 in
theorem walk_u (tid fn er : Nat) (ptr : Addr) (hm : MNum tid fn ptr) (w : World) (x1 : Int) (g n0 k0 : Nat) (A B : World → Prop) (N : Nat → World → Prop) (hn : n0 ≤ 6)
    (HN : Calls Try.prog fn #[.pointer (some ptr), .int .i64 0, .int .i64 ((n0 : Int) - 1)] (w.alloc (box63 117 x1 (some ⟨g, 0, none⟩) n0 k0)) (OrN er A fun i w' => ∃ j : Nat, i = j ∧ j < n0 ∧ N j w'))
    (hN : ∀ j w', N j w' → ∃ y0 y1 ya yn yk, w'.cell? ⟨w.heap.size, 2, none⟩ = some (.slice (some ⟨g, 0, none⟩) n0 k0) ∧ w'.cell? ⟨g, j * 3, none⟩ = some (.int .u8 y0) ∧ w'.cell? ⟨g, j * 3 + 1, none⟩ = some (.int .i64 y1) ∧ w'.cell? ⟨g, j * 3 + 2, none⟩ = some (.slice ya yn yk) ∧
      Calls Try.prog 55 #[.agg #[.int .u8 y0, .int .i64 y1, .slice ya yn yk], .iface tid (.pointer (some ptr))] w' (Or2 er A B)) :
    Calls Try.prog 55 #[.agg #[.int .u8 117, .int .i64 x1, .slice (some ⟨g, 0, none⟩) n0 k0], .iface tid (.pointer (some ptr))] w (Or2 er A B) := by
  obtain ⟨hm1, hm2⟩ := hm
  have HNN := hide HN
  have HNT := hide hN
  clear HN hN
  go_enter Try.func55, Try.ntmps55
  go_wp2_with fail
  refine (unhide HNN).mono ?_
  rintro e w1 (⟨rfl, hA⟩ | ⟨i, rfl, j, rfl, hj, hB⟩)
  · go_wp2
    exact ⟨rfl, Or.inl ⟨rfl, hA⟩⟩
  · obtain ⟨y0, y1, ya, yn, yk, b2, f0, f1, f2, hT⟩ := (unhide HNT) j w1 hB
    have HTT := hide hT
    clear hT hB
    go_wp2_with fail
    refine (unhide HTT).mono ?_
    rintro e w2 (⟨rfl, hA⟩ | ⟨rfl, hB⟩)
    · go_wp2
      exact ⟨rfl, Or.inl ⟨rfl, hA⟩⟩
    · go_wp2
      go_end0
      exact Or.inr ⟨rfl, hB⟩

set_option maxRecDepth 100000 in
set_option maxHeartbeats 1000000 in
theorem walk_r (tid er : Nat) (ptr : Addr) (w : World) (x1 : Int) (va : Option Addr) (n0 k0 : Nat) (A : World → Prop) (I : Nat → World → Prop) (hn : n0 ≤ 6) (h0 : I 0 (w.alloc (box63 114 x1 va n0 k0)))
    (hI : ∀ j w', j < n0 → I j w' → ∃ g y0 y1 ya yn yk, va = some ⟨g, 0, none⟩ ∧ w'.cell? ⟨g, j * 3, none⟩ = some (.int .u8 y0) ∧ w'.cell? ⟨g, j * 3 + 1, none⟩ = some (.int .i64 y1) ∧ w'.cell? ⟨g, j * 3 + 2, none⟩ = some (.slice ya yn yk) ∧
      Calls Try.prog 55 #[.agg #[.int .u8 y0, .int .i64 y1, .slice ya yn yk], .iface tid (.pointer (some ptr))] (w'.alloc (.cells #[.int .u8 y0, .int .i64 y1, .slice ya yn yk] 75)) (Or2 er A (I (j + 1)))) :
    Calls Try.prog 55 #[.agg #[.int .u8 114, .int .i64 x1, .slice va n0 k0], .iface tid (.pointer (some ptr))] w (Or2 er A (I n0)) := by
  have H0 := hide h0
  have HII := hide hI
  clear h0 hI
  go_enter Try.func55, Try.ntmps55
  go_wp2
  go_loopw [61] (fun i wr => ∃ k : Nat, k ≤ n0 ∧ i = .int .i64 k ∧ I k wr) (fun i _ => n0 - (intOf i).toNat)
  case atStart => exact ⟨0, Nat.zero_le _, rfl, unhide H0⟩
  case round =>
    obtain ⟨k, hk, rfl, hIk⟩ := hrel
    by_cases hlt : k < n0
    · obtain ⟨g, y0, y1, ya, yn, yk, rfl, f0, f1, f2, hT⟩ := (unhide HII) k wr hlt hIk
      have HTT := hide hT
      clear hT hIk
      go_wp2_with fail
      refine (unhide HTT).mono ?_
      rintro e w2 (⟨rfl, hA⟩ | ⟨rfl, hB⟩)
      · go_wp2
        exact ⟨rfl, Or.inl ⟨rfl, hA⟩⟩
      · have HB := hide hB
        clear hB f0 f1 f2
        go_wp2
        go_roundw
        case rel => exact ⟨k + 1, by omega, by go_num, unhide HB⟩
        case measure => simp [intOf]; omega
    · obtain rfl : k = n0 := by omega
      have HB := hide hIk
      clear hIk
      go_wp2
      go_end0
      exact Or.inr ⟨rfl, unhide HB⟩

set_option maxRecDepth 100000 in
set_option maxHeartbeats 1000000 in
theorem walk_times (tid er : Nat) (ptr : Addr) (w : World) (y0 y1 : Int) (ya : Option Addr) (yn yk n : Nat) (A : World → Prop) (I : Nat → World → Prop) (hn : n ≤ 9) (h0 : I 0 (w.alloc (.cells #[.int .u8 y0, .int .i64 y1, .slice ya yn yk] 75)))
    (hI : ∀ j w', j < n → I j w' → w'.cell? ⟨w.heap.size, 0, none⟩ = some (.int .u8 y0) ∧ w'.cell? ⟨w.heap.size, 1, none⟩ = some (.int .i64 y1) ∧ w'.cell? ⟨w.heap.size, 2, none⟩ = some (.slice ya yn yk) ∧
      Calls Try.prog 55 #[.agg #[.int .u8 y0, .int .i64 y1, .slice ya yn yk], .iface tid (.pointer (some ptr))] w' (Or2 er A (I (j + 1)))) :
    Calls Try.prog 75 #[.int .i64 n, .agg #[.int .u8 y0, .int .i64 y1, .slice ya yn yk], .iface tid (.pointer (some ptr))] w (Or2 er A (I n)) := by
  have H0 := hide h0
  have HII := hide hI
  clear h0 hI
  go_enter Try.func75, Try.ntmps75
  go_wp2
  go_loopw [7] (fun i wr => ∃ k : Nat, k ≤ n ∧ i = .int .i64 k ∧ I k wr) (fun i _ => n - (intOf i).toNat)
  case atStart => exact ⟨0, Nat.zero_le _, rfl, unhide H0⟩
  case round =>
    obtain ⟨k, hk, rfl, hIk⟩ := hrel
    by_cases hlt : k < n
    · obtain ⟨f0, f1, f2, hT⟩ := (unhide HII) k wr hlt hIk
      have HTT := hide hT
      clear hT hIk
      go_wp2_with fail
      refine (unhide HTT).mono ?_
      rintro e w2 (⟨rfl, hA⟩ | ⟨rfl, hB⟩)
      · go_wp2
        exact ⟨rfl, Or.inl ⟨rfl, hA⟩⟩
      · have HB := hide hB
        clear hB f0 f1 f2
        go_wp2
        go_roundw
        case rel => exact ⟨k + 1, by omega, by go_num, unhide HB⟩
        case measure => simp [intOf]; omega
    · obtain rfl : k = n := by omega
      have HB := hide hIk
      clear hIk
      go_wp2
      go_end0
      exact Or.inr ⟨rfl, unhide HB⟩

end Go.Proofs.Ytblomippkddgiaa.V
