/-
  The document's own look whether a packet is right.
-/
import Derived.Test.YtblomippkddgiaaRight
namespace Go.Proofs.Ytblomippkddgiaa
open Go.RowKit

abbrev boxW (w : World) (k c li ln sq u pa o : Int) (pl : Bool) (S : ByteArray) : World := w.alloc (.cells #[.int .i64 k, .int .i64 c, .int .i64 li, .int .i64 ln, .int .i64 sq, .int .i64 u, .int .i64 pa, .int .i64 o, .bool pl, .string S] 59)
theorem boxW_below (w : World) (k c li ln sq u pa o : Int) (pl : Bool) (S : ByteArray) : Below w.heap.size w (boxW w k c li ln sq u pa o pl S) := (Below.refl _ _).alloc (Nat.le_refl _) _
abbrev saysR (b : Bool) (w : World) : Ending → World → Prop := fun e w' => e = .returned (.bool b) ∧ Below w.heap.size w w'

set_option maxRecDepth 100000 in
set_option maxHeartbeats 1000000 in
theorem refRight_no0 (k c li ln sq u pa o : Int) (pl : Bool) (S : ByteArray) (w : World)  (h0 : k < 1) : Calls Try.prog 69 #[pvs k c li ln sq u pa o pl S] w (saysR false w) := by
  have HB := hide (boxW_below w k c li ln sq u pa o pl S)
  go_enter Try.func69, Try.ntmps69
  go_wp2
  go_ret
  exact ⟨rfl, unhide HB⟩

set_option maxRecDepth 100000 in
set_option maxHeartbeats 1000000 in
theorem refRight_no1 (k c li ln sq u pa o : Int) (pl : Bool) (S : ByteArray) (w : World) (h0 : ¬ k < 1) (h1 : 7 < k) : Calls Try.prog 69 #[pvs k c li ln sq u pa o pl S] w (saysR false w) := by
  have HB := hide (boxW_below w k c li ln sq u pa o pl S)
  go_enter Try.func69, Try.ntmps69
  go_wp2
  go_ret
  exact ⟨rfl, unhide HB⟩

set_option maxRecDepth 100000 in
set_option maxHeartbeats 1000000 in
theorem refRight_no2 (k c li ln sq u pa o : Int) (pl : Bool) (S : ByteArray) (w : World) (h0 : ¬ k < 1) (h1 : ¬ 7 < k) (h2 : c < 0) : Calls Try.prog 69 #[pvs k c li ln sq u pa o pl S] w (saysR false w) := by
  have HB := hide (boxW_below w k c li ln sq u pa o pl S)
  go_enter Try.func69, Try.ntmps69
  go_wp2
  go_ret
  exact ⟨rfl, unhide HB⟩

set_option maxRecDepth 100000 in
set_option maxHeartbeats 1000000 in
theorem refRight_no3 (k c li ln sq u pa o : Int) (pl : Bool) (S : ByteArray) (w : World) (h0 : ¬ k < 1) (h1 : ¬ 7 < k) (h2 : ¬ c < 0) (h3 : 2 < c) : Calls Try.prog 69 #[pvs k c li ln sq u pa o pl S] w (saysR false w) := by
  have HB := hide (boxW_below w k c li ln sq u pa o pl S)
  go_enter Try.func69, Try.ntmps69
  go_wp2
  go_ret
  exact ⟨rfl, unhide HB⟩

set_option maxRecDepth 100000 in
set_option maxHeartbeats 1000000 in
theorem refRight_no4 (k c li ln sq u pa o : Int) (pl : Bool) (S : ByteArray) (w : World) (h0 : ¬ k < 1) (h1 : ¬ 7 < k) (h2 : ¬ c < 0) (h3 : ¬ 2 < c) (h4 : li < 1) : Calls Try.prog 69 #[pvs k c li ln sq u pa o pl S] w (saysR false w) := by
  have HB := hide (boxW_below w k c li ln sq u pa o pl S)
  go_enter Try.func69, Try.ntmps69
  go_wp2
  go_ret
  exact ⟨rfl, unhide HB⟩

set_option maxRecDepth 100000 in
set_option maxHeartbeats 1000000 in
theorem refRight_no5 (k c li ln sq u pa o : Int) (pl : Bool) (S : ByteArray) (w : World) (h0 : ¬ k < 1) (h1 : ¬ 7 < k) (h2 : ¬ c < 0) (h3 : ¬ 2 < c) (h4 : ¬ li < 1) (h5 : 255 < li) : Calls Try.prog 69 #[pvs k c li ln sq u pa o pl S] w (saysR false w) := by
  have HB := hide (boxW_below w k c li ln sq u pa o pl S)
  go_enter Try.func69, Try.ntmps69
  go_wp2
  go_ret
  exact ⟨rfl, unhide HB⟩

set_option maxRecDepth 100000 in
set_option maxHeartbeats 1000000 in
theorem refRight_no6 (k c li ln sq u pa o : Int) (pl : Bool) (S : ByteArray) (w : World) (h0 : ¬ k < 1) (h1 : ¬ 7 < k) (h2 : ¬ c < 0) (h3 : ¬ 2 < c) (h4 : ¬ li < 1) (h5 : ¬ 255 < li) (h6 : ln < 0) : Calls Try.prog 69 #[pvs k c li ln sq u pa o pl S] w (saysR false w) := by
  have HB := hide (boxW_below w k c li ln sq u pa o pl S)
  go_enter Try.func69, Try.ntmps69
  go_wp2
  go_ret
  exact ⟨rfl, unhide HB⟩

set_option maxRecDepth 100000 in
set_option maxHeartbeats 1000000 in
theorem refRight_no7 (k c li ln sq u pa o : Int) (pl : Bool) (S : ByteArray) (w : World) (h0 : ¬ k < 1) (h1 : ¬ 7 < k) (h2 : ¬ c < 0) (h3 : ¬ 2 < c) (h4 : ¬ li < 1) (h5 : ¬ 255 < li) (h6 : ¬ ln < 0) (h7 : 2 < ln) : Calls Try.prog 69 #[pvs k c li ln sq u pa o pl S] w (saysR false w) := by
  have HB := hide (boxW_below w k c li ln sq u pa o pl S)
  go_enter Try.func69, Try.ntmps69
  go_wp2
  go_ret
  exact ⟨rfl, unhide HB⟩

set_option maxRecDepth 100000 in
set_option maxHeartbeats 1000000 in
theorem refRight_no8 (k c li ln sq u pa o : Int) (pl : Bool) (S : ByteArray) (w : World) (h0 : ¬ k < 1) (h1 : ¬ 7 < k) (h2 : ¬ c < 0) (h3 : ¬ 2 < c) (h4 : ¬ li < 1) (h5 : ¬ 255 < li) (h6 : ¬ ln < 0) (h7 : ¬ 2 < ln) (h8 : sq < 1) : Calls Try.prog 69 #[pvs k c li ln sq u pa o pl S] w (saysR false w) := by
  have HB := hide (boxW_below w k c li ln sq u pa o pl S)
  go_enter Try.func69, Try.ntmps69
  go_wp2
  go_ret
  exact ⟨rfl, unhide HB⟩

set_option maxRecDepth 100000 in
set_option maxHeartbeats 1000000 in
theorem refRight_no9 (k c li ln sq u pa o : Int) (pl : Bool) (S : ByteArray) (w : World) (h0 : ¬ k < 1) (h1 : ¬ 7 < k) (h2 : ¬ c < 0) (h3 : ¬ 2 < c) (h4 : ¬ li < 1) (h5 : ¬ 255 < li) (h6 : ¬ ln < 0) (h7 : ¬ 2 < ln) (h8 : ¬ sq < 1) (h9 : 999 < sq) : Calls Try.prog 69 #[pvs k c li ln sq u pa o pl S] w (saysR false w) := by
  have HB := hide (boxW_below w k c li ln sq u pa o pl S)
  go_enter Try.func69, Try.ntmps69
  go_wp2
  go_ret
  exact ⟨rfl, unhide HB⟩

set_option maxRecDepth 100000 in
set_option maxHeartbeats 1000000 in
theorem refRight_no10 (k c li ln sq u pa o : Int) (pl : Bool) (S : ByteArray) (w : World) (h0 : ¬ k < 1) (h1 : ¬ 7 < k) (h2 : ¬ c < 0) (h3 : ¬ 2 < c) (h4 : ¬ li < 1) (h5 : ¬ 255 < li) (h6 : ¬ ln < 0) (h7 : ¬ 2 < ln) (h8 : ¬ sq < 1) (h9 : ¬ 999 < sq) (h10 : u < 1) : Calls Try.prog 69 #[pvs k c li ln sq u pa o pl S] w (saysR false w) := by
  have HB := hide (boxW_below w k c li ln sq u pa o pl S)
  go_enter Try.func69, Try.ntmps69
  go_wp2
  go_ret
  exact ⟨rfl, unhide HB⟩

set_option maxRecDepth 100000 in
set_option maxHeartbeats 1000000 in
theorem refRight_no11 (k c li ln sq u pa o : Int) (pl : Bool) (S : ByteArray) (w : World) (h0 : ¬ k < 1) (h1 : ¬ 7 < k) (h2 : ¬ c < 0) (h3 : ¬ 2 < c) (h4 : ¬ li < 1) (h5 : ¬ 255 < li) (h6 : ¬ ln < 0) (h7 : ¬ 2 < ln) (h8 : ¬ sq < 1) (h9 : ¬ 999 < sq) (h10 : ¬ u < 1) (h11 : 255 < u) : Calls Try.prog 69 #[pvs k c li ln sq u pa o pl S] w (saysR false w) := by
  have HB := hide (boxW_below w k c li ln sq u pa o pl S)
  go_enter Try.func69, Try.ntmps69
  go_wp2
  go_ret
  exact ⟨rfl, unhide HB⟩

set_option maxRecDepth 100000 in
set_option maxHeartbeats 1000000 in
theorem refRight_no12 (k c li ln sq u pa o : Int) (pl : Bool) (S : ByteArray) (w : World) (h0 : ¬ k < 1) (h1 : ¬ 7 < k) (h2 : ¬ c < 0) (h3 : ¬ 2 < c) (h4 : ¬ li < 1) (h5 : ¬ 255 < li) (h6 : ¬ ln < 0) (h7 : ¬ 2 < ln) (h8 : ¬ sq < 1) (h9 : ¬ 999 < sq) (h10 : ¬ u < 1) (h11 : ¬ 255 < u) (h12 : o < 1) : Calls Try.prog 69 #[pvs k c li ln sq u pa o pl S] w (saysR false w) := by
  have HB := hide (boxW_below w k c li ln sq u pa o pl S)
  go_enter Try.func69, Try.ntmps69
  go_wp2
  go_ret
  exact ⟨rfl, unhide HB⟩

set_option maxRecDepth 100000 in
set_option maxHeartbeats 1000000 in
theorem refRight_no13 (k c li ln sq u pa o : Int) (pl : Bool) (S : ByteArray) (w : World) (h0 : ¬ k < 1) (h1 : ¬ 7 < k) (h2 : ¬ c < 0) (h3 : ¬ 2 < c) (h4 : ¬ li < 1) (h5 : ¬ 255 < li) (h6 : ¬ ln < 0) (h7 : ¬ 2 < ln) (h8 : ¬ sq < 1) (h9 : ¬ 999 < sq) (h10 : ¬ u < 1) (h11 : ¬ 255 < u) (h12 : ¬ o < 1) (h13 : 9 < o) : Calls Try.prog 69 #[pvs k c li ln sq u pa o pl S] w (saysR false w) := by
  have HB := hide (boxW_below w k c li ln sq u pa o pl S)
  go_enter Try.func69, Try.ntmps69
  go_wp2
  go_ret
  exact ⟨rfl, unhide HB⟩

set_option maxRecDepth 100000 in
set_option maxHeartbeats 1000000 in
theorem refRight_no14 (k c li ln sq u pa o : Int) (pl : Bool) (S : ByteArray) (w : World) (h0 : ¬ k < 1) (h1 : ¬ 7 < k) (h2 : ¬ c < 0) (h3 : ¬ 2 < c) (h4 : ¬ li < 1) (h5 : ¬ 255 < li) (h6 : ¬ ln < 0) (h7 : ¬ 2 < ln) (h8 : ¬ sq < 1) (h9 : ¬ 999 < sq) (h10 : ¬ u < 1) (h11 : ¬ 255 < u) (h12 : ¬ o < 1) (h13 : ¬ 9 < o) (h14 : pa < 0) : Calls Try.prog 69 #[pvs k c li ln sq u pa o pl S] w (saysR false w) := by
  have HB := hide (boxW_below w k c li ln sq u pa o pl S)
  go_enter Try.func69, Try.ntmps69
  go_wp2
  go_ret
  exact ⟨rfl, unhide HB⟩

set_option maxRecDepth 100000 in
set_option maxHeartbeats 1000000 in
theorem refRight_no15 (k c li ln sq u pa o : Int) (pl : Bool) (S : ByteArray) (w : World) (h0 : ¬ k < 1) (h1 : ¬ 7 < k) (h2 : ¬ c < 0) (h3 : ¬ 2 < c) (h4 : ¬ li < 1) (h5 : ¬ 255 < li) (h6 : ¬ ln < 0) (h7 : ¬ 2 < ln) (h8 : ¬ sq < 1) (h9 : ¬ 999 < sq) (h10 : ¬ u < 1) (h11 : ¬ 255 < u) (h12 : ¬ o < 1) (h13 : ¬ 9 < o) (h14 : ¬ pa < 0) (h15 : o ≤ pa) : Calls Try.prog 69 #[pvs k c li ln sq u pa o pl S] w (saysR false w) := by
  have HB := hide (boxW_below w k c li ln sq u pa o pl S)
  go_enter Try.func69, Try.ntmps69
  go_wp2
  go_ret
  exact ⟨rfl, unhide HB⟩

end Go.Proofs.Ytblomippkddgiaa
