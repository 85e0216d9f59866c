/-
  Joined: VBegins.
-/
import Derived.Test.YtblomippkddgiaaGreatDoorJ03
import Derived.Maps.AppendAt
import Derived.Laws.AppendOwnNone
/-
  The document's own Check: what is wanted, as a list in memory; which bytes begin a type.
-/
namespace Go.Proofs.YtblomippkddgiaaGreatDoor.V
open Go.RowKit

abbrev Want := Nat × Nat × Nat
def wc (x : Want) : List Value := [.int .i64 x.1, .int .i64 x.2.1, .int .i64 x.2.2]
/- the cells of a stack; its top is the slice's last element -/
def wcells (S : List Want) : List Value := S.reverse.flatMap wc

def Stk (w : World) (B : Nat) (v : Value) (S : List Want) : Prop := w.ownsRow B 293 3 v S.length (wcells S)

theorem wcells_len (S : List Want) : (wcells S).length = S.length * 3 := by
  unfold wcells
  induction S with
  | nil => rfl
  | cons x S ih => simp only [List.reverse_cons, List.flatMap_append, List.length_append, ih, List.length_cons]; simp [wc]; omega

theorem wcells_append (S R : List Want) : wcells (S ++ R) = wcells R ++ wcells S := by
  unfold wcells
  rw [List.reverse_append, List.flatMap_append]

theorem wcells_one (S : List Want) : ∀ u ∈ wcells S, u.oneCell' = true := by
  intro u hu
  unfold wcells at hu
  rw [List.mem_flatMap] at hu
  obtain ⟨x, _, hx⟩ := hu
  simp [wc] at hx
  rcases hx with rfl | rfl | rfl <;> rfl

theorem stk_nil (w : World) (B : Nat) : Stk w B (.slice none 0 0) [] := World.ownsRow_nil _ _ _ _

theorem stk_block {w : World} {B m n : Nat} {l : List Want} (cur : Array Value) (h : w.heap[m]? = some (.cells cur 293 (0, 0))) (hB : B ≤ m) (hn : n = l.length) (hl : cur.toList = wcells l) (hm : n ≤ 100) : Stk w B (.slice (some ⟨m, 0, none⟩) n n) l := by
  subst hn
  refine ⟨wcells_len l, Or.inr ⟨m, l.length, cur, rfl, hB, h, Nat.le_refl _, by unfold maxLen; omega, ?_, ?_⟩⟩
  · have := wcells_len l
    rw [← hl] at this
    simpa using this
  · rw [hl, List.take_of_length_le (by rw [wcells_len]; omega)]

theorem stk_new {B m n : Nat} {l : List Want} (X : World) (cur : Array Value) (hX : X.heap.size = m) (hB : B ≤ m) (hn : n = l.length) (hl : cur.toList = wcells l) (hm : n ≤ 100) : Stk (X.alloc (.cells cur 293)) B (.slice (some ⟨m, 0, none⟩) n n) l := by
  subst hX
  refine stk_block cur ?_ hB hn hl hm
  show (X.heap.push _)[X.heap.size]? = _
  rw [Array.getElem?_push_size]

def BeginPost (c L : Nat) (w : World) (e : Ending) (w' : World) : Prop :=
  ∃ v, e = .returned (.tuple #[v, .bool (Pt.begins c L).isSome]) ∧ Below w.heap.size w w' ∧ Stk w' w.heap.size v ((Pt.begins c L).getD [])

set_option maxHeartbeats 400000 in
theorem begins_98 (L : Nat) (w : World) (_hL : L ≤ 1000) : Calls Tryz.prog 238 #[.int .u8 98, .int .i64 L] w (BeginPost 98 L w) := by
  have hx : Pt.begins 98 L = some [] := by simp [Pt.begins, Pt.isLeaf]
  unfold BeginPost
  rw [hx]
  go_enter Tryz.func238, Tryz.ntmps238
  go_wp2
  go_ret2
  exact ⟨_, rfl, (Below.refl _ _).alloc (Nat.le_refl _) _, stk_nil _ _⟩

set_option maxHeartbeats 400000 in
theorem begins_99 (L : Nat) (w : World) (_hL : L ≤ 1000) : Calls Tryz.prog 238 #[.int .u8 99, .int .i64 L] w (BeginPost 99 L w) := by
  have hx : Pt.begins 99 L = some [] := by simp [Pt.begins, Pt.isLeaf]
  unfold BeginPost
  rw [hx]
  go_enter Tryz.func238, Tryz.ntmps238
  go_wp2
  go_ret2
  exact ⟨_, rfl, (Below.refl _ _).alloc (Nat.le_refl _) _, stk_nil _ _⟩

set_option maxHeartbeats 400000 in
theorem begins_105 (L : Nat) (w : World) (_hL : L ≤ 1000) : Calls Tryz.prog 238 #[.int .u8 105, .int .i64 L] w (BeginPost 105 L w) := by
  have hx : Pt.begins 105 L = some [] := by simp [Pt.begins, Pt.isLeaf]
  unfold BeginPost
  rw [hx]
  go_enter Tryz.func238, Tryz.ntmps238
  go_wp2
  go_ret2
  exact ⟨_, rfl, (Below.refl _ _).alloc (Nat.le_refl _) _, stk_nil _ _⟩

set_option maxHeartbeats 400000 in
theorem begins_115 (L : Nat) (w : World) (_hL : L ≤ 1000) : Calls Tryz.prog 238 #[.int .u8 115, .int .i64 L] w (BeginPost 115 L w) := by
  have hx : Pt.begins 115 L = some [] := by simp [Pt.begins, Pt.isLeaf]
  unfold BeginPost
  rw [hx]
  go_enter Tryz.func238, Tryz.ntmps238
  go_wp2
  go_ret2
  exact ⟨_, rfl, (Below.refl _ _).alloc (Nat.le_refl _) _, stk_nil _ _⟩

set_option maxHeartbeats 400000 in
theorem begins_101 (L : Nat) (w : World) (_hL : L ≤ 1000) : Calls Tryz.prog 238 #[.int .u8 101, .int .i64 L] w (BeginPost 101 L w) := by
  have hx : Pt.begins 101 L = some [(2, 0, 0)] := by simp [Pt.begins, Pt.isLeaf]
  unfold BeginPost
  rw [hx]
  go_enter Tryz.func238, Tryz.ntmps238
  go_wp2
  go_ret2
  refine ⟨_, rfl, ((Below.refl _ _).alloc (Nat.le_refl _) _).alloc (by simp) _, ?_⟩
  exact stk_new _ _ (by simp) (by omega) rfl (by simp [wcells, wc]) (by simp)

set_option maxHeartbeats 400000 in
theorem begins_97 (L : Nat) (w : World) (_hL : L ≤ 1000) : Calls Tryz.prog 238 #[.int .u8 97, .int .i64 L] w (BeginPost 97 L w) := by
  have hx : Pt.begins 97 L = some [(2, 0, 0), (1, 0, L + 1)] := by simp [Pt.begins, Pt.isLeaf]
  unfold BeginPost
  rw [hx]
  go_enter Tryz.func238, Tryz.ntmps238
  go_wp2
  go_ret2
  refine ⟨_, rfl, ((Below.refl _ _).alloc (Nat.le_refl _) _).alloc (by simp) _, ?_⟩
  exact stk_new _ _ (by simp) (by omega) rfl (by simp [wcells, wc]) (by simp)

set_option maxHeartbeats 400000 in
theorem begins_113 (L : Nat) (w : World) (_hL : L ≤ 1000) : Calls Tryz.prog 238 #[.int .u8 113, .int .i64 L] w (BeginPost 113 L w) := by
  have hx : Pt.begins 113 L = some [(3, 0, 0), (1, 0, L + 1)] := by simp [Pt.begins, Pt.isLeaf]
  unfold BeginPost
  rw [hx]
  go_enter Tryz.func238, Tryz.ntmps238
  go_wp2
  go_ret2
  refine ⟨_, rfl, ((Below.refl _ _).alloc (Nat.le_refl _) _).alloc (by simp) _, ?_⟩
  exact stk_new _ _ (by simp) (by omega) rfl (by simp [wcells, wc]) (by simp)

set_option maxHeartbeats 400000 in
theorem begins_114 (L : Nat) (w : World) (_hL : L ≤ 1000) : Calls Tryz.prog 238 #[.int .u8 114, .int .i64 L] w (BeginPost 114 L w) := by
  have hx : Pt.begins 114 L = some [(4, 0, 0), (5, 0, L + 1)] := by simp [Pt.begins, Pt.isLeaf]
  unfold BeginPost
  rw [hx]
  go_enter Tryz.func238, Tryz.ntmps238
  go_wp2
  go_ret2
  refine ⟨_, rfl, ((Below.refl _ _).alloc (Nat.le_refl _) _).alloc (by simp) _, ?_⟩
  exact stk_new _ _ (by simp) (by omega) rfl (by simp [wcells, wc]) (by simp)

set_option maxHeartbeats 400000 in
theorem begins_117 (L : Nat) (w : World) (_hL : L ≤ 1000) : Calls Tryz.prog 238 #[.int .u8 117, .int .i64 L] w (BeginPost 117 L w) := by
  have hx : Pt.begins 117 L = some [(4, 0, 0), (5, 0, L + 1)] := by simp [Pt.begins, Pt.isLeaf]
  unfold BeginPost
  rw [hx]
  go_enter Tryz.func238, Tryz.ntmps238
  go_wp2
  go_ret2
  refine ⟨_, rfl, ((Below.refl _ _).alloc (Nat.le_refl _) _).alloc (by simp) _, ?_⟩
  exact stk_new _ _ (by simp) (by omega) rfl (by simp [wcells, wc]) (by simp)

set_option maxHeartbeats 400000 in
theorem begins_no (c L : Nat) (w : World) (_hL : L ≤ 1000) (hc : ¬ (c = 98 ∨ c = 99 ∨ c = 105 ∨ c = 115 ∨ c = 101 ∨ c = 97 ∨ c = 113 ∨ c = 114 ∨ c = 117)) : Calls Tryz.prog 238 #[.int .u8 c, .int .i64 L] w (BeginPost c L w) := by
  have hx : Pt.begins c L = none := by
    have h1 : Pt.isLeaf c = false := by simp [Pt.isLeaf]; omega
    have a1 : ¬ c = 101 := by omega
    have a2 : ¬ c = 97 := by omega
    have a3 : ¬ c = 113 := by omega
    have a4 : ¬ c = 114 := by omega
    have a5 : ¬ c = 117 := by omega
    simp [Pt.begins, h1, a1, a2, a3, a4, a5]
  unfold BeginPost
  rw [hx]
  have c1 : ((c : Int) == 98) = false := by simp; omega
  have c2 : ((c : Int) == 99) = false := by simp; omega
  have c3 : ((c : Int) == 105) = false := by simp; omega
  have c4 : ((c : Int) == 115) = false := by simp; omega
  have c5 : ((c : Int) == 101) = false := by simp; omega
  have c6 : ((c : Int) == 97) = false := by simp; omega
  have c7 : ((c : Int) == 113) = false := by simp; omega
  have c8 : ((c : Int) == 114) = false := by simp; omega
  have c9 : ((c : Int) == 117) = false := by simp; omega
  clear hc hx
  go_enter Tryz.func238, Tryz.ntmps238
  go_wp2
  go_ret2
  exact ⟨_, rfl, (Below.refl _ _).alloc (Nat.le_refl _) _, stk_nil _ _⟩

theorem begins_any (c L : Nat) (w : World) (hL : L ≤ 1000) : Calls Tryz.prog 238 #[.int .u8 c, .int .i64 L] w (BeginPost c L w) := by
  by_cases hc : c = 98 ∨ c = 99 ∨ c = 105 ∨ c = 115 ∨ c = 101 ∨ c = 97 ∨ c = 113 ∨ c = 114 ∨ c = 117
  · rcases hc with rfl | rfl | rfl | rfl | rfl | rfl | rfl | rfl | rfl
    · exact begins_98 L w hL
    · exact begins_99 L w hL
    · exact begins_105 L w hL
    · exact begins_115 L w hL
    · exact begins_101 L w hL
    · exact begins_97 L w hL
    · exact begins_113 L w hL
    · exact begins_114 L w hL
    · exact begins_117 L w hL
  · exact begins_no c L w hL hc

end Go.Proofs.YtblomippkddgiaaGreatDoor.V
