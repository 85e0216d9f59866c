/-
  Joined: Keep4.
-/
import Derived.Test.YthofebmiggodhaaDoorJ39
/-
  The statements' begun: what it leaves, and its start.
-/
namespace Go.Proofs.YthofebmiggodhaaDoor
open Go.RowKit

def expG (c : R.Cf) : Nat → R.Wd
  | 0 => newG c
  | k + 1 => exportedG (expG c k) (nameL k) k
def uidK (k : Nat) : List Int := [if 0 < k then 1 else 0, if 1 < k then 2 else 0, if 2 < k then 3 else 0]
theorem uidK_len (k : Nat) : (uidK k).length = 3 := rfl
theorem uidK_at {k : Nat} (h : k < 3) : (uidK k)[k]? = some 0 := by
  have h3 : k = 0 ∨ k = 1 ∨ k = 2 := by omega
  rcases h3 with rfl | rfl | rfl <;> rfl
theorem uidK_set {k : Nat} (h : k < 3) : (uidK k).set k ((k : Int) + 1) = uidK (k + 1) := by
  have h3 : k = 0 ∨ k = 1 ∨ k = 2 := by omega
  rcases h3 with rfl | rfl | rfl <;> rfl
theorem expG_names (c : R.Cf) : ∀ k, (expG c k).names = (List.range k).map nameL
  | 0 => rfl
  | k + 1 => by
    show (expG c k).names ++ [nameL k] = _
    rw [expG_names c k, List.range_succ, List.map_append]
    rfl
theorem expG_services (c : R.Cf) : ∀ k, (expG c k).services = (List.range k).map fun (i : Nat) => (⟨(i : Int), true, []⟩ : R.Sv)
  | 0 => rfl
  | k + 1 => by
    show (expG c k).services ++ [⟨(k : Int), true, []⟩] = _
    rw [expG_services c k, List.range_succ, List.map_append]
    rfl
theorem expG_stands (c : R.Cf) : ∀ k, (expG c k).stands = (List.range k).map fun (i : Nat) => (i : Int) + 1
  | 0 => rfl
  | k + 1 => by
    show (expG c k).stands ++ [((expG c k).services.length : Int) + 1] = _
    rw [expG_stands c k, expG_services, List.range_succ, List.map_append]
    simp
theorem expG_clients (c : R.Cf) : ∀ k, (expG c k).clients = (newG c).clients
  | 0 => rfl
  | k + 1 => expG_clients c k
theorem expG_new (c : R.Cf) {k : Nat} (h : k < 3) : ¬ nameL k ∈ (expG c k).names := by
  rw [expG_names]
  intro hm
  obtain ⟨i, hi, e⟩ := List.mem_map.1 hm
  have hik := List.mem_range.1 hi
  have := name_inj (by omega) h e
  omega
theorem expG_stand (c : R.Cf) {k : Nat} (h : k < 3) : standOf (expG c 3) (nameL k) = some ((k : Int) + 1) := by
  unfold standOf R.entryP
  rw [expG_names, expG_stands]
  have h3 : k = 0 ∨ k = 1 ∨ k = 2 := by omega
  rcases h3 with rfl | rfl | rfl <;> rfl
theorem expG_kind (c : R.Cf) {k : Nat} (h : k < 3) : kindOf (expG c 3) ((k : Int) + 1) = (k : Int) := by
  unfold kindOf
  rw [expG_services]
  have h3 : k = 0 ∨ k = 1 ∨ k = 2 := by omega
  rcases h3 with rfl | rfl | rfl <;> rfl
def bndG (c : R.Cf) : Nat → R.Wd
  | 0 => expG c 3
  | i + 1 => bindsG (bndG c i) i (uidK 3) 3
theorem bndG_stand (c : R.Cf) (n : List UInt8) : ∀ i, standOf (bndG c i) n = standOf (expG c 3) n
  | 0 => rfl
  | i + 1 => (binds_stand _ _ _ n 3).trans (bndG_stand c n i)
theorem bndG_kind (c : R.Cf) (n : Int) : ∀ i, kindOf (bndG c i) n = kindOf (expG c 3) n
  | 0 => rfl
  | i + 1 => (binds_kind _ _ _ n 3).trans (bndG_kind c n i)
theorem bndG_len (c : R.Cf) : ∀ i, (bndG c i).clients.length = (newG c).clients.length
  | 0 => by show (expG c 3).clients.length = _; rw [expG_clients]
  | i + 1 => (binds_len _ _ _ 3).trans (bndG_len c i)

theorem both_start {w0 W W4 : World} {p : Pl} {F : Foot} {c : R.Cf} {r lf sq ud : Nat} {N : Nat} (hw : LW p F (newG c) W) (hF : ∀ k, F k → w0.heap.size ≤ k) (hb0 : Below w0.heap.size w0 W) (ht : Tab0 W) (hp : 0 < w0.heap.size) (hb : Below W.heap.size W W4)
    (h1 : W4.heap[r]? = some (.cells (rcells ⟨r, p.x, lf, sq, ud⟩ c ⟨List.replicate N 0, List.replicate (3 * N) 0, uidK 0, 0, .slice none 0 0, .slice none 0 0, .slice none 0 0, 0, 0, 0⟩) 39 (0, 0)))
    (h2 : W4.heap[lf]? = some (.cells (ints (List.replicate N 0)).toArray 3 (0, 0))) (h3 : W4.heap[sq]? = some (.cells (ints (List.replicate (3 * N) 0)).toArray 3 (0, 0))) (h4 : W4.heap[ud]? = some (.cells (ints [0, 0, 0]).toArray 3 (0, 0)))
    (g1 : W.heap.size ≤ r) (g2 : W.heap.size ≤ lf) (g3 : W.heap.size ≤ sq) (g4 : W.heap.size ≤ ud) (n1 : lf ≠ sq) (n2 : lf ≠ ud) (n3 : sq ≠ ud) :
    Both w0 ⟨r, p.x, lf, sq, ud⟩ p c ⟨List.replicate N 0, List.replicate (3 * N) 0, uidK 0, 0, .slice none 0 0, .slice none 0 0, .slice none 0 0, 0, 0, 0⟩ (newG c) W4 := by
  have s0 := hb0.size
  have s1 := hb.size
  refine ⟨⟨fun k => W.heap.size ≤ k ∧ k < W4.heap.size, F, ⟨h1, h2, h3, h4, ⟨[], World.ownsRow_nil _ _ _ _⟩, ⟨[], World.ownsRow_nil _ _ _ _⟩, ⟨[], World.ownsRow_nil _ _ _ _⟩, by simp, ⟨⟨g1, lt_of_block h1⟩, ⟨g2, lt_of_block h2⟩, ⟨g3, lt_of_block h3⟩, ⟨g4, lt_of_block h4⟩⟩, fun j hj => ?_, ⟨n1, n2, n3⟩, ?_, ?_, (fun j hj => by cases hj), (fun k hk => hk.2)⟩, hw.below hb, fun k hk hf => ?_, fun k hk => ?_⟩, rfl, ht.below hb, hb0.trans (hb.mono s0), hp⟩
  · rcases hj with e | e | e <;> cases e
  · refine ⟨fun e => ?_, fun e => ?_, fun e => ?_⟩ <;> cases e
  · refine ⟨fun e => ?_, fun e => ?_, fun e => ?_⟩ <;> cases e
  · have := hw.lt k hf
    omega
  · rcases hk with hk | hk
    · omega
    · exact hF k hk

theorem three_at {W : World} {a b c d : Obj} : ((((W.alloc a).alloc b).alloc c).alloc d).drew.heap[W.heap.size]? = some a ∧ ((((W.alloc a).alloc b).alloc c).alloc d).drew.heap[W.heap.size + 1]? = some b ∧ ((((W.alloc a).alloc b).alloc c).alloc d).drew.heap[W.heap.size + 1 + 1]? = some c ∧ ((((W.alloc a).alloc b).alloc c).alloc d).drew.heap[W.heap.size + 1 + 1 + 1]? = some d ∧ Below W.heap.size W ((((W.alloc a).alloc b).alloc c).alloc d).drew := by
  have e1 : (W.alloc a).heap.size = W.heap.size + 1 := by simp
  have e2 : ((W.alloc a).alloc b).heap.size = W.heap.size + 1 + 1 := by simp
  have e3 : (((W.alloc a).alloc b).alloc c).heap.size = W.heap.size + 1 + 1 + 1 := by simp
  refine ⟨?_, ?_, ?_, ?_, ?_⟩
  · rw [drew_at, Below.heap_alloc _ _ _ (by omega), Below.heap_alloc _ _ _ (by omega), Below.heap_alloc _ _ _ (by omega)]
    exact new_last _ _ rfl
  · rw [drew_at, Below.heap_alloc _ _ _ (by omega), Below.heap_alloc _ _ _ (by omega)]
    exact new_last _ _ e1
  · rw [drew_at, Below.heap_alloc _ _ _ (by omega)]
    exact new_last _ _ e2
  · rw [drew_at]
    exact new_last _ _ e3
  · exact ((((Below.refl _ _).alloc (Nat.le_refl _) _).alloc (by omega) _).alloc (by omega) _ |>.alloc (by omega) _).drew

set_option maxRecDepth 100000 in
theorem ints_made (n : Nat) (hn : n = 1 ∨ n = 2 ∨ n = 3 ∨ n = 6 ∨ n = 9) (W : World) : (Instr.makeSlice 36 (.int .i64 (n : Int)) (.int .i64 (n : Int))).run Tryd.prog W = .ok (.slice (some ⟨W.heap.size, 0, none⟩) n n) (W.alloc (.cells (ints (List.replicate n 0)).toArray 3)) := by
  rcases hn with rfl | rfl | rfl | rfl | rfl
  · show _ = _
    kernel_rfl
  · show _ = _
    kernel_rfl
  · show _ = _
    kernel_rfl
  · show _ = _
    kernel_rfl
  · show _ = _
    kernel_rfl
end Go.Proofs.YthofebmiggodhaaDoor
