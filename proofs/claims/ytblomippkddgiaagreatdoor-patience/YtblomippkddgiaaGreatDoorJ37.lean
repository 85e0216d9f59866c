/-
  Joined: Tab2 NDel NDel2 NLand Seal.
-/
import Derived.Test.YtblomippkddgiaaGreatDoorJ01
import Derived.Test.YtblomippkddgiaaGreatDoorJ36
import Derived.Test.YtblomippkddgiaaGreatDoorJ25
/-
  Rows of things: their beginnings and their ends.
-/
namespace Go.Proofs.YtblomippkddgiaaGreatDoor
open Go.RowKit

theorem tab_take {α : Type} {f : α → List Value} {n : Nat} (hf : ∀ x, (f x).length = n) : ∀ (xs : List α) (k : Nat), (tab f xs).take (k * n) = tab f (xs.take k)
  | [], k => by simp [tab]
  | x :: xs, 0 => by simp [tab]
  | x :: xs, k + 1 => by
    have ih := tab_take hf xs k
    simp only [tab, List.flatMap_cons, List.take_succ_cons] at ih ⊢
    rw [Nat.succ_mul, Nat.add_comm, ← hf x, List.take_length_add_append, hf x, ih]
theorem tab_drop {α : Type} {f : α → List Value} {n : Nat} (hf : ∀ x, (f x).length = n) : ∀ (xs : List α) (k : Nat), (tab f xs).drop (k * n) = tab f (xs.drop k)
  | [], k => by simp [tab]
  | x :: xs, 0 => by simp [tab]
  | x :: xs, k + 1 => by
    have ih := tab_drop hf xs k
    simp only [tab, List.flatMap_cons, List.drop_succ_cons] at ih ⊢
    rw [Nat.succ_mul, Nat.add_comm, ← hf x, List.drop_length_add_append, hf x, ih]
theorem tab_append {α : Type} (f : α → List Value) (xs ys : List α) : tab f (xs ++ ys) = tab f xs ++ tab f ys := by simp [tab]
end Go.Proofs.YtblomippkddgiaaGreatDoor
/-
  slices.Delete of one element, in place.
-/
namespace Go.Proofs.YtblomippkddgiaaGreatDoor
open Go.RowKit

theorem setRow_at {w : World} {g : Nat} {cur cs : Array Value} {e : TypeId} (h : w.heap[g]? = some (.cells cur e (0, 0))) : (w.setRow g cs).heap[g]? = some (.cells cs e (0, 0)) := by
  simp [World.setRow, Array.getElem?_modify, h]
theorem setRow_keeps (w : World) (g : Nat) (cs : Array Value) : Keeps (fun k => k = g) w (w.setRow g cs) := by
  refine ⟨rfl, rfl, rfl, by simp [World.setRow], fun k _ hn => ?_⟩
  simp only [World.setRow, Array.getElem?_modify]
  rw [if_neg (fun e => hn e.symm)]
theorem tab_erase {α : Type} {f : α → List Value} {n : Nat} (hf : ∀ x, (f x).length = n) (xs : List α) (i : Nat) : tab f (xs.eraseIdx i) = (tab f xs).take (i * n) ++ (tab f xs).drop ((i + 1) * n) := by
  rw [List.eraseIdx_eq_take_drop_succ, tab_append, tab_take hf, tab_drop hf]

/- what is left in the row, the tail cleared -/
theorem del_rows {L T Z : List Value} {n cap k i : Nat} (hk : 0 < k) (hL : L.length = cap * k) (hn : n ≤ cap) (hT : L.take (n * k) = T) (hi : i < n) (hZ : Z.length = k) :
    let C1 := L.take (i * k) ++ T.drop ((i + 1) * k) ++ L.drop (i * k + (T.drop ((i + 1) * k)).length)
    let C2 := C1.take ((n - 1) * k) ++ Z ++ C1.drop ((n - 1) * k + k)
    C1.length = cap * k ∧ C2.length = cap * k ∧ C2.take ((n - 1) * k) = T.take (i * k) ++ T.drop ((i + 1) * k) ∧ T.length = n * k ∧ (T.drop ((i + 1) * k)).length = (n - (i + 1)) * k := by
  have hnk : n * k ≤ cap * k := Nat.mul_le_mul_right _ hn
  have hTl : T.length = n * k := by rw [← hT, List.length_take]; omega
  have hik : (i + 1) * k ≤ n * k := Nat.mul_le_mul_right _ hi
  have hik' : (i + 1) * k = i * k + k := Nat.succ_mul i k
  have hnk' : (n - 1) * k + k = n * k := by rw [← Nat.succ_mul]; congr 1; omega
  have hd : (T.drop ((i + 1) * k)).length = (n - (i + 1)) * k := by rw [List.length_drop, hTl, Nat.sub_mul]
  have hd' : (n - (i + 1)) * k = n * k - (i + 1) * k := Nat.sub_mul _ _ _
  have hti : T.take (i * k) = L.take (i * k) := by rw [← hT, List.take_take, Nat.min_eq_left (by omega)]
  intro C1 C2
  have hC1 : C1.length = cap * k := by
    simp only [C1, List.length_append, List.length_take, List.length_drop, hL, hd] at *
    omega
  have hhead : C1.take ((n - 1) * k) = L.take (i * k) ++ T.drop ((i + 1) * k) := by
    simp only [C1]
    rw [List.take_append_of_le_length (by rw [List.length_append, List.length_take, hd, hL]; omega)]
    apply List.take_of_length_le
    rw [List.length_append, List.length_take, hd, hL]
    omega
  refine ⟨hC1, ?_, ?_, hTl, hd⟩
  · simp only [C2, List.length_append, List.length_take, List.length_drop, hC1, hZ]
    omega
  · simp only [C2]
    rw [List.append_assoc, List.take_append_of_le_length (by rw [List.length_take, hC1]; omega), List.take_take, Nat.min_self, hhead, hti]
end Go.Proofs.YtblomippkddgiaaGreatDoor
/-
  slices.Delete, walked: what flies.
-/
namespace Go.Proofs.YtblomippkddgiaaGreatDoor
open Go.RowKit

theorem step_append_run {P : Program} {ops : Array Oper} {o : Oper} {a : Act} {w : World} {K : Act → World → Prop} {Q : Exit → Act → World → Prop} {E : Prop} (hgd : o.guard = none) (s x : Operand) (t : TypeId)
    (ho : o.op = .call { callee := .builtin .append, args := #[s, x], argTypes := #[t, t] }) (v xv v' : Value) (w' : World) (hs : a.eval s = v) (hx : a.eval x = xv)
    (hr : (Builtin.append_ #[t, t] o.type #[v, xv]).run P w = .ok v' w') (h : K (a.put o.dst v') w') : if Region.wanted o (yielded ops a.tmps) = true then Oper.wp P o a w K Q else E := by
  have hw : Region.wanted o (yielded ops a.tmps) = true := by simp [Region.wanted, hgd]
  rw [if_pos hw]
  unfold Oper.wp
  simp [execOp, ho, resolve, invoke, builtin, hs, hx, hr, Result.andThen]
  exact h

theorem run_clear_one {w : World} {g off : Nat} {cur : Array Value} {t e ty : TypeId} {z : Value} (ht : Tryz.prog.underlying t = some (.slice e)) (hv : ∀ w, (zeroValue e).run Tryz.prog w = .ok z w) (h1 : ∀ u ∈ z.cells.toList, u.oneCell' = true) (hg : w.heap[g]? = some (.cells cur e (0, 0))) (hfit : off + z.cells.size ≤ cur.size) (c : Nat) :
    (Builtin.clear_ #[t] ty #[.slice (some ⟨g, off, none⟩) 1 c]).run Tryz.prog w = .ok (.tuple #[]) (w.setRow g (cur.toList.take off ++ z.cells.toList ++ cur.toList.drop (off + z.cells.size)).toArray) := by
  have hzc : (Builtin.zeroCells z.cells 1).toList = z.cells.toList := by
    apply List.ext_getElem
    · simp [Builtin.zeroCells]
    · intro i h1 h2
      have : i < z.cells.size := by simpa using h2
      simp [Builtin.zeroCells, Nat.mod_eq_of_lt this, getElem!_pos, this]
  have hst := run_storeCells_at Tryz.prog g off e z.cells.toList 0 cur w hg (by simpa using hfit) h1
  simp only [Nat.add_zero] at hst
  simp [Builtin.clear_, run_underlying ht, hv, hzc, hst]

theorem zero122 (w : World) : (zeroValue 122).run Tryz.prog w = .ok (.agg #[.int .i64 0, .string ⟨#[]⟩, .bool false]) w := by kernel_rfl
theorem fly_one {fl : List R.Fl} : ∀ u ∈ tab fcells fl, u.oneCell' = true := by
  intro u hu
  obtain ⟨f, _, hf⟩ := List.mem_flatMap.1 hu
  simp [fcells] at hf
  rcases hf with rfl | rfl | rfl <;> rfl

abbrev zfl : List Value := [.int .i64 0, .string ⟨#[]⟩, .bool false]
set_option maxRecDepth 100000 in
set_option maxHeartbeats 2000000 in
theorem del_any (w : World) (g n cap i : Nat) (cur : Array Value) (fl : List R.Fl) (hg : w.heap[g]? = some (.cells cur 122 (0, 0))) (hn : n = fl.length) (hcap : n ≤ cap) (hm : cap ≤ maxLen) (hsz : cur.size = cap * 3) (htk : cur.toList.take (n * 3) = tab fcells fl) (hi : i < n) :
    Calls Tryz.prog 84 #[.slice (some ⟨g, 0, none⟩) n cap, .int .i64 (i : Int), .int .i64 ((i : Int) + 1)] w fun e w' => e = .returned (.slice (some ⟨g, 0, none⟩) (n - 1) cap) ∧ (∃ cur' : Array Value, w'.heap[g]? = some (.cells cur' 122 (0, 0)) ∧ cur'.size = cap * 3 ∧ cur'.toList.take ((n - 1) * 3) = tab fcells (fl.eraseIdx i)) ∧ Keeps (fun k => k = g) w w' := by
  obtain ⟨i0, hi0, hz0, hz1, hz2⟩ := info_parts info91
  have hrows := del_rows (Z := zfl) (k := 3) (by decide) (by rw [Array.length_toList]; exact hsz) hcap htk hi rfl
  obtain ⟨r1, r2, r3, r4, r5⟩ := hrows
  rw [← tab_erase fcells_len] at r3
  obtain ⟨NW, hNW⟩ : ∃ NW, NW = (tab fcells fl).drop ((i + 1) * 3) := ⟨_, rfl⟩
  rw [← hNW] at r1 r2 r3 r5
  obtain ⟨C1, hC1⟩ : ∃ C1, C1 = cur.toList.take (i * 3) ++ NW ++ cur.toList.drop (i * 3 + NW.length) := ⟨_, rfl⟩
  rw [← hC1] at r1 r2 r3
  obtain ⟨W1, hW1⟩ : ∃ W1, W1 = w.drew.setRow g C1.toArray := ⟨_, rfl⟩
  have g1 : W1.heap[g]? = some (.cells C1.toArray 122 (0, 0)) := by rw [hW1]; exact setRow_at (w := w.drew) hg
  obtain ⟨W2, hW2⟩ : ∃ W2, W2 = W1.setRow g (C1.take ((n - 1) * 3) ++ zfl ++ C1.drop ((n - 1) * 3 + 3)).toArray := ⟨_, rfl⟩
  have g2 : W2.heap[g]? = some (.cells (C1.take ((n - 1) * 3) ++ zfl ++ C1.drop ((n - 1) * 3 + 3)).toArray 122 (0, 0)) := by rw [hW2]; exact setRow_at g1
  have HK : Hid (Keeps (fun k => k = g) w W2) := by
    rw [hW2, hW1]
    have k0 : Keeps (fun k => k = g) w w.drew := (Keeps.refl _ w).drew
    exact (k0.trans (setRow_keeps _ _ _)).trans (setRow_keeps _ _ _)
  have HEND : Hid (∃ cur' : Array Value, W2.heap[g]? = some (.cells cur' 122 (0, 0)) ∧ cur'.size = cap * 3 ∧ cur'.toList.take ((n - 1) * 3) = tab fcells (fl.eraseIdx i)) := ⟨_, g2, by simpa using r2, by simpa using r3⟩
  have hsrc : ∀ j u, NW[j]? = some u → w.drew.cell? ((⟨g, (i + 1) * 3, none⟩ : Addr).add j) = some u := fun j u hj => by
    rw [hNW, List.getElem?_drop, ← htk, List.getElem?_take] at hj
    split at hj
    · rw [Addr.add_lit]
      have : w.drew.heap[g]? = some (.cells cur 122 (0, 0)) := hg
      simp [World.cell?, this]
      simpa using hj
    · cases hj
  have happ : ∀ c, (Builtin.append_ #[111, 111] 111 #[.slice (some ⟨g, 0, none⟩) i cap, .slice (some ⟨g, (i + 1) * 3, none⟩) (n - (i + 1)) c]).run Tryz.prog w.drew = .ok (.slice (some ⟨g, 0, none⟩) (n - 1) cap) W1 := fun c => by
    have h := run_append_room (P := Tryz.prog) w.drew 111 111 122 i0 Tryz.underlying111 hi0 g i cap cur hg ⟨g, (i + 1) * 3, none⟩ (n - (i + 1)) c NW (by rw [r5, hz1]) hsrc (fun u hu => fly_one u (List.mem_of_mem_drop (hNW ▸ hu))) (by omega) (by rw [hz1, r5, hsz]; omega)
    rw [hz1] at h
    rw [h, hW1, hC1, show i + (n - (i + 1)) = n - 1 by omega]
  have happ0 : i + 1 = n → ∀ a c, (Builtin.append_ #[111, 111] 111 #[.slice (some ⟨g, 0, none⟩) i cap, .slice (some a) 0 c]).run Tryz.prog w.drew = .ok (.slice (some ⟨g, 0, none⟩) (n - 1) cap) W1 := fun he a c => by
    have hN0 : NW = [] := List.length_eq_zero_iff.1 (by rw [r5, show n - (i + 1) = 0 by omega])
    have h := run_append_room (P := Tryz.prog) w.drew 111 111 122 i0 Tryz.underlying111 hi0 g i cap cur hg a 0 c [] (by simp) (by simp) (by simp) (by omega) (by rw [hz1, hsz]; simp; omega)
    rw [hz1] at h
    rw [h, hW1, hC1, hN0, show i + 0 = n - 1 by omega]
  have hclr : ∀ ty c, (Builtin.clear_ #[111] ty #[.slice (some ⟨g, (n - 1) * 3, none⟩) 1 c]).run Tryz.prog W1 = .ok (.tuple #[]) W2 := fun ty c => by
    have h := run_clear_one (ty := ty) (off := (n - 1) * 3) Tryz.underlying111 zero122 (by simp [Value.cells, Value.oneCell']) g1 (by simp [Value.cells, r1]; omega) c
    rw [h, hW2]
    simp [Value.cells]
  unfold maxLen at hm
  clear hNW hC1 hW1 hW2 g1 g2 r1 r2 r3 r4 r5 hsrc hg htk hsz hn
  have q1 : ((i : Int) == (i : Int) + 1) = false := by simp; omega
  obtain ⟨m, rfl⟩ : ∃ m, n = m + 1 := ⟨n - 1, by omega⟩
  simp only [Nat.add_sub_cancel, Nat.add_sub_add_right] at happ happ0 hclr HEND ⊢
  have hm1 : m + 1 - m = 1 := by omega
  have HA := hide happ
  have HA0 := hide happ0
  have HC := hide hclr
  clear happ happ0 hclr
  have HE : Hid (∃ cur' : Array Value, W2.heap[g]? = some (.cells cur' 122 (0, 0)) ∧ cur'.size = cap * 3 ∧ cur'.toList.take (m * 3) = tab fcells (fl.eraseIdx i)) := HEND
  clear HEND
  have b1 : (i : Int) + 1 ≤ ((m + 1 : Nat) : Int) := by omega
  have b2 : ((m + 1 : Nat) : Int) ≤ (cap : Int) := by omega
  have b3 : (i : Int) ≤ (cap : Int) := by omega
  have b4 : (0 : Int) ≤ (i : Int) + 1 := by omega
  by_cases hcp : i + 1 = cap
  · have him : i = m := by omega
    subst him
    subst hcp
    have b7 : (i : Int) ≤ (i : Int) + 1 := by omega
    have b8 : i ≤ i + 1 := by omega
    have HA1 := hide ((unhide HA0) rfl ⟨g, 0, none⟩ 0)
    clear HA0 HA
    go_enter Tryz.func84, Tryz.ntmps84
    go_wp2
    go_region_law (refine step_append_run rfl (.tmp 22) (.tmp 25) 111 rfl (.slice (some ⟨g, 0, none⟩) i (i + 1)) (.slice (some ⟨g, 0, none⟩) 0 0) (.slice (some ⟨g, 0, none⟩) i (i + 1)) W1 rfl rfl (unhide HA1) ?_)
    all_goals
      have hclr := (unhide HC)
      go_wp2
      go_ret
      exact ⟨rfl, unhide HE, unhide HK⟩
  · have b5 : i ≤ m := by omega
    have b6 : ¬ cap = i + 1 := by omega
    go_enter Tryz.func84, Tryz.ntmps84
    go_wp2
    go_region_law (refine step_append_run rfl (.tmp 22) (.tmp 25) 111 rfl (.slice (some ⟨g, 0, none⟩) i cap) (.slice (some ⟨g, (i + 1) * 3, none⟩) (m - i) (cap - (i + 1))) (.slice (some ⟨g, 0, none⟩) m cap) W1 rfl rfl ((unhide HA) _) ?_)
    all_goals
      have hclr := (unhide HC)
      go_wp2
      go_ret
      exact ⟨rfl, unhide HE, unhide HK⟩
end Go.Proofs.YtblomippkddgiaaGreatDoor
/-
  The landed network: a packet is shown, lands, is dropped.
-/
namespace Go.Proofs.YtblomippkddgiaaGreatDoor
open Go.RowKit

set_option maxRecDepth 100000 in
set_option maxHeartbeats 1000000 in
theorem has_any (w : World) (n : Nat) (a : Option Addr) (m c : Nat) (i : Int) (hK : w.heap[n]? = some (.cells #[.slice a m c] 113 (0, 0))) :
    Calls Tryz.prog 65 #[ptr n, .int .i64 i] w fun e w' => e = .returned (.bool (decide (0 ≤ i ∧ i < (m : Int)))) ∧ w' = w := by
  have c1 : w.cell? ⟨n, 0, none⟩ = some (.slice a m c) := cell_of hK 0 _ rfl
  clear hK
  by_cases h0 : 0 ≤ i
  · have e : decide (0 ≤ i ∧ i < (m : Int)) = decide (i < (m : Int)) := by simp [h0]
    rw [e]
    go_enter Tryz.func65, Tryz.ntmps65
    go_wp2
    go_ret
    exact ⟨rfl, rfl⟩
  · have e : decide (0 ≤ i ∧ i < (m : Int)) = false := by simp [h0]
    rw [e]
    go_enter Tryz.func65, Tryz.ntmps65
    go_wp2
    go_ret
    exact ⟨rfl, rfl⟩
set_option maxRecDepth 100000 in
set_option maxHeartbeats 1000000 in
theorem nshow_no (w : World) (n : Nat) (a : Option Addr) (m c : Nat) (i : Int) (hK : w.heap[n]? = some (.cells #[.slice a m c] 113 (0, 0))) (hi : i < 0 ∨ (m : Int) ≤ i) :
    Calls Tryz.prog 32 #[ptr n, .int .i64 i] w fun e w' => e = .returned (.tuple #[.int .i64 0, .string ⟨#[]⟩, .int .i64 9]) ∧ w' = w := by
  have H := hide (has_any w n a m c i hK)
  rw [show decide (0 ≤ i ∧ i < (m : Int)) = false by simp; omega] at H
  clear hK hi
  go_enter Tryz.func32, Tryz.ntmps32
  go_wp2_with (first | (go_at_call 65; refine (unhide H).mono ?_; rintro e w1 ⟨rfl, hw1⟩; rw [hw1]; clear hw1))
  go_returns
  exact ⟨rfl, rfl⟩
set_option maxRecDepth 100000 in
set_option maxHeartbeats 1000000 in
theorem nshow_at (w : World) (n g : Nat) (m c : Nat) (i : Nat) (v0 : Int) (v1 : ByteArray) (hK : w.heap[n]? = some (.cells #[.slice (some ⟨g, 0, none⟩) m c] 113 (0, 0))) (hi : i < m) (h0 : w.cell? ⟨g, i * 3, none⟩ = some (.int .i64 v0)) (h1 : w.cell? ⟨g, i * 3 + 1, none⟩ = some (.string v1)) :
    Calls Tryz.prog 32 #[ptr n, .int .i64 (i : Int)] w fun e w' => e = .returned (.tuple #[.int .i64 v0, .string v1, .int .i64 0]) ∧ Below w.heap.size w w' := by
  have H := hide (has_any w n (some ⟨g, 0, none⟩) m c i hK)
  rw [show decide (0 ≤ (i : Int) ∧ (i : Int) < (m : Int)) = true by simp; omega] at H
  have c1 : w.cell? ⟨n, 0, none⟩ = some (.slice (some ⟨g, 0, none⟩) m c) := cell_of hK 0 _ rfl
  have q1 : (0 : Int) ≤ (i : Int) := by omega
  have q2 : (i : Int) < (m : Int) := by omega
  clear hK
  go_enter Tryz.func32, Tryz.ntmps32
  go_wp2_with (first | (go_at_call 65; refine (unhide H).mono ?_; rintro e w1 ⟨rfl, hw1⟩; rw [hw1]; clear hw1))
  go_region_held3 (fun w' => w'.cell? ⟨n, 0, none⟩ = some (.slice (some ⟨g, 0, none⟩) m c) ∧ w'.cell? ⟨g, i * 3, none⟩ = some (.int .i64 v0) ∧ w'.cell? ⟨g, i * 3 + 1, none⟩ = some (.string v1)) (go_keep) (fail)
  go_wp2
  go_returns
  exact ⟨rfl, (Below.refl _ _).drew⟩

set_option maxRecDepth 100000 in
set_option maxHeartbeats 1000000 in
theorem land_no (w : World) (n : Nat) (a : Option Addr) (m c : Nat) (i : Int) (hK : w.heap[n]? = some (.cells #[.slice a m c] 113 (0, 0))) (hi : i < 0 ∨ (m : Int) ≤ i) :
    Calls Tryz.prog 50 #[ptr n, .int .i64 i] w fun e w' => e = .returned (.tuple #[.int .i64 0, .string ⟨#[]⟩, .int .i64 9]) ∧ w' = w := by
  have H := hide (nshow_no w n a m c i hK hi)
  clear hK hi
  go_enter Tryz.func50, Tryz.ntmps50
  go_wp2_with (first | (go_at_call 32; refine (unhide H).mono ?_; rintro e w1 ⟨rfl, hw1⟩; rw [hw1]; clear hw1))
  go_returns
  exact ⟨rfl, rfl⟩
set_option maxRecDepth 100000 in
set_option maxHeartbeats 1000000 in
theorem land_at (w : World) (n : Nat) (K : Value) (fl : List R.Fl) (i : Nat) (f : R.Fl) (hK : w.heap[n]? = some (.cells #[K] 113 (0, 0))) (hrow : w.ownsRow 0 122 3 K fl.length (tab fcells fl)) (hf : fl[i]? = some f) (h40 : fl.length ≤ 40) :
    Calls Tryz.prog 50 #[ptr n, .int .i64 (i : Int)] w fun e w' => e = .returned (.tuple #[.int .i64 f.to, .string (str f.s), .int .i64 0]) ∧ NetPost w n K (fl.eraseIdx i) w' := by
  have hi := (List.getElem?_eq_some_iff.1 hf).1
  rcases hrow.2 with ⟨_, h0⟩ | ⟨g, cap, cur, rfl, _, hg, hcap, hmax, hsz, htk⟩
  · omega
  have q : ∀ j, j < 3 → cur[i * 3 + j]? = (fcells f)[j]? := fun j hj => by
    rw [← tab_get fcells_len fl i j f hf hj, ← htk, List.getElem?_take, if_pos (by omega)]
    simp
  have v0 : w.cell? ⟨g, i * 3, none⟩ = some (.int .i64 f.to) := by
    have := q 0 (by omega)
    simp [World.cell?, hg]
    simpa [fcells] using this
  have v1 : w.cell? ⟨g, i * 3 + 1, none⟩ = some (.string (str f.s)) := by
    have := q 1 (by omega)
    simp [World.cell?, hg]
    simpa [fcells] using this
  have hng : n ≠ g := ne_tag hK hg (by decide)
  have H := hide (nshow_at w n g fl.length cap i f.to (str f.s) hK hi v0 v1)
  have HD : Hid (∀ w', Below w.heap.size w w' → Calls Tryz.prog 84 #[.slice (some ⟨g, 0, none⟩) fl.length cap, .int .i64 (i : Int), .int .i64 ((i : Int) + 1)] w' fun e w'' => e = .returned (.slice (some ⟨g, 0, none⟩) (fl.length - 1) cap) ∧ w''.heap[n]? = some (.cells #[.slice (some ⟨g, 0, none⟩) fl.length cap] 113 (0, 0)) ∧ NetPost w n (.slice (some ⟨g, 0, none⟩) fl.length cap) (fl.eraseIdx i) (w''.setCell ⟨n, 0, none⟩ (.slice (some ⟨g, 0, none⟩) (fl.length - 1) cap))) := fun w' hb => by
    refine (del_any w' g fl.length cap i cur fl ((hb.block g (Array.getElem?_eq_some_iff.1 hg).1).trans hg) rfl hcap hmax hsz htk hi).mono ?_
    rintro e w'' ⟨rfl, ⟨cur', k1, k2, k3⟩, hk⟩
    have hK' : w''.heap[n]? = some (.cells #[.slice (some ⟨g, 0, none⟩) fl.length cap] 113 (0, 0)) := by
      have := (hb.block n (Array.getElem?_eq_some_iff.1 hK).1).trans hK
      exact hk.at this hng
    have hlen : (fl.eraseIdx i).length = fl.length - 1 := by rw [List.length_eraseIdx, if_pos hi]
    refine ⟨rfl, hK', ⟨⟨.slice (some ⟨g, 0, none⟩) (fl.length - 1) cap, ?_, ?_, Or.inl rfl⟩, ?_⟩⟩
    · exact heap_store (cs := [.slice (some ⟨g, 0, none⟩) fl.length cap]) (off := 0) hK' _
    · refine ⟨?_, Or.inr ⟨g, cap, cur', by rw [hlen], Nat.zero_le _, ?_, by rw [hlen]; omega, hmax, k2, by rw [hlen]; exact k3⟩⟩
      · rw [tab_length fcells_len, Nat.mul_comm]
      · rw [Below.heap_setCell _ _ _ _ (fun e => hng e.symm)]
        exact k1
    · have hk0 : Keeps (fun k => k = n ∨ (Value.slice (some ⟨g, 0, none⟩) fl.length cap).ownBlock = some k) w w'' := (Keeps.ofBelow hb _).trans (hk.mono (fun k _ e => Or.inr (by rw [e]; rfl)))
      exact hk0.setCell (p := ⟨n, 0, none⟩) (Or.inl (Or.inl rfl)) _
  have c1 : w.cell? ⟨n, 0, none⟩ = some (.slice (some ⟨g, 0, none⟩) fl.length cap) := cell_of hK 0 _ rfl
  have hln := lt_of_block hK
  have e1 : IntKind.i64.wrap ((i : Int) + 1) = (i : Int) + 1 := by rw [IntKind.wrap_i64]; omega
  generalize NetPost w n (.slice (some ⟨g, 0, none⟩) fl.length cap) (fl.eraseIdx i) = Post at *
  generalize str f.s = SF at *
  generalize fl.length - 1 = L1 at *
  generalize fl.length = L0 at *
  clear q hK hrow hf hg hsz htk v0 v1
  go_enter Tryz.func50, Tryz.ntmps50
  go_wp2_with fail
  refine (unhide H).mono ?_
  rintro e w1 ⟨rfl, hb1⟩
  have HC := hide ((unhide HD) w1 hb1)
  have d1 : w1.cell? ⟨n, 0, none⟩ = some (.slice (some ⟨g, 0, none⟩) L0 cap) := (hb1.cell (p := ⟨n, 0, none⟩) hln).trans c1
  clear hb1
  go_wp2_with fail
  refine (unhide HC).mono ?_
  rintro e w2 ⟨rfl, hK2, hpost⟩
  have d2 : w2.cell? ⟨n, 0, none⟩ = some (.slice (some ⟨g, 0, none⟩) L0 cap) := cell_of hK2 0 _ rfl
  have z2 : w2.frozen? ⟨n, 0, none⟩ = false := open_list hK2
  have hl2 := lt_of_block hK2
  have HP := hide hpost
  clear hK2 hpost
  go_wp2
  go_returns
  exact ⟨rfl, unhide HP⟩

theorem R.Wf.flyTurn {G : R.Wd} (h : R.Wf G) {fl : List R.Fl} (h1 : fl.length ≤ 40) (h2 : ∀ f ∈ fl, f.s.length ≤ 21) : R.Wf { G with flying := fl } := ⟨h.cf, h.ncl, fun j c hc => ⟨(h.cl j c hc).lines, (h.cl j c hc).life, (h.cl j c hc).bound, (h.cl j c hc).line⟩, h1, h2, h.sv, h.svk, h.nm, h.st, h.nd, h.sts⟩
theorem R.Wf.erase {G : R.Wd} (h : R.Wf G) (k : Nat) : R.Wf { G with flying := G.flying.eraseIdx k } := R.Wf.flyTurn h (by
  have := List.length_eraseIdx_le (l := G.flying) (i := k)
  have := h.fly
  omega) (fun f hf => h.flys f (List.mem_of_mem_eraseIdx hf))
/- a packet lands -/
theorem LW.land {p : Pl} {F : Foot} {G : R.Wd} {w : World} (h : LW p F G w) {i : Nat} {f : R.Fl} (hf : G.flying[i]? = some f) :
    Calls Tryz.prog 50 #[ptr p.n, .int .i64 (i : Int)] w fun e w' => e = .returned (.tuple #[.int .i64 f.to, .string (str f.s), .int .i64 0]) ∧ ∃ F', LW p F' { G with flying := G.flying.eraseIdx i } w' ∧ Went F F' w w' := by
  obtain ⟨K, hK, hrow, hF⟩ := h.bn
  refine (land_at w p.n K G.flying i f hK hrow hf h.wf.fly).mono ?_
  rintro e w' ⟨rfl, hn⟩
  exact ⟨rfl, h.net hK hrow hn hF (R.Wf.erase h.wf i)⟩
theorem LW.land_no {p : Pl} {F : Foot} {G : R.Wd} {w : World} (h : LW p F G w) {i : Int} (hi : R.off G i) : Calls Tryz.prog 50 #[ptr p.n, .int .i64 i] w fun e w' => e = .returned (.tuple #[.int .i64 0, .string ⟨#[]⟩, .int .i64 9]) ∧ w' = w := by
  obtain ⟨K, hK, hrow, hF⟩ := h.bn
  obtain ⟨a, c, rfl⟩ := slice_of hrow
  exact YtblomippkddgiaaGreatDoor.land_no w p.n a G.flying.length c i hK hi
theorem R.on_at {G : R.Wd} {i : Int} (h : ¬ R.off G i) : ∃ (k : Nat) (f : R.Fl), i = (k : Int) ∧ G.flying[k]? = some f := by
  unfold R.off at h
  have hl : i.toNat < G.flying.length := by omega
  exact ⟨i.toNat, G.flying[i.toNat], by omega, List.getElem?_eq_getElem hl⟩
theorem LW.show {p : Pl} {F : Foot} {G : R.Wd} {w : World} (h : LW p F G w) (i : Int) : Calls Tryz.prog 13 #[ptr p.x, .int .i64 i] w fun e w' => e = .returned (.tuple #[.int .i64 (R.showP G i).1, .string (str (R.showP G i).2.1), .int .i64 (R.showP G i).2.2]) ∧ Below w.heap.size w w' := by
  unfold R.showP
  by_cases hi : R.off G i
  · rw [if_pos hi]
    obtain ⟨K, hK, hrow, hF⟩ := h.bn
    obtain ⟨a, c, rfl⟩ := slice_of hrow
    have H := hide (nshow_no w p.n a G.flying.length c i hK hi)
    have c0 : w.cell? ⟨p.x, 0, none⟩ = some (ptr p.n) := cell_of h.bx 0 _ rfl
    clear h hK hrow hF hi
    go_enter Tryz.func13, Tryz.ntmps13
    go_wp2_with (first | (go_at_call 32; refine (unhide H).mono ?_; rintro e w1 ⟨rfl, hw1⟩; rw [hw1]; clear hw1))
    go_returns
    exact ⟨rfl, Below.refl _ _⟩
  · rw [if_neg hi]
    obtain ⟨k, f, rfl, hf⟩ := R.on_at hi
    rw [Int.toNat_natCast, hf]
    exact h.showAt hf
/- Drop -/
set_option maxRecDepth 100000 in
theorem LW.drop {p : Pl} {F : Foot} {G : R.Wd} {w : World} (h : LW p F G w) (i : Int) : Calls Tryz.prog 23 #[ptr p.x, .int .i64 i] w fun e w' => e = .returned (.int .i64 (R.dropP G i).1) ∧ ∃ F', LW p F' (R.dropP G i).2 w' ∧ Went F F' w w' := by
  have c0 : w.cell? ⟨p.x, 0, none⟩ = some (ptr p.n) := cell_of h.bx 0 _ rfl
  unfold R.dropP
  by_cases hi : R.off G i
  · rw [if_pos hi]
    have H := hide (h.land_no hi)
    have HE : Hid (∃ F', LW p F' G w ∧ Went F F' w w) := ⟨F, h, Went.refl F w⟩
    generalize p.n = n at *
    clear h hi
    go_enter Tryz.func23, Tryz.ntmps23
    go_wp2_with (first | (go_at_call 49; go_in) | (go_at_call 50; refine (unhide H).mono ?_; rintro e w1 ⟨rfl, hw1⟩; rw [hw1]; clear hw1))
    go_returns
    exact ⟨rfl, unhide HE⟩
  · rw [if_neg hi]
    obtain ⟨k, f, rfl, hf⟩ := R.on_at hi
    rw [Int.toNat_natCast]
    have H := hide (h.land hf)
    generalize str f.s = SF at *
    clear h hi hf
    go_enter Tryz.func23, Tryz.ntmps23
    go_wp2_with (first | (go_at_call 49; go_in) | (go_at_call 50; refine (unhide H).mono ?_; rintro e w1 ⟨rfl, hw1⟩))
    go_returns
    exact ⟨rfl, hw1⟩
end Go.Proofs.YtblomippkddgiaaGreatDoor
/-
  The face: Seal catches what Write gave up with.
-/
namespace Go.Proofs.YtblomippkddgiaaGreatDoor
open Go.RowKit

set_option maxRecDepth 100000 in
set_option maxHeartbeats 1000000 in
theorem scatch_panicking (a0 a1 B : Nat) (n q : Nat) (older : List PanicEntry) (w : World) (h0 : w.cell? ⟨a0, 0, none⟩ = some (.string ⟨#[]⟩)) (h1 : w.cell? ⟨a1, 0, none⟩ = some (.int .i64 0)) (z0 : w.frozen? ⟨a0, 0, none⟩ = false) (z1 : w.frozen? ⟨a1, 0, none⟩ = false) (hb0 : B ≤ a0) (hb1 : B ≤ a1) (hne : ¬ a0 = a1) :
    CallsD Tryz.prog 211 #[.pointer (some ⟨a0, 0, none⟩), .pointer (some ⟨a1, 0, none⟩)] (.panicking ({ v := .iface 86 (faultOf n q), recovered := false } :: older)) w fun e u' w' =>
      e = .returned (.tuple #[]) ∧ u' = .panicking ({ v := .iface 86 (faultOf n q), recovered := true } :: older) ∧ w'.cell? ⟨a0, 0, none⟩ = some (.string ⟨#[]⟩) ∧ w'.cell? ⟨a1, 0, none⟩ = some (.int .i64 n) ∧ Below B w w' := by
  refine callsD_of_wpS Tryz.func211 rfl fun c₀ cs hu => ?_
  apply wpS_seq
  apply wpS_region
  simp [wpOpsS, go_sem, recoverD, hu, Tryz.ntmps211, Exit.thenS]
  rw [show (#[Value.pointer (some { block := a0, off := 0 }), Value.pointer (some { block := a1, off := 0 })] ++ ((Array.replicate 7 undef).setIfInBounds 1 (Value.iface 86 (faultOf n q))).setIfInBounds 0 (Value.iface 86 (faultOf n q))) = #[.pointer (some { block := a0, off := 0 }), .pointer (some { block := a1, off := 0 }), .iface 86 (faultOf n q), .iface 86 (faultOf n q), undef, undef, undef, undef, undef] from rfl]
  refine wpS_of_wp ?_
  have hfl := field_fault n q
  have l0 := lt_of_cell h0
  have l1 := lt_of_cell h1
  go_wp2_with fail
  refine (caught_any n q _).mono ?_
  rintro e w1 ⟨rfl, hb⟩
  have s1 := hb.size
  have g0 : w1.cell? ⟨a0, 0, none⟩ = some (.string ⟨#[]⟩) := (hb.cell (p := ⟨a0, 0, none⟩) l0).trans h0
  have g1 : w1.cell? ⟨a1, 0, none⟩ = some (.int .i64 0) := (hb.cell (p := ⟨a1, 0, none⟩) l1).trans h1
  have y0 : w1.frozen? ⟨a0, 0, none⟩ = false := (hb.frozen (p := ⟨a0, 0, none⟩) l0).trans z0
  have y1 : w1.frozen? ⟨a1, 0, none⟩ = false := (hb.frozen (p := ⟨a1, 0, none⟩) l1).trans z1
  have m0 : a0 < w1.heap.size := by omega
  have m1 : a1 < w1.heap.size := by omega
  have e2 : ¬ a1 = a0 := by omega
  clear h0 h1 z0 z1
  go_wp2
  have F0 : ((w1.setCell { block := a0, off := 0 } (.string ⟨#[]⟩)).setCell { block := a1, off := 0 } (Value.int IntKind.i64 ↑n)).cell? ⟨a0, 0, none⟩ = some (.string ⟨#[]⟩) := by simp [go_sem, g0]
  have F1 : ((w1.setCell { block := a0, off := 0 } (.string ⟨#[]⟩)).setCell { block := a1, off := 0 } (Value.int IntKind.i64 ↑n)).cell? ⟨a1, 0, none⟩ = some (.int .i64 n) := by simp [go_sem, g1]
  have FB : Below B w ((w1.setCell { block := a0, off := 0 } (.string ⟨#[]⟩)).setCell { block := a1, off := 0 } (Value.int IntKind.i64 ↑n)) :=
    ((hb.mono (by omega)).setCell (by simpa using hb0) _).setCell (by simpa using hb1) _
  show bodyPostS Tryz.prog Tryz.f211 c₀ cs _ _ _ _ _
  exact ⟨rfl, _, rfl, _, results_none rfl _ _ _, rfl, rfl, F0, F1, FB⟩

theorem scatch_idle (p0 p1 : Addr) (w : World) :
    CallsD Tryz.prog 211 #[.pointer (some p0), .pointer (some p1)] .returning w fun e u' w' => e = .returned (.tuple #[]) ∧ u' = .returning ∧ w' = w := by
  refine callsD_of_wpS Tryz.func211 rfl fun c₀ cs hu => ?_
  apply wpS_seq
  apply wpS_region
  simp [wpOpsS, go_sem, recoverD, hu, Tryz.ntmps211, Exit.thenS]
  rw [show (#[Value.pointer (some p0), Value.pointer (some p1)] ++ ((Array.replicate 7 undef).setIfInBounds 1 (Value.nilIface)).setIfInBounds 0 (Value.nilIface)) = #[.pointer (some p0), .pointer (some p1), .nilIface, .nilIface, undef, undef, undef, undef, undef] from rfl]
  refine wpS_of_wp ?_
  go_wp2
  exact ⟨rfl, .returning, by cases c₀; simp_all, _, results_none rfl _ _ _, rfl, rfl, rfl⟩

abbrev pcells (k c li ln sq u pa o : Int) (pl : Bool) (S : ByteArray) : Array Value := #[.int .i64 k, .int .i64 c, .int .i64 li, .int .i64 ln, .int .i64 sq, .int .i64 u, .int .i64 pa, .int .i64 o, .bool pl, .string S]
abbrev sface (w : World) (xs : Array Value) : World := ((w.alloc (.cells xs 41)).alloc (.cells #[.string ⟨#[]⟩] 9)).alloc (.cells #[.int .i64 0] 32)
def sealPost (p : Pk) (w : World) (e : Ending) (w' : World) : Prop := Below w.heap.size w w' ∧ ((RightP p ∧ e = .returned (.tuple #[.string (str (sealB p)), .int .i64 0])) ∨ (¬ RightP p ∧ e = .returned (.tuple #[.string ⟨#[]⟩, .int .i64 7])))

set_option maxRecDepth 100000 in
set_option maxHeartbeats 1000000 in
theorem seal_any (p : Pk) (w : World) : Calls Tryz.prog 156 #[pv p] w (sealPost p w) := by
  have hmf : ∀ (fn : Fn) (first cap : Array Value) (w : World), (Instr.makeFunc fn first cap).run Tryz.prog w = .ok (.func fn first cap) w := fun _ _ _ _ => rfl
  obtain ⟨post, hpost⟩ : ∃ post, post = sealPost p w := ⟨_, rfl⟩
  have HNO : Hid (∀ w', Below w.heap.size w w' → ¬ RightP p → post (.returned (.tuple #[.string ⟨#[]⟩, .int .i64 7])) w') := by
    rw [hpost]
    exact fun w' hb hr => ⟨hb, Or.inr ⟨hr, rfl⟩⟩
  have HYES : Hid (∀ w', Below w.heap.size w w' → RightP p → post (.returned (.tuple #[.string (str (sealB p)), .int .i64 0])) w') := by
    rw [hpost]
    exact fun w' hb hr => ⟨hb, Or.inl ⟨hr, rfl⟩⟩
  rw [← hpost]
  clear hpost
  have HH := hide (fun w => write_any p w)
  generalize hSB : str (sealB p) = SB at *
  obtain ⟨k, c, li, ln, sq, u, pa, o, pl, body⟩ := p
  have HB := hide ((((Below.refl w.heap.size w).alloc (Nat.le_refl _) (.cells (pcells k c li ln sq u pa o pl (str body)) 41)).alloc (by simp) (.cells #[.string ⟨#[]⟩] 9)).alloc (by simp; omega) (.cells #[.int .i64 0] 32))
  go_enter_defers Tryz.func156, Tryz.ntmps156
  go_wp2_with fail
  refine ((unhide HH) _).mono ?_
  rintro e w1 ⟨hb, ⟨hr, rfl⟩ | ⟨hn, rfl⟩⟩
  · have hs := hb.size
    simp at hs
    have c0 : w1.cell? ⟨w.heap.size + 1, 0, none⟩ = some (.string ⟨#[]⟩) := (hb.cell (p := ⟨w.heap.size + 1, 0, none⟩) (by simp)).trans (by simp [go_sem])
    have c1 : w1.cell? ⟨w.heap.size + 2, 0, none⟩ = some (.int .i64 0) := (hb.cell (p := ⟨w.heap.size + 2, 0, none⟩) (by simp)).trans (by simp [go_sem])
    have z0 : w1.frozen? ⟨w.heap.size + 1, 0, none⟩ = false := (hb.frozen (p := ⟨w.heap.size + 1, 0, none⟩) (by simp)).trans (by simp [go_sem])
    have z1 : w1.frozen? ⟨w.heap.size + 2, 0, none⟩ = false := (hb.frozen (p := ⟨w.heap.size + 2, 0, none⟩) (by simp)).trans (by simp [go_sem])
    have HB1 := hide ((unhide HB).trans (hb.mono (by simp; omega)))
    rw [hSB]
    clear hb
    go_wp2
    refine leaves_cons (f := 211) (args := #[.pointer (some ⟨w.heap.size + 1, 0, none⟩), .pointer (some ⟨w.heap.size + 2, 0, none⟩)]) (by simp) (by simp [go_sem]) ?_
    refine (scatch_idle _ _ _).mono ?_
    rintro e u' w'' ⟨rfl, rfl, rfl⟩
    simp [Leaves, settle, results, Tryz.results156, go_sem, c0, c1]
    exact (unhide HYES) _ (((unhide HB1).setCell (by simp) _).setCell (by simp; omega) _) hr
  · have hs := hb.size
    simp at hs
    have c0 : w1.cell? ⟨w.heap.size + 1, 0, none⟩ = some (.string ⟨#[]⟩) := (hb.cell (p := ⟨w.heap.size + 1, 0, none⟩) (by simp)).trans (by simp [go_sem])
    have c1 : w1.cell? ⟨w.heap.size + 2, 0, none⟩ = some (.int .i64 0) := (hb.cell (p := ⟨w.heap.size + 2, 0, none⟩) (by simp)).trans (by simp [go_sem])
    have z0 : w1.frozen? ⟨w.heap.size + 1, 0, none⟩ = false := (hb.frozen (p := ⟨w.heap.size + 1, 0, none⟩) (by simp)).trans (by simp [go_sem])
    have z1 : w1.frozen? ⟨w.heap.size + 2, 0, none⟩ = false := (hb.frozen (p := ⟨w.heap.size + 2, 0, none⟩) (by simp)).trans (by simp [go_sem])
    have hb0 : Below w.heap.size w w1 := (unhide HB).trans (hb.mono (by simp; omega))
    go_wp2
    refine leaves_cons (f := 211) (args := #[.pointer (some ⟨w.heap.size + 1, 0, none⟩), .pointer (some ⟨w.heap.size + 2, 0, none⟩)]) (by simp) (by simp [go_sem]) ?_
    refine (scatch_panicking (w.heap.size + 1) (w.heap.size + 2) w.heap.size 7 0 [] _ c0 c1 z0 z1 (by omega) (by omega) (by omega)).mono ?_
    rintro e u' w'' ⟨rfl, rfl, f0, f1, fb⟩
    simp [Leaves, settle, results, Tryz.results156, go_sem, f0, f1]
    exact (unhide HNO) _ (hb0.trans fb) hn

end Go.Proofs.YtblomippkddgiaaGreatDoor
