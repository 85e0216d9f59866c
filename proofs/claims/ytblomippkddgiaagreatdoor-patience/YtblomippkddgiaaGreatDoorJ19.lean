/-
  Joined: VLend VReads2 VWhole VReads3.
-/
import Derived.Test.YtblomippkddgiaaGreatDoorJ17
import Derived.Laws.CopyOwn
import Derived.Laws.MakeOwn
import Derived.Test.YtblomippkddgiaaGreatDoorJ18
/-
  The law's own 'lend': a list of the same items, with more behind it.
-/
namespace Go.Proofs.YtblomippkddgiaaGreatDoor.V
open Go.RowKit

def flat : List It → List Value
  | [] => []
  | x :: v => .int .i64 x.1 :: .string x.2 :: flat v
theorem flat_length : ∀ v : List It, (flat v).length = v.length * 2
  | [] => rfl
  | x :: v => by simp only [flat, List.length_cons, flat_length v]; omega
theorem flat_get : ∀ (v : List It) (j : Nat) (x : It), v[j]? = some x → (flat v)[j * 2]? = some (.int .i64 x.1) ∧ (flat v)[j * 2 + 1]? = some (.string x.2)
  | [], j, x, h => by simp at h
  | y :: v, 0, x, h => by
    simp at h
    subst h
    exact ⟨rfl, rfl⟩
  | y :: v, j + 1, x, h => by
    have := flat_get v j x (by simpa using h)
    rw [show (j + 1) * 2 = j * 2 + 1 + 1 by omega]
    simpa [flat] using this
theorem flat_one : ∀ v : List It, ∀ u ∈ flat v, u.oneCell' = true
  | [], u, h => by cases h
  | x :: v, u, h => by
    simp only [flat, List.mem_cons] at h
    rcases h with rfl | rfl | h
    · rfl
    · rfl
    · exact flat_one v u h
theorem items_flat {w : World} {ad : Addr} {cap : Nat} {v : List It} (h : Items w (.slice (some ad) v.length cap) v) : ∀ j u, (flat v)[j]? = some u → w.cell? (ad.add j) = some u := by
  obtain ⟨a, cap', hV, _, h⟩ := h
  cases hV
  rcases h with rfl | ⟨b, off, ha, hl, hx⟩
  · intro j u hj; simp [flat] at hj
  · cases ha
    intro j u hj
    have hjl : j < v.length * 2 := by
      rw [← flat_length]
      exact (List.getElem?_eq_some_iff.1 hj).1
    obtain ⟨x, hx'⟩ : ∃ x, v[j / 2]? = some x := ⟨_, List.getElem?_eq_getElem (by omega)⟩
    obtain ⟨f0, f1⟩ := flat_get v (j / 2) x hx'
    obtain ⟨c0, c1⟩ := hx (j / 2) x hx'
    have had : ∀ o, (⟨b, off, none⟩ : Addr).add o = ⟨b, off + o, none⟩ := fun o => by simp [Addr.add]
    rw [had]
    by_cases hp : j % 2 = 0
    · have e : j / 2 * 2 = j := by omega
      rw [e] at f0 c0
      rw [f0] at hj
      cases hj
      exact c0
    · have e : j / 2 * 2 + 1 = j := by omega
      rw [e] at f1
      rw [Nat.add_assoc, e] at c1
      rw [f1] at hj
      cases hj
      exact c1

theorem info31 : (Tryz.prog.info? 106).map (fun i => (i.zero, i.size, i.bytes)) = some (some (.agg #[.int .i64 0, .string ⟨#[]⟩]), 2, 24) := by kernel_rfl
theorem info31s : (Tryz.prog.info? 106).map (·.size) = some 2 := by kernel_rfl

theorem run_copy2 {P : Program} (w : World) (dT sT ty elem : TypeId) (g dLen dCap : Nat) (a : Addr) (sLen sCap : Nat) (cur : Array Value) (t : TypeId) (cs : List Value)
    (hu : P.underlying dT = some (.slice elem)) (hs : (P.info? elem).map (·.size) = some 2)
    (hg : w.heap[g]? = some (.cells cur t (0, 0))) (hn : cs.length = Nat.min sLen dLen * 2)
    (hsrc : ∀ j v, cs[j]? = some v → w.cell? (a.add j) = some v) (hfit : cs.length ≤ cur.size) (h1 : ∀ v ∈ cs, v.oneCell' = true) :
    (Builtin.copy_ #[dT, sT] ty #[.slice (some ⟨g, 0, none⟩) dLen dCap, .slice (some a) sLen sCap]).run P w =
      .ok (goInt (Nat.min sLen dLen)) (w.setRow g (cs ++ cur.toList.drop cs.length).toArray) := by
  have hl := run_loadCells_list (P := P) w a cs hsrc
  have hst := run_storeCells_at P g 0 t cs 0 cur w hg (by simpa using hfit) h1
  cases hq : P.info? elem with
  | none => simp [hq] at hs
  | some i =>
    have hi : i.size = 2 := by simpa [hq] using hs
    have hn' : Nat.min sLen dLen * 2 = cs.length := hn.symm
    simp [Builtin.copy_, run_underlying hu, Builtin.lenOf, Builtin.firstCells, sizeOf, typeInfo, hq, hi, hn', hl, hst]

def beyondIt : It := (-77, ⟨#[98, 101, 121, 111, 110, 100]⟩)
abbrev aggIt (x : It) : Value := .agg #[.int .i64 x.1, .string x.2]

/- block G has room for m items; those of l from number k on lie there -/
def Lent (w : World) (G m k : Nat) (l : List It) : Prop := ∃ cur : Array Value, w.heap[G]? = some (.cells cur 106 (0, 0)) ∧ cur.size = m * 2 ∧ ∀ j x, k ≤ j → l[j]? = some x → cur[j * 2]? = some (.int .i64 x.1) ∧ cur[j * 2 + 1]? = some (.string x.2)
theorem Lent.lt {w : World} {G m k : Nat} {l : List It} (h : Lent w G m k l) : G < w.heap.size := by
  obtain ⟨cur, hg, _⟩ := h
  exact lt_of_block hg
theorem Lent.below {w w' : World} {G m k : Nat} {l : List It} (h : Lent w G m k l) (hb : Below w.heap.size w w') : Lent w' G m k l := by
  have hl := h.lt
  obtain ⟨cur, hg, r⟩ := h
  exact ⟨cur, by rw [hb.block G hl]; exact hg, r⟩
theorem Lent.at {w : World} {G m k : Nat} {l : List It} (h : Lent w G m k l) {j : Nat} {x : It} (hk : k ≤ j) (hx : l[j]? = some x) : w.cell? ⟨G, j * 2, none⟩ = some (.int .i64 x.1) ∧ w.cell? ⟨G, j * 2 + 1, none⟩ = some (.string x.2) := by
  obtain ⟨cur, hg, _, r⟩ := h
  obtain ⟨r0, r1⟩ := r j x hk hx
  simp [World.cell?, hg, r0, r1]
theorem Lent.has {w : World} {G m k : Nat} {l : List It} (h : Lent w G m k l) {j : Nat} (hj : j < m) : ∃ a b, w.cell? ⟨G, j * 2, none⟩ = some a ∧ w.cell? ⟨G, j * 2 + 1, none⟩ = some b := by
  obtain ⟨cur, hg, hs, _⟩ := h
  refine ⟨cur[j * 2]'(by omega), cur[j * 2 + 1]'(by omega), ?_, ?_⟩
  · simp [World.cell?, hg, Array.getElem?_eq_getElem (show j * 2 < cur.size by omega)]
  · simp [World.cell?, hg, Array.getElem?_eq_getElem (show j * 2 + 1 < cur.size by omega)]
theorem Lent.thaw {w : World} {G m k : Nat} {l : List It} (h : Lent w G m k l) (o : Nat) : w.frozen? ⟨G, o, none⟩ = false := by
  obtain ⟨cur, hg, _⟩ := h
  simp [World.frozen?, hg]
/- the item number j is written -/
theorem Lent.set {w : World} {G m k : Nat} {l : List It} (h : Lent w G m k l) {j : Nat} (hj : j < m) (x : It) :
    Lent ((w.setCell ⟨G, j * 2, none⟩ (.int .i64 x.1)).setCell ⟨G, j * 2 + 1, none⟩ (.string x.2)) G m k (if j < l.length then l.set j x else l ++ [x]) ∨ ¬ j ≤ l.length := by
  by_cases hl : j ≤ l.length
  · refine Or.inl ?_
    obtain ⟨cur, hg, hs, r⟩ := h
    refine ⟨(cur.setIfInBounds (j * 2) (.int .i64 x.1)).setIfInBounds (j * 2 + 1) (.string x.2), ?_, by simp [hs], fun i y hi hy => ?_⟩
    · simp only [World.setCell, Array.getElem?_modify, hg]
      simp
    · by_cases hij : i = j
      · subst hij
        have : y = x := by
          by_cases hlt : i < l.length
          · rw [if_pos hlt, List.getElem?_set_self hlt] at hy
            cases hy
            rfl
          · rw [if_neg hlt, show i = l.length by omega] at hy
            simp at hy
            exact hy.symm
        subst this
        have e1 : ¬ i * 2 + 1 = i * 2 := by omega
        have s1 : i * 2 < cur.size := by omega
        have s2 : i * 2 + 1 < cur.size := by omega
        constructor
        · rw [Array.getElem?_setIfInBounds_ne (by omega), Array.getElem?_setIfInBounds_self_of_lt s1]
        · rw [Array.getElem?_setIfInBounds_self_of_lt (by simpa using s2)]
      · have hy' : l[i]? = some y := by
          by_cases hlt : j < l.length
          · rw [if_pos hlt, List.getElem?_set_ne (by omega)] at hy
            exact hy
          · rw [if_neg hlt] at hy
            by_cases hil : i < l.length
            · rwa [List.getElem?_append_left hil] at hy
            · rw [List.getElem?_append_right (by omega)] at hy
              have := (List.getElem?_eq_some_iff.1 hy).1
              simp at this
              omega
        obtain ⟨r0, r1⟩ := r i y hi hy'
        constructor
        · rw [Array.getElem?_setIfInBounds_ne (by omega), Array.getElem?_setIfInBounds_ne (by omega)]
          exact r0
        · rw [Array.getElem?_setIfInBounds_ne (by omega), Array.getElem?_setIfInBounds_ne (by omega)]
          exact r1
  · exact Or.inr hl
theorem Lent.snoc {w : World} {G m k : Nat} {l : List It} (h : Lent w G m k l) (hj : l.length < m) (x : It) :
    Lent ((w.setCell ⟨G, l.length * 2, none⟩ (.int .i64 x.1)).setCell ⟨G, l.length * 2 + 1, none⟩ (.string x.2)) G m k (l ++ [x]) := by
  rcases h.set hj x with h | h
  · rw [if_neg (by omega)] at h
    exact h
  · omega
theorem Lent.from {w : World} {G m k : Nat} {l : List It} (h : Lent w G m k l) (a b : Value) :
    Lent ((w.setCell ⟨G, k * 2, none⟩ a).setCell ⟨G, k * 2 + 1, none⟩ b) G m (k + 1) l := by
  obtain ⟨cur, hg, hs, r⟩ := h
  refine ⟨(cur.setIfInBounds (k * 2) a).setIfInBounds (k * 2 + 1) b, ?_, by simp [hs], fun i y hi hy => ?_⟩
  · simp only [World.setCell, Array.getElem?_modify, hg]
    simp
  · obtain ⟨r0, r1⟩ := r i y (by omega) hy
    constructor
    · rw [Array.getElem?_setIfInBounds_ne (by omega), Array.getElem?_setIfInBounds_ne (by omega)]
      exact r0
    · rw [Array.getElem?_setIfInBounds_ne (by omega), Array.getElem?_setIfInBounds_ne (by omega)]
      exact r1
theorem Lent.items {w : World} {G m : Nat} {l : List It} (h : Lent w G m 0 l) {v e : List It} (hl : l = v ++ e) (hm : v.length ≤ m) : Items w (.slice (some ⟨G, 0, none⟩) v.length m) v := by
  refine ⟨_, _, rfl, hm, Or.inr ⟨G, 0, rfl, h.lt, fun j x hx => ?_⟩⟩
  have := h.at (j := j) (x := x) (Nat.zero_le _) (by rw [hl, List.getElem?_append_left (List.getElem?_eq_some_iff.1 hx).1]; exact hx)
  simpa using this

theorem lent_copied (w : World) (n : Nat) (v : List It) (hv : v.length = n) (z : Array Value) :
    Lent ((w.alloc (.cells (madeCells z ((n + 6) * 2)) 106)).setRow w.heap.size (flat v ++ (madeCells z ((n + 6) * 2)).toList.drop (flat v).length).toArray) w.heap.size (n + 6) 0 v := by
  refine ⟨(flat v ++ (madeCells z ((n + 6) * 2)).toList.drop (flat v).length).toArray, ?_, ?_, fun j x _ hx => ?_⟩
  · simp only [World.setRow, Array.getElem?_modify, if_true]
    show Option.map _ ((w.heap.push _)[w.heap.size]?) = _
    rw [Array.getElem?_push_size]
    rfl
  · simp [size_madeCells, flat_length, hv]
    omega
  · obtain ⟨f0, f1⟩ := flat_get v j x hx
    have hj := (List.getElem?_eq_some_iff.1 hx).1
    have hl := flat_length v
    constructor
    · rw [List.getElem?_toArray, List.getElem?_append_left (by omega)]
      exact f0
    · rw [List.getElem?_toArray, List.getElem?_append_left (by omega)]
      exact f1

set_option maxRecDepth 100000 in
set_option maxHeartbeats 400000 in
theorem beyond_any (w : World) : Calls Tryz.prog 206 #[] w fun e w' => e = .returned (aggIt beyondIt) ∧ Below w.heap.size w w' := by
  go_enter Tryz.func206, Tryz.ntmps206
  go_wp2
  exact bodyPost_ret (v := aggIt beyondIt) (by simp [results, Tryz.results206, go_sem, beyondIt]) rfl ⟨rfl, (Below.refl _ _).alloc (Nat.le_refl _) _⟩

theorem notNil (ad : Addr) (n cap : Nat) (w : World) : (binOp .eql 44 (.slice (some ad) n cap) (.slice none 0 0)).run Tryz.prog w = .ok (.bool false) w := by kernel_rfl
theorem isNil (n cap : Nat) (w : World) : (binOp .eql 44 (.slice none n cap) (.slice none 0 0)).run Tryz.prog w = .ok (.bool true) w := by kernel_rfl
theorem snoc_replicate (v : List It) (k : Nat) (x : It) : v ++ List.replicate k x ++ [x] = v ++ List.replicate (k + 1) x := by
  rw [List.append_assoc, List.replicate_succ']

set_option maxRecDepth 100000 in
set_option maxHeartbeats 1000000 in
theorem lend_any (w : World) (ad : Addr) (cap : Nat) (v : List It) (h : Items w (.slice (some ad) v.length cap) v) (hn : v.length ≤ 9000000000000) :
    Calls Tryz.prog 148 #[.slice (some ad) v.length cap] w fun e w' => e = .returned (.slice (some ⟨w.heap.size, 0, none⟩) v.length (v.length + 6)) ∧ Lent w' w.heap.size (v.length + 6) 0 (v ++ List.replicate 6 beyondIt) ∧ Below w.heap.size w w' := by
  obtain ⟨n, hvn⟩ : ∃ n, n = v.length := ⟨_, rfl⟩
  obtain ⟨i0, hi, hz0, hz1, hz2⟩ := info_parts info31
  obtain ⟨z, hzz⟩ : ∃ z : Array Value, z = (Value.agg #[.int .i64 0, .string ⟨#[]⟩]).cells := ⟨_, rfl⟩
  have hmk : ∀ u : World, (Instr.makeSlice 44 (.int .i64 ((n : Int) + 6)) (.int .i64 ((n : Int) + 6))).run Tryz.prog u = .ok (.slice (some ⟨u.heap.size, 0, none⟩) (n + 6) (n + 6)) (u.alloc (.cells (madeCells z ((n + 6) * 2)) 106)) := fun u => by
    have h := run_make (P := Tryz.prog) u 44 106 i0 _ Tryz.underlying44 hi hz0 .i64 .i64 ((n : Int) + 6) ((n : Int) + 6) (by omega) (Int.le_refl _) (by rw [hz2]; omega) (by omega)
    have e : ((n : Int) + 6).toNat = n + 6 := by omega
    rw [e, hz1, ← hzz] at h
    exact h
  have HF := hide (items_flat h)
  have HB := hide beyond_any
  rw [← hvn]
  have HVN := hide hvn
  have hnn : n ≤ 9000000000000 := by omega
  have HL := hide (lent_copied w n v hvn.symm z)
  have hfl : (flat v).length = n * 2 := by rw [flat_length, ← hvn]
  have HG : Hid ((w.alloc (.cells (madeCells z ((n + 6) * 2)) 106)).heap[w.heap.size]? = some (.cells (madeCells z ((n + 6) * 2)) 106 (0, 0))) := by
    show (w.heap.push _)[w.heap.size]? = _
    rw [Array.getElem?_push_size]
  have HFS : Hid (∀ j u, (flat v)[j]? = some u → (w.alloc (.cells (madeCells z ((n + 6) * 2)) 106)).cell? (ad.add j) = some u) := by
    intro j u hj
    have h1 := (unhide HF) j u hj
    exact (World.cell?_of_block (w := w) (Below.heap_alloc w _ _ (by
      rcases Nat.lt_or_ge (ad.add j).block w.heap.size with hh | hh
      · exact hh
      · simp [World.cell?, Array.getElem?_eq_none hh] at h1))).trans h1
  have hnil := notNil ad n cap
  have hmin : Nat.min n (n + 6) = n := Nat.min_eq_left (by omega)
  have hcp := run_copy2 (P := Tryz.prog) (w.alloc (.cells (madeCells z ((n + 6) * 2)) 106)) 44 44 3 106 w.heap.size (n + 6) (n + 6) ad n cap (madeCells z ((n + 6) * 2)) 106 (flat v) Tryz.underlying44 info31s (unhide HG) (by rw [hfl, hmin]) (unhide HFS) (by rw [size_madeCells]; omega) (flat_one v)
  rw [hmin] at hcp
  obtain ⟨W1, hW1⟩ : ∃ W1, W1 = (w.alloc (.cells (madeCells z ((n + 6) * 2)) 106)).setRow w.heap.size (flat v ++ (madeCells z ((n + 6) * 2)).toList.drop (flat v).length).toArray := ⟨_, rfl⟩
  have HBW : Hid (Below w.heap.size w W1) := by
    rw [hW1]
    exact below_setRow ((Below.refl _ _).alloc (Nat.le_refl _) _) (Nat.le_refl _) _
  rw [← hW1] at hcp HL
  clear hzz h hvn hn hW1
  go_enter Tryz.func148, Tryz.ntmps148
  go_wp2
  go_loopw [5] (fun iv wr => ∃ i : Nat, n ≤ i ∧ i ≤ n + 6 ∧ iv = .int .i64 i ∧ Lent wr w.heap.size (n + 6) 0 (v ++ List.replicate (i - n) beyondIt) ∧ Below w.heap.size w wr) (fun iv _ => n + 6 - (intOf iv).toNat)
  case atStart =>
    refine ⟨n, Nat.le_refl _, by omega, rfl, ?_, unhide HBW⟩
    rw [Nat.sub_self, List.replicate_zero, List.append_nil]
    exact unhide HL
  case round =>
    obtain ⟨i, hni, hi6, rfl, hL, hb⟩ := hrel
    by_cases hlt : i < n + 6
    · have HLL := hide hL
      have HBB := hide hb
      clear hL hb
      go_wp2_with fail
      refine ((unhide HB) _).mono ?_
      rintro e w1 ⟨rfl, hb1⟩
      have hL1 := (unhide HLL).below hb1
      obtain ⟨a0, a1, c0, c1⟩ := hL1.has hlt
      have z0 := hL1.thaw (i * 2)
      have z1 := hL1.thaw (i * 2 + 1)
      have hbt := (unhide HBB).trans (hb1.mono (unhide HBB).size)
      have hlen : (v ++ List.replicate (i - n) beyondIt).length = i := by rw [List.length_append, List.length_replicate, ← unhide HVN]; omega
      have hL2 := hL1.snoc (by rw [hlen]; exact hlt) beyondIt
      rw [hlen, snoc_replicate, show i - n + 1 = i + 1 - n by omega] at hL2
      have HL2 := hide hL2
      have HBT := hide hbt
      clear hL1 hbt hL2 hb1 hlen
      go_wp2
      go_roundw
      case rel => exact ⟨i + 1, by omega, by omega, by go_num, unhide HL2, ((unhide HBT).setCell (by simp) _).setCell (by simp) _⟩
      case measure => simp [intOf]; omega
    · obtain rfl : i = n + 6 := by omega
      have HLL := hide hL
      have HBB := hide hb
      clear hL hb
      go_wp2
      go_ret
      refine ⟨rfl, ?_, unhide HBB⟩
      have := unhide HLL
      rw [show n + 6 - n = 6 by omega] at this
      exact this

end Go.Proofs.YtblomippkddgiaaGreatDoor.V
/-
  The landed code's reader of bytes: a number, a string.
-/
namespace Go.Proofs.YtblomippkddgiaaGreatDoor.V
open Go.RowKit

set_option maxRecDepth 100000 in
set_option maxHeartbeats 1000000 in
theorem take_no (b : Nat) (l : List UInt8) (O : Value) (n : Nat) (w : World) (h : Rd w b l O) (hn : ¬ n ≤ l.length) :
    Calls Tryz.prog 190 #[.pointer (some ⟨b, 0, none⟩), .int .i64 n] w fun e w' => e = gaveUp 6 0 ∧ Below w.heap.size w w' := by
  have h1 := h.left
  have hsz := str_size l
  have HN := hide (refuse_any b l O w h)
  generalize hS : str l = S at *
  clear hS h
  have hlt : ((S.size : Int) < (n : Int)) := by omega
  clear hn hsz
  go_enter Tryz.func190, Tryz.ntmps190
  go_wp2_with fail
  refine (unhide HN).mono ?_
  rintro e w1 ⟨rfl, rfl⟩
  go_wp2
  exact ⟨rfl, rfl, Below.refl _ _⟩

set_option maxRecDepth 100000 in
set_option maxHeartbeats 1000000 in
theorem byte_no (b : Nat) (O : Value) (w : World) (h : Rd w b [] O) : Calls Tryz.prog 113 #[.pointer (some ⟨b, 0, none⟩)] w fun e w' => e = gaveUp 6 0 ∧ Below w.heap.size w w' := by
  have H := hide (take_no b [] O 1 w h (by simp))
  clear h
  go_enter Tryz.func113, Tryz.ntmps113
  go_wp2_with fail
  refine (unhide H).mono ?_
  rintro e w1 ⟨rfl, hb⟩
  go_wp2
  exact ⟨rfl, rfl, hb⟩
set_option maxRecDepth 100000 in
set_option maxHeartbeats 1000000 in
theorem byte_ok (b : Nat) (c : UInt8) (r : List UInt8) (O : Value) (w : World) (h : Rd w b (c :: r) O) (hl : r.length ≤ 900) : Calls Tryz.prog 113 #[.pointer (some ⟨b, 0, none⟩)] w fun e w' => e = .returned (.int .i64 (c.toNat : Int)) ∧ w' = w.setCell ⟨b, 0, none⟩ (.string (str r)) := by
  have H := hide (take_ok b (c :: r) O 1 w h (by simp) (by simp; omega))
  rw [show (c :: r).take 1 = [c] from rfl, show (c :: r).drop 1 = r from rfl] at H
  have i0 : (str [c])[0]'(by rw [str_size]; simp) = c := rfl
  have hc := c.toNat_lt
  have hw : wrap64 (c.toNat : Int) = (c.toNat : Int) := by unfold wrap64; omega
  clear h
  go_enter Tryz.func113, Tryz.ntmps113
  go_wp2_with fail
  refine (unhide H).mono ?_
  rintro e w1 ⟨rfl, rfl⟩
  go_wp2
  go_ret
  exact ⟨rfl, rfl⟩

set_option maxRecDepth 100000 in
set_option maxHeartbeats 1000000 in
theorem twoBytes_no (b : Nat) (l : List UInt8) (O : Value) (w : World) (h : Rd w b l O) (hn : ¬ 2 ≤ l.length) :
    Calls Tryz.prog 114 #[.pointer (some ⟨b, 0, none⟩)] w fun e w' => e = gaveUp 6 0 ∧ Below b w w' := by
  match l, h, hn with
  | [], h, _ =>
    have hlt := h.lt
    have H := hide (byte_no b O w h)
    clear h
    go_enter Tryz.func114, Tryz.ntmps114
    go_wp2_with fail
    refine (unhide H).mono ?_
    rintro e w1 ⟨rfl, hb1⟩
    go_wp2
    exact ⟨rfl, rfl, hb1.mono (by omega)⟩
  | [a], h, _ =>
    have hlt := h.lt
    have H := hide (byte_ok b a [] O w h (by simp))
    have H2 := hide (byte_no b O _ (h.set0 []))
    have ha := a.toNat_lt
    have hw : wrap64 ((a.toNat : Int) * 256) = (a.toNat : Int) * 256 := by unfold wrap64; omega
    clear h
    go_enter Tryz.func114, Tryz.ntmps114
    go_wp2_with fail
    refine (unhide H).mono ?_
    rintro e w1 ⟨rfl, rfl⟩
    go_wp2_with fail
    refine (unhide H2).mono ?_
    rintro e w2 ⟨rfl, hb2⟩
    go_wp2
    exact ⟨rfl, rfl, ((Below.refl b w).setCell (by simp) _).trans (hb2.mono (by simp; omega))⟩
  | a :: c :: r, _, hn => exact absurd (by simp) hn

theorem or_two (a c : Nat) (ha : a < 256) (hc : c < 256) : bits .or .i64 ((a * 256 : Nat) : Int) (c : Int) = ((a * 256 + c : Nat) : Int) := by
  have e : a * 256 ||| c = a * 256 + c := by
    have h := Nat.two_pow_add_eq_or_of_lt (i := 8) (b := c) (by omega) a
    rw [show 2 ^ 8 * a = a * 256 by omega] at h
    exact h.symm
  have n1 : (BitVec.ofInt 64 ((a * 256 : Nat) : Int)).toNat = a * 256 := by
    rw [BitVec.ofInt_natCast, BitVec.toNat_ofNat]
    omega
  have n2 : (BitVec.ofInt 64 (c : Int)).toNat = c := by
    rw [BitVec.ofInt_natCast, BitVec.toNat_ofNat]
    omega
  show IntKind.i64.wrap ((BitVec.ofInt 64 ((a * 256 : Nat) : Int) ||| BitVec.ofInt 64 (c : Int)).toNat : Int) = _
  rw [BitVec.toNat_or, n1, n2, e, IntKind.wrap_i64]
  omega
def num2 (a c : UInt8) : Nat := a.toNat * 256 + c.toNat

set_option maxRecDepth 100000 in
set_option maxHeartbeats 1000000 in
theorem twoBytes_ok (b : Nat) (a c : UInt8) (r : List UInt8) (O : Value) (w : World) (h : Rd w b (a :: c :: r) O) (hl : r.length ≤ 500) :
    Calls Tryz.prog 114 #[.pointer (some ⟨b, 0, none⟩)] w fun e w' => e = .returned (.int .i64 (num2 a c)) ∧ w' = (w.setCell ⟨b, 0, none⟩ (.string (str (c :: r)))).setCell ⟨b, 0, none⟩ (.string (str r)) := by
  have H := hide (byte_ok b a (c :: r) O w h (by simp; omega))
  have H2 := hide (byte_ok b c r O _ (h.set0 (c :: r)) (by omega))
  have ha := a.toNat_lt
  have hc := c.toNat_lt
  have hw : wrap64 ((a.toNat : Int) * 256) = (a.toNat : Int) * 256 := by unfold wrap64; omega
  have ho : bits .or .i64 ((a.toNat : Int) * 256) (c.toNat : Int) = ((num2 a c : Nat) : Int) := by
    have := or_two a.toNat c.toNat (by omega) (by omega)
    rw [show ((a.toNat * 256 : Nat) : Int) = (a.toNat : Int) * 256 by omega] at this
    exact this
  clear h
  generalize str (c :: r) = S1 at *
  generalize str r = S2 at *
  go_enter Tryz.func114, Tryz.ntmps114
  go_wp2_with fail
  refine (unhide H).mono ?_
  rintro e w1 ⟨rfl, rfl⟩
  go_wp2_with fail
  refine (unhide H2).mono ?_
  rintro e w2 ⟨rfl, rfl⟩
  go_wp2
  go_ret
  exact ⟨rfl, rfl⟩

end Go.Proofs.YtblomippkddgiaaGreatDoor.V
/-
  The law's own 'whole': what was lent is as it was; then it is written over.
-/
namespace Go.Proofs.YtblomippkddgiaaGreatDoor.V
open Go.RowKit

theorem below_drewN {B : Nat} {u v : World} (h : Below B u v) (n : Nat) : Below B u (v.drewN n) := ⟨h.os, h.tape, h.output, h.size, h.block⟩

set_option maxRecDepth 100000 in
set_option maxHeartbeats 400000 in
theorem lend_nil (n cap : Nat) (w : World) : Calls Tryz.prog 148 #[.slice none n cap] w fun e w' => e = .returned (.slice none 0 0) ∧ w' = w := by
  have hnil := isNil n cap
  go_enter Tryz.func148, Tryz.ntmps148
  go_wp2
  go_ret
  exact ⟨rfl, rfl⟩

set_option maxRecDepth 100000 in
set_option maxHeartbeats 400000 in
theorem whole_nil (O : Value) (n cap : Nat) (w : World) : Calls Tryz.prog 150 #[O, .slice none n cap] w fun e w' => e = .returned (.bool true) ∧ w' = w := by
  have hnil := isNil n cap
  go_enter Tryz.func150, Tryz.ntmps150
  go_wp2
  go_ret
  exact ⟨rfl, rfl⟩

set_option maxRecDepth 100000 in
set_option maxHeartbeats 1000000 in
theorem whole_any (w0 w : World) (ad : Addr) (cap G : Nat) (v : List It) (hn : v.length ≤ 9000000000000) (hI : Items w0 (.slice (some ad) v.length cap) v) (hb0 : Below w0.heap.size w0 w) (hG : w0.heap.size ≤ G) (hL : Lent w G (v.length + 6) 0 (v ++ List.replicate 6 beyondIt)) :
    Calls Tryz.prog 150 #[.slice (some ⟨G, 0, none⟩) v.length (v.length + 6), .slice (some ad) v.length cap] w fun e w' => e = .returned (.bool true) ∧ Below w0.heap.size w0 w' := by
  obtain ⟨n, hvn⟩ : ∃ n, n = v.length := ⟨_, rfl⟩
  have hnil := notNil ad n cap
  have HB := hide beyond_any
  have HI := hide hI
  rw [← hvn] at HI hL
  rw [← hvn]
  have HVN := hide hvn
  have hnn : n ≤ 9000000000000 := by omega
  have HL := hide hL
  have HB0 := hide hb0
  clear hvn hn hI hL hb0
  go_enter Tryz.func150, Tryz.ntmps150
  go_wp2
  go_loopw [7, 8] (fun ok iv wr => ok = .bool true ∧ ∃ i : Nat, i ≤ n + 6 ∧ iv = .int .i64 i ∧ Lent wr G (n + 6) i (v ++ List.replicate 6 beyondIt) ∧ Below w0.heap.size w0 wr) (fun _ iv _ => n + 6 - (intOf iv).toNat)
  case atStart => exact ⟨rfl, 0, by omega, rfl, unhide HL, unhide HB0⟩
  case round =>
    obtain ⟨rfl, i, hi6, rfl, hL, hb⟩ := hrel
    by_cases hlt : i < n + 6
    · have HLL := hide hL
      have HBB := hide hb
      clear hL hb
      go_wp2_with fail
      refine ((unhide HB) _).mono ?_
      rintro e w1 ⟨rfl, hb1⟩
      have hL1 := (unhide HLL).below hb1
      have hbt := (unhide HBB).trans (hb1.mono (unhide HBB).size)
      obtain ⟨x, hx⟩ : ∃ x, (v ++ List.replicate 6 beyondIt)[i]? = some x := ⟨_, List.getElem?_eq_getElem (by rw [List.length_append, List.length_replicate, ← unhide HVN]; exact hlt)⟩
      obtain ⟨c0, c1⟩ := hL1.at (Nat.le_refl _) hx
      have z0 := hL1.thaw (i * 2)
      have z1 := hL1.thaw (i * 2 + 1)
      have hgl := hL1.lt
      have hgn : ¬ w1.heap.size = G := by omega
      have hgn' : ¬ G = w1.heap.size := by omega
      have HL1 := hide hL1
      have HBT := hide hbt
      by_cases hin : i < n
      · have hxv : v[i]? = some x := by rwa [List.getElem?_append_left (by rw [← unhide HVN]; exact hin)] at hx
        obtain ⟨b, off, cap', hV, hbl, d0, d1⟩ := ((unhide HI).below hbt).at hxv
        obtain rfl : ad = ⟨b, off, none⟩ := by
          injection hV with h1
          injection h1
        have hbn : ¬ w1.heap.size = b := by omega
        have hbn' : ¬ b = w1.heap.size := by omega
        clear hL1 hbt hx hxv hb1
        go_wp2
        go_quiet (fail)
        go_wp2
        go_roundw
        case rel =>
          exact ⟨rfl, i + 1, by omega, by go_num, ((unhide HL1).below (below_drewN ((Below.refl w1.heap.size w1).alloc (Nat.le_refl _) _) _)).from _ _, (((below_drewN ((unhide HBT).alloc (unhide HBT).size _) _).setCell (by simpa using hG) _).setCell (by simpa using hG) _)⟩
        case measure => simp [intOf]; omega
      · have hxb : x = beyondIt := by
          rw [List.getElem?_append_right (by rw [← unhide HVN]; omega), List.getElem?_replicate] at hx
          split at hx
          · cases hx; rfl
          · cases hx
        subst hxb
        clear hL1 hbt hx hb1
        go_wp2
        go_quiet (fail)
        go_wp2
        go_roundw
        case rel =>
          exact ⟨rfl, i + 1, by omega, by go_num, ((unhide HL1).below (below_drewN ((Below.refl w1.heap.size w1).alloc (Nat.le_refl _) _) _)).from _ _, (((below_drewN ((unhide HBT).alloc (unhide HBT).size _) _).setCell (by simpa using hG) _).setCell (by simpa using hG) _)⟩
        case measure => simp [intOf]; omega
    · clear hL
      have HBB := hide hb
      clear hb
      go_wp2
      go_ret
      exact ⟨rfl, unhide HBB⟩

end Go.Proofs.YtblomippkddgiaaGreatDoor.V
/-
  The landed code's reader of bytes: an item read.
-/
namespace Go.Proofs.YtblomippkddgiaaGreatDoor.V
open Go.RowKit

/- the reader's state: w0 is the world just ahead of it -/
structure RS (w0 w : World) (l : List UInt8) (O : Value) (v : List It) : Prop where
  rd : Rd w w0.heap.size l O
  below : Below w0.heap.size w0 w
  own : w.ownsRow (w0.heap.size + 1) 106 2 O v.length (flat v)
theorem RS.row {w0 w : World} {l : List UInt8} {O : Value} {v : List It} (h : RS w0 w l O v) {k : Nat} (hk : O.ownBlock = some k) : w0.heap.size < k ∧ k < w.heap.size := by
  have := h.own.lt k hk
  omega
theorem RS.go {w0 w w' : World} {l : List UInt8} {O : Value} {v : List It} (h : RS w0 w l O v) (hb : Below w.heap.size w w') : RS w0 w' l O v :=
  ⟨h.rd.below hb, h.below.trans (hb.mono h.below.size), row_below' h.own hb⟩
theorem RS.took {w0 w : World} {l : List UInt8} {O : Value} {v : List It} (h : RS w0 w l O v) (l' : List UInt8) : RS w0 (w.setCell ⟨w0.heap.size, 0, none⟩ (.string (str l'))) l' O v ∧ Wk w0.heap.size O O w (w.setCell ⟨w0.heap.size, 0, none⟩ (.string (str l'))) :=
  ⟨⟨h.rd.set0 l', h.below.setCell (by simp) _, row_set h.own (by omega)⟩, ⟨by simp, fun k _ hkb _ => Below.heap_setCell _ _ _ _ (by simpa using hkb), Or.inl rfl⟩⟩
theorem RS.drewN {w0 w : World} {l : List UInt8} {O : Value} {v : List It} (h : RS w0 w l O v) (q : Nat) : RS w0 (w.drewN q) l O v := ⟨h.rd, below_drewN h.below q, h.own⟩
theorem Wk.drewN {b : Nat} {O O' : Value} {w w' : World} (h : Wk b O O' w w') (q : Nat) : Wk b O O' w (w'.drewN q) := ⟨h.size, h.block, h.row⟩

theorem flat_snoc : ∀ (v : List It) (x : It), flat (v ++ [x]) = flat v ++ [.int .i64 x.1, .string x.2]
  | [], x => rfl
  | y :: v, x => by simp only [List.cons_append, flat, flat_snoc v x]

theorem rs_push {w0 w w1 : World} {l : List UInt8} {O O1 : Value} {v : List It} {x : It} {o : Obj} (h : RS w0 w l O v) (hown : w1.ownsRow (w0.heap.size + 1) 106 2 O1 (v.length + 1) (flat v ++ [.int .i64 x.1, .string x.2])) (hg : (w.alloc o).grownBy w1 O.ownBlock) (hat : O1.ownBlock = O.ownBlock ∨ O1.ownBlock = some (w.alloc o).heap.size) :
    Rd w1 w0.heap.size l O ∧ RS w0 (w1.setCell ⟨w0.heap.size, 2, none⟩ O1) l O1 (v ++ [x]) ∧ Wk w0.heap.size O O1 w (w1.setCell ⟨w0.heap.size, 2, none⟩ O1) := by
  have hlt := h.rd.lt
  have hgs : (w.alloc o).heap.size = w.heap.size + 1 := by simp
  have hs1 := hg.size
  have keep : ∀ k, k < w.heap.size → O.ownBlock ≠ some k → w1.heap[k]? = w.heap[k]? := by
    intro k hk hr
    rw [hg.block k (by omega) (fun e => hr e.symm)]
    exact Below.heap_alloc _ _ _ hk
  have hrow : ∀ k, O.ownBlock = some k → w0.heap.size < k := fun k hk => (h.row hk).1
  have hrd : Rd w1 w0.heap.size l O := by
    have := h.rd
    unfold Rd at this ⊢
    rw [keep _ hlt (fun e => by have := hrow _ e; omega)]
    exact this
  refine ⟨hrd, ⟨hrd.set1 O1, ?_, ?_⟩, ⟨by simp; omega, fun k hk hkb hr => ?_, ?_⟩⟩
  · exact ((h.below.alloc (by omega) o).grown hg (by omega) (fun k hk => by have := hrow k hk; omega)).setCell (by simp) _
  · have := row_set (k := w0.heap.size) (o := 2) (x := O1) hown (by omega)
    rw [List.length_append, flat_snoc]
    exact this
  · rw [Below.heap_setCell _ _ _ _ (by simpa using hkb)]
    exact keep k hk hr
  · rcases hat with h1 | h1
    · exact Or.inl h1
    · exact Or.inr ⟨_, h1, by omega⟩

theorem cells_pair (w : World) (x : It) : ∀ (j : Nat) (u : Value), ([Value.int .i64 x.1, .string x.2] : List Value)[j]? = some u → (w.alloc (.cells #[.int .i64 x.1, .string x.2] 106)).cell? ((⟨w.heap.size, 0, none⟩ : Addr).add j) = some u := by
  intro j u hj
  match j, hj with
  | 0, hj => simp at hj; subst hj; simp [Addr.add, go_sem]
  | 1, hj => simp at hj; subst hj; simp [Addr.add, go_sem]
  | j + 2, hj => simp at hj
theorem pair_one (x : It) : ∀ u ∈ ([Value.int .i64 x.1, .string x.2] : List Value), u.oneCell' = true := by
  intro u hu
  simp at hu
  rcases hu with rfl | rfl
  · rfl
  · rfl

theorem two_said (w0 w : World) (a c : UInt8) (r : List UInt8) (O : Value) (v : List It) (h : RS w0 w (a :: c :: r) O v) (hl : r.length ≤ 500) :
    Calls Tryz.prog 114 #[.pointer (some ⟨w0.heap.size, 0, none⟩)] w fun e w' => e = .returned (.int .i64 (num2 a c)) ∧ RS w0 w' r O v ∧ Wk w0.heap.size O O w w' := by
  refine (twoBytes_ok w0.heap.size a c r O w h.rd hl).mono ?_
  rintro e w' ⟨rfl, rfl⟩
  obtain ⟨h1, k1⟩ := h.took (c :: r)
  obtain ⟨h2, k2⟩ := h1.took r
  exact ⟨rfl, h2, k1.trans k2⟩

theorem num2_lt (a c : UInt8) : num2 a c < 65536 := by
  have ha := a.toNat_lt
  have hc := c.toNat_lt
  unfold num2
  omega

/- what the two bytes tell, between lo and hi -/
def turned (lo hi n : Int) : Int := if lo < 0 ∧ hi < n then n - 65536 else n

set_option maxRecDepth 100000 in
set_option maxHeartbeats 1000000 in
theorem rnumber_bad (w0 w : World) (l : List UInt8) (O : Value) (v : List It) (lo hi : Int) (n : Nat) (hn : n < 65536) (hbad : turned lo hi n < lo ∨ hi < turned lo hi n)
    (H : Calls Tryz.prog 114 #[.pointer (some ⟨w0.heap.size, 0, none⟩)] w fun e w' => e = .returned (.int .i64 n) ∧ RS w0 w' l O v ∧ Wk w0.heap.size O O w w') :
    Calls Tryz.prog 285 #[.pointer (some ⟨w0.heap.size, 0, none⟩), .int .i64 lo, .int .i64 hi] w fun e w' => e = gaveUp 6 0 ∧ Below w0.heap.size w0 w' := by
  have HH := hide H
  clear H
  unfold turned at hbad
  by_cases h1 : lo < 0
  · by_cases h2 : hi < (n : Int)
    · rw [if_pos ⟨h1, h2⟩] at hbad
      by_cases h3 : (n : Int) - 65536 < lo
      · go_enter Tryz.func285, Tryz.ntmps285
        go_wp2_with fail
        refine (unhide HH).mono ?_
        rintro e w1 ⟨rfl, hrs, _⟩
        have hb := hrs.below
        have HR := hide (refuse_any w0.heap.size l O w1 hrs.rd)
        clear hrs
        go_wp2_with fail
        refine (unhide HR).mono ?_
        rintro e w2 ⟨rfl, rfl⟩
        go_wp2
        exact ⟨rfl, rfl, hb⟩
      · have h4 : hi < (n : Int) - 65536 := by omega
        go_enter Tryz.func285, Tryz.ntmps285
        go_wp2_with fail
        refine (unhide HH).mono ?_
        rintro e w1 ⟨rfl, hrs, _⟩
        have hb := hrs.below
        have HR := hide (refuse_any w0.heap.size l O w1 hrs.rd)
        clear hrs
        go_wp2_with fail
        refine (unhide HR).mono ?_
        rintro e w2 ⟨rfl, rfl⟩
        go_wp2
        exact ⟨rfl, rfl, hb⟩
    · rw [if_neg (fun h => h2 h.2)] at hbad
      have h3 : (n : Int) < lo := by omega
      omega
  · rw [if_neg (fun h => h1 h.1)] at hbad
    by_cases h3 : (n : Int) < lo
    · go_enter Tryz.func285, Tryz.ntmps285
      go_wp2_with fail
      refine (unhide HH).mono ?_
      rintro e w1 ⟨rfl, hrs, _⟩
      have hb := hrs.below
      have HR := hide (refuse_any w0.heap.size l O w1 hrs.rd)
      clear hrs
      go_wp2_with fail
      refine (unhide HR).mono ?_
      rintro e w2 ⟨rfl, rfl⟩
      go_wp2
      exact ⟨rfl, rfl, hb⟩
    · have h4 : hi < (n : Int) := by omega
      go_enter Tryz.func285, Tryz.ntmps285
      go_wp2_with fail
      refine (unhide HH).mono ?_
      rintro e w1 ⟨rfl, hrs, _⟩
      have hb := hrs.below
      have HR := hide (refuse_any w0.heap.size l O w1 hrs.rd)
      clear hrs
      go_wp2_with fail
      refine (unhide HR).mono ?_
      rintro e w2 ⟨rfl, rfl⟩
      go_wp2
      exact ⟨rfl, rfl, hb⟩

set_option maxRecDepth 100000 in
set_option maxHeartbeats 1000000 in
theorem rnumber_none (w0 w : World) (lo hi : Int) (H : Calls Tryz.prog 114 #[.pointer (some ⟨w0.heap.size, 0, none⟩)] w fun e w' => e = gaveUp 6 0 ∧ Below w0.heap.size w0 w') :
    Calls Tryz.prog 285 #[.pointer (some ⟨w0.heap.size, 0, none⟩), .int .i64 lo, .int .i64 hi] w fun e w' => e = gaveUp 6 0 ∧ Below w0.heap.size w0 w' := by
  have HH := hide H
  clear H
  go_enter Tryz.func285, Tryz.ntmps285
  go_wp2_with fail
  refine (unhide HH).mono ?_
  rintro e w1 ⟨rfl, hb⟩
  go_wp2
  exact ⟨rfl, rfl, hb⟩

end Go.Proofs.YtblomippkddgiaaGreatDoor.V
