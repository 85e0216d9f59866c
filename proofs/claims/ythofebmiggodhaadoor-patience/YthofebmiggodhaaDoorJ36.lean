/-
  Joined: New2 New3.
-/
import Derived.Test.YthofebmiggodhaaDoorJ35
/-
  The landed New: its clients, one after the other.
-/
namespace Go.Proofs.YthofebmiggodhaaDoor
open Go.RowKit

theorem info71 : (Tryd.prog.info? 71).map (fun i => (i.zero, i.size, i.bytes)) = some (some (.pointer none), 1, 8) := by kernel_rfl

def cbs (cb : Nat → Nat) (k : Nat) : List Value := (List.range k).map fun i => ptr (cb i)
theorem cbs_len (cb : Nat → Nat) (k : Nat) : (cbs cb k).length = k := by simp [cbs]
def upd (f : Nat → Nat) (k v : Nat) : Nat → Nat := fun j => if j = k then v else f j
theorem upd_same (f : Nat → Nat) (k v : Nat) : upd f k v k = v := by simp [upd]
theorem upd_other (f : Nat → Nat) {k v j : Nat} (h : j ≠ k) : upd f k v j = f j := by simp [upd, h]
theorem cbs_upd (cb : Nat → Nat) (k v : Nat) : cbs (upd cb k v) (k + 1) = cbs cb k ++ [ptr v] := by
  unfold cbs
  rw [List.range_succ, List.map_append, List.map_singleton, upd_same]
  congr 1
  apply List.map_congr_left
  intro i hi
  rw [upd_other _ (by have := List.mem_range.1 hi; omega)]

/- while clients are made: A the configuration's block -/
structure NI (w : World) (c : R.Cf) (A n s x nm : Nat) (k : Nat) (cb lb bm : Nat → Nat) (K : Value) (wr : World) : Prop where
  below : Below w.heap.size w wr
  cA : wr.heap[A]? = some (.cells #[.int .i64 c.clients, .int .i64 c.lines, .int .i64 c.retry, .int .i64 c.tries, .int .i64 c.table] 28 (0, 0))
  cx : wr.heap[x]? = some (.cells #[ptr n, ptr s, K] 66 (0, 0))
  row : wr.ownsRow 0 71 1 K k (cbs cb k)
  cn : wr.heap[n]? = some (.cells #[.slice none 0 0] 79 (0, 0))
  cs : wr.heap[s]? = some (.cells #[.map (some nm), .slice none 0 0] 114 (0, 0))
  names : Mp wr 9 nm keyS (fun _ => none) 0
  lo : w.heap.size ≤ A ∧ w.heap.size ≤ n ∧ w.heap.size ≤ s ∧ w.heap.size ≤ x ∧ w.heap.size ≤ nm
  kb : ∀ j, K.ownBlock = some j → w.heap.size ≤ j
  each : ∀ i, i < k → (w.heap.size ≤ cb i ∧ w.heap.size ≤ lb i ∧ w.heap.size ≤ bm i) ∧ wr.heap[cb i]? = some (.cells #[.int .i64 (i : Int), .int .i64 1, .map (some (bm i)), .slice (some ⟨lb i, 0, none⟩) c.lines.toNat c.lines.toNat, .int .i64 c.retry, .int .i64 c.tries, ptr n] 103 (0, 0)) ∧
    wr.heap[lb i]? = some (.cells (tab LLn.cells (List.replicate c.lines.toNat zln)).toArray 108 (0, 0)) ∧ Mp wr 3 (bm i) keyI (fun _ => none) 0 ∧ bm i ≠ nm
  inj : ∀ i j, i < k → j < k → i ≠ j → lb i ≠ lb j ∧ bm i ≠ bm j

theorem row_store {w : World} {B : Nat} {e : TypeId} {size n : Nat} {v : Value} {xs : List Value} (h : w.ownsRow B e size v n xs) {b off : Nat} (hne : v.ownBlock ≠ some b) (u : Value) : (w.setCell ⟨b, off, none⟩ u).ownsRow B e size v n xs :=
  row_keep h (fun g hg => Below.heap_setCell _ _ _ _ (fun e => hne (by rw [hg]; exact congrArg some e)))

/- a client more -/
theorem NI.more {w : World} {c : R.Cf} {A n s x nm k : Nat} {cb lb bm : Nat → Nat} {K : Value} {wr w1 wz : World} (h : NI w c A n s x nm k cb lb bm K wr) {cb' lb' bm' : Nat} (hn : Cnew wr w1 k 1 c.lines.toNat n c.retry c.tries cb' lb' bm') {K' : Value} (hown : wz.ownsRow 0 71 1 K' (k + 1) (cbs cb k ++ [ptr cb'])) (hg : (w1.alloc (.cells #[ptr cb'] 71)).grownBy wz K.ownBlock) (hat : K'.ownBlock = K.ownBlock ∨ K'.ownBlock = some (w1.heap.size + 1)) :
    NI w c A n s x nm (k + 1) (upd cb k cb') (upd lb k lb') (upd bm k bm') K' (wz.setCell ⟨x, 2, none⟩ K') := by
  have s0 := h.below.size
  have s1 := hn.below.size
  have hK : Keeps (fun q => K.ownBlock = some q ∨ q = x) wr (wz.setCell ⟨x, 2, none⟩ K') :=
    Keeps.setCell (F := fun q => K.ownBlock = some q ∨ q = x) (((Keeps.ofBelow hn.below _).alloc _).grown hg (fun q hq => Or.inl (Or.inl hq))) (p := ⟨x, 2, none⟩) (Or.inl (Or.inr rfl)) _
  have hK1 : Keeps (fun q => K.ownBlock = some q ∨ q = x) w1 (wz.setCell ⟨x, 2, none⟩ K') :=
    Keeps.setCell (F := fun q => K.ownBlock = some q ∨ q = x) (((Keeps.refl _ _).alloc _).grown hg (fun q hq => Or.inl (Or.inl hq))) (p := ⟨x, 2, none⟩) (Or.inl (Or.inr rfl)) _
  have hKx : K.ownBlock ≠ some x := row_tag h.row h.cx (by decide)
  have hlx := lt_of_block h.cx
  have at' : ∀ {b : Nat} {ys : Array Value} {t : TypeId} {f : Nat × Nat}, wr.heap[b]? = some (.cells ys t f) → t ≠ 66 → t ≠ 71 → (wz.setCell ⟨x, 2, none⟩ K').heap[b]? = some (.cells ys t f) := fun hb h1 h2 => hK.at hb (by
    rintro (e | e)
    · exact row_tag h.row hb (fun q => h2 q.symm) e
    · exact ne_tag hb h.cx h1 e)
  have map' : ∀ {α : Type} {t : TypeId} {b : Nat} {lit : α → Lit} {g : α → Option Int} {m : Nat}, Mp wr t b lit g m → Mp (wz.setCell ⟨x, 2, none⟩ K') t b lit g m := fun hm => by
    obtain ⟨es, q, hq⟩ := hm.block
    refine hm.keep hK ?_
    rintro (e | e)
    · exact row_tag_map h.row hq e
    · exact (ne_map h.cx hq) e.symm
  have kolt : ∀ q, K.ownBlock = some q → q < wr.heap.size := fun q hq => (World.ownsRow.lt h.row q hq).2
  have new' : ∀ {b : Nat} {o : Obj}, w1.heap[b]? = some o → wr.heap.size ≤ b → (wz.setCell ⟨x, 2, none⟩ K').heap[b]? = some o := fun hb hl => hK1.at hb (by
    rintro (e | e)
    · have := kolt _ e
      omega
    · omega)
  have hne' : K'.ownBlock ≠ some x := by
    rcases hat with e | e
    · rw [e]; exact hKx
    · rw [e]
      intro q
      simp at q
      omega
  refine ⟨?_, at' h.cA (by decide) (by decide), ?_, ?_, at' h.cn (by decide) (by decide), at' h.cs (by decide) (by decide), map' h.names, h.lo, fun j hj => ?_, fun i hi => ?_, fun i j hi hj hij => ?_⟩
  · exact h.below.trans (hK.below s0 (fun q hq => by
      rcases hq with hq | rfl
      · exact h.kb q hq
      · exact h.lo.2.2.2.1))
  · have hgx : wz.heap[x]? = some (.cells #[ptr n, ptr s, K] 66 (0, 0)) := (hg.block x (by simp; omega) (fun e => hKx e.symm)).trans ((Below.heap_alloc _ _ _ (by omega)).trans ((hn.below.block x hlx).trans h.cx))
    exact heap_store (cs := [ptr n, ptr s, K]) (off := 2) hgx K'
  · rw [cbs_upd]
    exact row_store hown hne' _
  · rcases hat with e | e
    · exact h.kb j (e ▸ hj)
    · rw [e] at hj
      simp at hj
      omega
  · by_cases hik : i = k
    · subst hik
      simp only [upd_same]
      obtain ⟨es, q, hq⟩ := hn.map.block
      refine ⟨⟨by have := hn.c0; omega, by have := hn.l0; omega, by have := hn.b0; omega⟩, new' hn.cell hn.c0, new' hn.lines hn.l0, hn.map.keep hK1 ?_, ?_⟩
      · rintro (e | e)
        · have := kolt _ e
          have := hn.b0
          omega
        · have := hn.b0
          omega
      · have := h.names.lt
        have := hn.b0
        omega
    · obtain ⟨a1, a2, a3, a4, a5⟩ := h.each i (by omega)
      simp only [upd_other _ hik]
      exact ⟨a1, at' a2 (by decide) (by decide), at' a3 (by decide) (by decide), map' a4, a5⟩
  · by_cases hik : i = k
    · subst hik
      have hjk : j ≠ i := fun e => hij e.symm
      obtain ⟨_, _, a3, a4, _⟩ := h.each j (by omega)
      have l1 := lt_of_block a3
      have l2 := a4.lt
      simp only [upd_same, upd_other _ hjk]
      have := hn.l0
      have := hn.b0
      omega
    · by_cases hjk : j = k
      · subst hjk
        obtain ⟨_, _, a3, a4, _⟩ := h.each i (by omega)
        have l1 := lt_of_block a3
        have l2 := a4.lt
        simp only [upd_same, upd_other _ hik]
        have := hn.l0
        have := hn.b0
        omega
      · simp only [upd_other _ hik, upd_other _ hjk]
        exact h.inj i j (by omega) (by omega) hij
end Go.Proofs.YthofebmiggodhaaDoor
/-
  The landed New: a world is made.
-/
namespace Go.Proofs.YthofebmiggodhaaDoor
open Go.RowKit

set_option maxRecDepth 100000 in
set_option maxHeartbeats 1000000 in
theorem isRight_yes (c : R.Cf) (hc : R.okCf c) (w : World) : Calls Tryd.prog 33 #[cfv c.clients c.lines c.retry c.tries c.table] w fun e w' => e = .returned (.bool true) ∧ Below w.heap.size w w' := by
  obtain ⟨a, b, r, t, e⟩ := c
  obtain ⟨⟨h1, h2⟩, ⟨h3, h4⟩, ⟨h5, h6⟩, ⟨h7, h8⟩, h9, h10⟩ := hc
  simp only at h1 h2 h3 h4 h5 h6 h7 h8 h9 h10 ⊢
  go_enter Tryd.func33, Tryd.ntmps33
  go_wp2_with (first | (go_at_call 50; go_in))
  go_returns
  exact ⟨rfl, (Below.refl _ _).alloc (Nat.le_refl _) _⟩

set_option maxRecDepth 100000 in
theorem server_new (w : World) : Calls Tryd.prog 34 #[] w fun e w' => e = .returned (ptr (w.heap.size + 1)) ∧ w' = (w.alloc (.map #[] 0)).alloc (.cells #[.map (some w.heap.size), .slice none 0 0] 114) := by
  have hmm := @run_makeMap Tryd.prog
  go_enter Tryd.func34, Tryd.ntmps34
  go_wp2
  go_returns
  exact ⟨rfl, rfl⟩

set_option maxRecDepth 100000 in
theorem cf35 : ∀ args w, (callFunc 35 args).run Tryd.prog w = .ok (.enter 35 args) w := fun _ _ => rfl

theorem one_ptr (w : World) (cb : Nat) (j : Nat) (u : Value) (h : ([ptr cb] : List Value)[j]? = some u) : (w.alloc (.cells #[ptr cb] 71)).cell? ((⟨w.heap.size, 0, none⟩ : Addr).add j) = some u := by
  rw [Addr.add_lit, Nat.zero_add, World.cell?_alloc_new w _ _ j, ← List.getElem?_toArray] at *
  exact h

theorem Cnew.undrew {w w' : World} {k n nb : Nat} {life rt tr : Int} {cb lb bm : Nat} (h : Cnew w.drew w' k life n nb rt tr cb lb bm) : Cnew w w' k life n nb rt tr cb lb bm := ⟨YthofebmiggodhaaDoor.undrew h.below, h.c0, h.l0, h.b0, h.cell, h.lines, h.map⟩
theorem ni_start {w w1 : World} {c : R.Cf} {A : Nat} (hb : Below w.heap.size w w1) (hA : w.heap.size ≤ A) (hcA : w1.heap[A]? = some (.cells #[.int .i64 c.clients, .int .i64 c.lines, .int .i64 c.retry, .int .i64 c.tries, .int .i64 c.table] 28 (0, 0))) :
    NI w c A w1.heap.size (w1.heap.size + 1 + 1) (w1.heap.size + 1 + 1 + 1) (w1.heap.size + 1) 0 id id id (.slice none 0 0)
      ((((w1.alloc (.cells #[.slice none 0 0] 79)).alloc (.map #[] 0)).alloc (.cells #[.map (some (w1.heap.size + 1)), .slice none 0 0] 114)).alloc (.cells #[ptr w1.heap.size, ptr (w1.heap.size + 1 + 1), .slice none 0 0] 66)) := by
  have s0 := hb.size
  have hl := lt_of_block hcA
  have e1 : (w1.alloc (.cells #[.slice none 0 0] 79)).heap.size = w1.heap.size + 1 := by simp
  have e2 : ((w1.alloc (.cells #[.slice none 0 0] 79)).alloc (.map #[] 0)).heap.size = w1.heap.size + 1 + 1 := by simp
  have e3 : (((w1.alloc (.cells #[.slice none 0 0] 79)).alloc (.map #[] 0)).alloc (.cells #[.map (some (w1.heap.size + 1)), .slice none 0 0] 114)).heap.size = w1.heap.size + 1 + 1 + 1 := by simp
  refine ⟨?_, ?_, ?_, World.ownsRow_nil _ _ _ _, ?_, ?_, ?_, ⟨hA, by omega, by omega, by omega, by omega⟩, (fun j hj => by cases hj), (fun i hi => by omega), (fun i j hi => by omega)⟩
  · exact (((hb.alloc s0 _).alloc (by omega) _).alloc (by omega) _).alloc (by omega) _
  · rw [Below.heap_alloc _ _ _ (by omega), Below.heap_alloc _ _ _ (by omega), Below.heap_alloc _ _ _ (by omega), Below.heap_alloc _ _ _ hl]
    exact hcA
  · exact new_last _ _ e3
  · rw [Below.heap_alloc _ _ _ (by omega), Below.heap_alloc _ _ _ (by omega), Below.heap_alloc _ _ _ (by omega)]
    exact new_last _ _ rfl
  · rw [Below.heap_alloc _ _ _ (by omega)]
    exact new_last _ _ e2
  · have h0 := Mp.made (w1.alloc (.cells #[.slice none 0 0] 79)) 9 keyS
    rw [e1] at h0
    exact h0.above (((Below.refl _ _).alloc (by omega) _).alloc (by omega) _)

set_option maxRecDepth 100000 in
set_option maxHeartbeats 2000000 in
theorem new_walk (w : World) (c : R.Cf) (hc : R.okCf c) :
    Calls Tryd.prog 19 #[cfv c.clients c.lines c.retry c.tries c.table] w fun e w' => ∃ A n s x nm cb lb bm K, e = .returned (.tuple #[ptr x, .int .i64 0]) ∧ NI w c A n s x nm c.clients.toNat cb lb bm K w' := by
  have HR := hide (isRight_yes c hc)
  obtain ⟨a, b, r, t, tb⟩ := c
  obtain ⟨⟨h1, h2⟩, ⟨h3, h4⟩, ⟨h5, h6⟩, ⟨h7, h8⟩, h9, h10⟩ := hc
  simp only at h1 h2 h3 h4 h5 h6 h7 h8 h9 h10 HR ⊢
  have hmm := @run_makeMap Tryd.prog
  obtain ⟨N, hN⟩ : ∃ N : Nat, a = (N : Int) := ⟨a.toNat, by omega⟩
  obtain ⟨L, hL⟩ : ∃ L : Nat, b = (L : Int) := ⟨b.toNat, by omega⟩
  subst hN hL
  obtain ⟨BX, hBX⟩ : ∃ BX, w.alloc (.cells #[.int .i64 (N : Int), .int .i64 (L : Int), .int .i64 r, .int .i64 t, .int .i64 tb] 28) = BX := ⟨_, rfl⟩
  have HB : Hid (Below w.heap.size w BX) := by
    rw [← hBX]
    exact (Below.refl _ _).alloc (Nat.le_refl _) _
  have hbx : BX.heap[w.heap.size]? = some (.cells #[.int .i64 (N : Int), .int .i64 (L : Int), .int .i64 r, .int .i64 t, .int .i64 tb] 28 (0, 0)) := by
    rw [← hBX]
    exact heap_alloc_new w _
  have c0 : BX.cell? ⟨w.heap.size, 0, none⟩ = some (.int .i64 (N : Int)) := cell_of hbx 0 _ rfl
  have c1 : BX.cell? ⟨w.heap.size, 1, none⟩ = some (.int .i64 (L : Int)) := cell_of hbx 1 _ rfl
  have c2 : BX.cell? ⟨w.heap.size, 2, none⟩ = some (.int .i64 r) := cell_of hbx 2 _ rfl
  have c3 : BX.cell? ⟨w.heap.size, 3, none⟩ = some (.int .i64 t) := cell_of hbx 3 _ rfl
  have c4 : BX.cell? ⟨w.heap.size, 4, none⟩ = some (.int .i64 tb) := cell_of hbx 4 _ rfl
  have hlx := lt_of_block hbx
  have HBX := hide hBX
  have HCB := hide hbx
  have HCN := hide (fun w k nb => client_new w k L nb (N : Int) r t tb (by omega))
  obtain ⟨i0, hi, hz0, hz1, hz2⟩ := info_parts info71
  clear hBX hbx
  go_enter Tryd.func19, Tryd.ntmps19
  go_wp2_with fail
  rw [unhide HBX]
  refine ((unhide HR) _).mono ?_
  rintro e w1 ⟨rfl, hb1⟩
  have HNI := hide (ni_start (c := ⟨(N : Int), (L : Int), r, t, tb⟩) ((unhide HB).trans (hb1.mono (unhide HB).size)) (Nat.le_refl _) ((hb1.block _ hlx).trans (unhide HCB)))
  have d0 : w1.cell? ⟨w.heap.size, 0, none⟩ = some (.int .i64 (N : Int)) := (hb1.cell (p := ⟨w.heap.size, 0, none⟩) hlx).trans c0
  have hl1 : w.heap.size < w1.heap.size := Nat.lt_of_lt_of_le hlx hb1.size
  have d4 : ((((w1.alloc (.cells #[.slice none 0 0] 79)).alloc (.map #[] 0)).alloc (.cells #[.map (some (w1.heap.size + 1)), .slice none 0 0] 114)).alloc (.cells #[.pointer (some ⟨w1.heap.size, 0, none⟩), .pointer (some ⟨w1.heap.size + 1 + 1, 0, none⟩), .slice none 0 0] 66)).cell? ⟨w.heap.size, 0, none⟩ = some (.int .i64 (N : Int)) := cell_of (unhide HNI).cA 0 _ rfl
  clear hb1 c0 c1 c2 c3 c4
  go_wp2_with (first | (go_at_call 34; refine (server_new _).mono ?_; rintro e w' ⟨rfl, hw'⟩; rw [hw']; clear hw'))
  go_loopw [16] (fun iv wr => ∃ (k : Nat) (cb lb bm : Nat → Nat) (K : Value), k ≤ N ∧ iv = .int .i64 k ∧ NI w ⟨(N : Int), (L : Int), r, t, tb⟩ w.heap.size w1.heap.size (w1.heap.size + 1 + 1) (w1.heap.size + 1 + 1 + 1) (w1.heap.size + 1) k cb lb bm K wr) (fun iv _ => N - (intOf iv).toNat)
  case atStart => exact ⟨0, id, id, id, _, Nat.zero_le _, rfl, unhide HNI⟩
  case round =>
    obtain ⟨k, cb, lb, bm, K, hk, rfl, hni⟩ := hrel
    by_cases hlt : k < N
    · have hn1 := hni.cx
      have a2 : wr.cell? ⟨w1.heap.size + 1 + 1 + 1, 2, none⟩ = some K := cell_of hn1 2 _ rfl
      have a0 : wr.cell? ⟨w1.heap.size + 1 + 1 + 1, 0, none⟩ = some (ptr w1.heap.size) := cell_of hn1 0 _ rfl
      have f2 : wr.frozen? ⟨w1.heap.size + 1 + 1 + 1, 2, none⟩ = false := open_list hn1
      have b0 : wr.cell? ⟨w.heap.size, 0, none⟩ = some (.int .i64 (N : Int)) := cell_of hni.cA 0 _ rfl
      have b1 : wr.cell? ⟨w.heap.size, 1, none⟩ = some (.int .i64 (L : Int)) := cell_of hni.cA 1 _ rfl
      have b2 : wr.cell? ⟨w.heap.size, 2, none⟩ = some (.int .i64 r) := cell_of hni.cA 2 _ rfl
      have b3 : wr.cell? ⟨w.heap.size, 3, none⟩ = some (.int .i64 t) := cell_of hni.cA 3 _ rfl
      have b4 : wr.cell? ⟨w.heap.size, 4, none⟩ = some (.int .i64 tb) := cell_of hni.cA 4 _ rfl
      have hlr := lt_of_block hn1
      have HNR := hide hni
      obtain ⟨ka, kc, hKs⟩ := slice_of hni.row
      subst hKs
      have hKx := row_tag hni.row hni.cx (by decide)
      have HKX := hide hKx
      clear hni hn1 hKx
      go_wp2
      go_region_law (first
        | (refine step_call rfl 35 #[.tmp 24, .tmp 25, .tmp 29] #[3, 28, 62] rfl cf35 #[.int .i64 (k : Int), cfv (N : Int) (L : Int) r t tb, ptr w1.heap.size] rfl _ ((unhide HCN) _ k w1.heap.size) ?_; rintro e w2 ⟨cb', lb', bm', rfl, hnew⟩; have hb2 := undrew hnew.below; have s2 := hb2.size; have e2 : w2.cell? ⟨w1.heap.size + 1 + 1 + 1, 2, none⟩ = some (.slice ka k kc) := (hb2.cell (p := ⟨w1.heap.size + 1 + 1 + 1, 2, none⟩) hlr).trans a2; have e2z : w2.frozen? ⟨w1.heap.size + 1 + 1 + 1, 2, none⟩ = false := (hb2.frozen (p := ⟨w1.heap.size + 1 + 1 + 1, 2, none⟩) hlr).trans f2; have HW2 := hide hnew; have HB2 := hide hb2; have hlw : w1.heap.size + 1 + 1 + 1 < w2.heap.size := Nat.lt_of_lt_of_le hlr s2; clear hb2 hnew; refine ⟨_, rfl, ?_⟩)
        | (refine step_append_own rfl (.tmp 23) (.tmp 31) 64 rfl 0 71 i0 (.pointer none) 1 8 Tryd.underlying64 hi hz0 hz1 hz2 rfl (by decide) (.slice ka k kc) k (cbs cb k) rfl (by exact (row_below' (unhide HNR).row (unhide HB2)).alloc _) ⟨w2.heap.size, 0, none⟩ 1 1 [ptr cb'] rfl rfl (by exact one_ptr w2 cb') (by simp [Value.oneCell']) (by unfold maxLen; omega) (by omega) (by omega) ?_; intro v' wz hownz hgrow hat; obtain ⟨va, vn, vc, hvs⟩ := row_shape hownz; subst hvs; have hgn : wz.heap[w1.heap.size + 1 + 1 + 1]? = w2.heap[w1.heap.size + 1 + 1 + 1]? := (hgrow.block _ (by simp; omega) (fun e => (unhide HKX) e.symm)).trans (Below.heap_alloc _ _ _ hlw); have gz : wz.frozen? ⟨w1.heap.size + 1 + 1 + 1, 2, none⟩ = false := (World.frozen?_of_block hgn).trans e2z; have gn : wz.cell? ⟨w1.heap.size + 1 + 1 + 1, 2, none⟩ = some (.slice ka k kc) := (World.cell?_of_block hgn).trans e2; have HOZ := hide hownz; have HGZ := hide hgrow; have HAT := hide hat; clear hownz hgrow hat hgn))
      all_goals
        have HM := hide ((unhide HNR).more (unhide HW2).undrew (unhide HOZ) (unhide HGZ) (by have := unhide HAT; simpa using this))
        clear HOZ HGZ HAT HW2 HNR
        go_wp2
        go_roundw
        case rel => exact ⟨k + 1, _, _, _, _, by omega, by go_num, unhide HM⟩
        case measure => simp [intOf]; omega
    · obtain rfl : k = N := by omega
      go_wp2
      go_returns
      exact ⟨_, _, _, _, _, cb, lb, bm, K, rfl, hni⟩
end Go.Proofs.YthofebmiggodhaaDoor
