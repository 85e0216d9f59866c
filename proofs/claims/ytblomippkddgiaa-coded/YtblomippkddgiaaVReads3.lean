/-
  The landed code's reader of bytes: an item read.
-/
import Derived.Test.YtblomippkddgiaaVReads2
import Derived.Test.YtblomippkddgiaaVWhole
namespace Go.Proofs.Ytblomippkddgiaa.V
open Go.RowKit

/- the reader's state: w0 is the world just ahead of it -/
structure RS (w0 w : World) (l : List UInt8) (O : Value) (v : List It) : Prop where
  rd : Rd w w0.heap.size l O
  below : Below w0.heap.size w0 w
  own : w.ownsRow (w0.heap.size + 1) 31 2 O v.length (flat v)
theorem RS.row {w0 w : World} {l : List UInt8} {O : Value} {v : List It} (h : RS w0 w l O v) {k : Nat} (hk : O.ownBlock = some k) : w0.heap.size < k ∧ k < w.heap.size := by
  have := h.own.lt k hk
  omega
theorem RS.go {w0 w w' : World} {l : List UInt8} {O : Value} {v : List It} (h : RS w0 w l O v) (hb : Below w.heap.size w w') : RS w0 w' l O v :=
  ⟨h.rd.below hb, h.below.trans (hb.mono h.below.size), row_below' h.own hb⟩
theorem RS.took {w0 w : World} {l : List UInt8} {O : Value} {v : List It} (h : RS w0 w l O v) (l' : List UInt8) : RS w0 (w.setCell ⟨w0.heap.size, 0, none⟩ (.string (str l'))) l' O v ∧ Wk w0.heap.size O O w (w.setCell ⟨w0.heap.size, 0, none⟩ (.string (str l'))) :=
  ⟨⟨h.rd.set0 l', h.below.setCell (by simp) _, row_set h.own (by omega)⟩, ⟨by simp, fun k _ hkb _ => Below.heap_setCell _ _ _ _ (by simpa using hkb), Or.inl rfl⟩⟩
theorem RS.drewN {w0 w : World} {l : List UInt8} {O : Value} {v : List It} (h : RS w0 w l O v) (q : Nat) : RS w0 (w.drewN q) l O v := ⟨h.rd, below_drewN h.below q, h.own⟩
theorem Wk.drewN {b : Nat} {O O' : Value} {w w' : World} (h : Wk b O O' w w') (q : Nat) : Wk b O O' w (w'.drewN q) := ⟨h.size, h.block, h.row⟩

theorem flat_snoc : ∀ (v : List It) (x : It), flat (v ++ [x]) = flat v ++ [.int .i64 x.1, .string x.2]
  | [], x => rfl
  | y :: v, x => by simp only [List.cons_append, flat, flat_snoc v x]

theorem rs_push {w0 w w1 : World} {l : List UInt8} {O O1 : Value} {v : List It} {x : It} {o : Obj} (h : RS w0 w l O v) (hown : w1.ownsRow (w0.heap.size + 1) 31 2 O1 (v.length + 1) (flat v ++ [.int .i64 x.1, .string x.2])) (hg : (w.alloc o).grownBy w1 O.ownBlock) (hat : O1.ownBlock = O.ownBlock ∨ O1.ownBlock = some (w.alloc o).heap.size) :
    Rd w1 w0.heap.size l O ∧ RS w0 (w1.setCell ⟨w0.heap.size, 2, none⟩ O1) l O1 (v ++ [x]) ∧ Wk w0.heap.size O O1 w (w1.setCell ⟨w0.heap.size, 2, none⟩ O1) := by
  have hlt := h.rd.lt
  have hgs : (w.alloc o).heap.size = w.heap.size + 1 := by simp
  have hs1 := hg.size
  have keep : ∀ k, k < w.heap.size → O.ownBlock ≠ some k → w1.heap[k]? = w.heap[k]? := by
    intro k hk hr
    rw [hg.block k (by omega) (fun e => hr e.symm)]
    exact Below.heap_alloc _ _ _ hk
  have hrow : ∀ k, O.ownBlock = some k → w0.heap.size < k := fun k hk => (h.row hk).1
  have hrd : Rd w1 w0.heap.size l O := by
    have := h.rd
    unfold Rd at this ⊢
    rw [keep _ hlt (fun e => by have := hrow _ e; omega)]
    exact this
  refine ⟨hrd, ⟨hrd.set1 O1, ?_, ?_⟩, ⟨by simp; omega, fun k hk hkb hr => ?_, ?_⟩⟩
  · exact ((h.below.alloc (by omega) o).grown hg (by omega) (fun k hk => by have := hrow k hk; omega)).setCell (by simp) _
  · have := row_set (k := w0.heap.size) (o := 2) (x := O1) hown (by omega)
    rw [List.length_append, flat_snoc]
    exact this
  · rw [Below.heap_setCell _ _ _ _ (by simpa using hkb)]
    exact keep k hk hr
  · rcases hat with h1 | h1
    · exact Or.inl h1
    · exact Or.inr ⟨_, h1, by omega⟩

theorem cells_pair (w : World) (x : It) : ∀ (j : Nat) (u : Value), ([Value.int .i64 x.1, .string x.2] : List Value)[j]? = some u → (w.alloc (.cells #[.int .i64 x.1, .string x.2] 31)).cell? ((⟨w.heap.size, 0, none⟩ : Addr).add j) = some u := by
  intro j u hj
  match j, hj with
  | 0, hj => simp at hj; subst hj; simp [Addr.add, go_sem]
  | 1, hj => simp at hj; subst hj; simp [Addr.add, go_sem]
  | j + 2, hj => simp at hj
theorem pair_one (x : It) : ∀ u ∈ ([Value.int .i64 x.1, .string x.2] : List Value), u.oneCell' = true := by
  intro u hu
  simp at hu
  rcases hu with rfl | rfl
  · rfl
  · rfl

theorem two_said (w0 w : World) (a c : UInt8) (r : List UInt8) (O : Value) (v : List It) (h : RS w0 w (a :: c :: r) O v) (hl : r.length ≤ 500) :
    Calls Try.prog 88 #[.pointer (some ⟨w0.heap.size, 0, none⟩)] w fun e w' => e = .returned (.int .i64 (num2 a c)) ∧ RS w0 w' r O v ∧ Wk w0.heap.size O O w w' := by
  refine (twoBytes_ok w0.heap.size a c r O w h.rd hl).mono ?_
  rintro e w' ⟨rfl, rfl⟩
  obtain ⟨h1, k1⟩ := h.took (c :: r)
  obtain ⟨h2, k2⟩ := h1.took r
  exact ⟨rfl, h2, k1.trans k2⟩

theorem num2_lt (a c : UInt8) : num2 a c < 65536 := by
  have ha := a.toNat_lt
  have hc := c.toNat_lt
  unfold num2
  omega

/- what the two bytes tell, between lo and hi -/
def turned (lo hi n : Int) : Int := if lo < 0 ∧ hi < n then n - 65536 else n

set_option maxRecDepth 100000 in
set_option maxHeartbeats 1000000 in
theorem rnumber_bad (w0 w : World) (l : List UInt8) (O : Value) (v : List It) (lo hi : Int) (n : Nat) (hn : n < 65536) (hbad : turned lo hi n < lo ∨ hi < turned lo hi n)
    (H : Calls Try.prog 88 #[.pointer (some ⟨w0.heap.size, 0, none⟩)] w fun e w' => e = .returned (.int .i64 n) ∧ RS w0 w' l O v ∧ Wk w0.heap.size O O w w') :
    Calls Try.prog 121 #[.pointer (some ⟨w0.heap.size, 0, none⟩), .int .i64 lo, .int .i64 hi] w fun e w' => e = gaveUp 6 0 ∧ Below w0.heap.size w0 w' := by
  have HH := hide H
  clear H
  unfold turned at hbad
  by_cases h1 : lo < 0
  · by_cases h2 : hi < (n : Int)
    · rw [if_pos ⟨h1, h2⟩] at hbad
      by_cases h3 : (n : Int) - 65536 < lo
      · go_enter Try.func121, Try.ntmps121
        go_wp2_with fail
        refine (unhide HH).mono ?_
        rintro e w1 ⟨rfl, hrs, _⟩
        have hb := hrs.below
        have HR := hide (refuse_any w0.heap.size l O w1 hrs.rd)
        clear hrs
        go_wp2_with fail
        refine (unhide HR).mono ?_
        rintro e w2 ⟨rfl, rfl⟩
        go_wp2
        exact ⟨rfl, rfl, hb⟩
      · have h4 : hi < (n : Int) - 65536 := by omega
        go_enter Try.func121, Try.ntmps121
        go_wp2_with fail
        refine (unhide HH).mono ?_
        rintro e w1 ⟨rfl, hrs, _⟩
        have hb := hrs.below
        have HR := hide (refuse_any w0.heap.size l O w1 hrs.rd)
        clear hrs
        go_wp2_with fail
        refine (unhide HR).mono ?_
        rintro e w2 ⟨rfl, rfl⟩
        go_wp2
        exact ⟨rfl, rfl, hb⟩
    · rw [if_neg (fun h => h2 h.2)] at hbad
      have h3 : (n : Int) < lo := by omega
      omega
  · rw [if_neg (fun h => h1 h.1)] at hbad
    by_cases h3 : (n : Int) < lo
    · go_enter Try.func121, Try.ntmps121
      go_wp2_with fail
      refine (unhide HH).mono ?_
      rintro e w1 ⟨rfl, hrs, _⟩
      have hb := hrs.below
      have HR := hide (refuse_any w0.heap.size l O w1 hrs.rd)
      clear hrs
      go_wp2_with fail
      refine (unhide HR).mono ?_
      rintro e w2 ⟨rfl, rfl⟩
      go_wp2
      exact ⟨rfl, rfl, hb⟩
    · have h4 : hi < (n : Int) := by omega
      go_enter Try.func121, Try.ntmps121
      go_wp2_with fail
      refine (unhide HH).mono ?_
      rintro e w1 ⟨rfl, hrs, _⟩
      have hb := hrs.below
      have HR := hide (refuse_any w0.heap.size l O w1 hrs.rd)
      clear hrs
      go_wp2_with fail
      refine (unhide HR).mono ?_
      rintro e w2 ⟨rfl, rfl⟩
      go_wp2
      exact ⟨rfl, rfl, hb⟩

set_option maxRecDepth 100000 in
set_option maxHeartbeats 1000000 in
theorem rnumber_none (w0 w : World) (lo hi : Int) (H : Calls Try.prog 88 #[.pointer (some ⟨w0.heap.size, 0, none⟩)] w fun e w' => e = gaveUp 6 0 ∧ Below w0.heap.size w0 w') :
    Calls Try.prog 121 #[.pointer (some ⟨w0.heap.size, 0, none⟩), .int .i64 lo, .int .i64 hi] w fun e w' => e = gaveUp 6 0 ∧ Below w0.heap.size w0 w' := by
  have HH := hide H
  clear H
  go_enter Try.func121, Try.ntmps121
  go_wp2_with fail
  refine (unhide HH).mono ?_
  rintro e w1 ⟨rfl, hb⟩
  go_wp2
  exact ⟨rfl, rfl, hb⟩

end Go.Proofs.Ytblomippkddgiaa.V
