/-
  Joined: VReads3 VReads4 VReads5.
-/
import Derived.Test.YtblomippkddgiaaGreatDoorJ24
/-
  The landed code's reader of bytes: an item read.
-/
namespace Go.Proofs.YtblomippkddgiaaGreatDoor.V
open Go.RowKit

/- the reader's state: w0 is the world just ahead of it -/
structure RS (w0 w : World) (l : List UInt8) (O : Value) (v : List It) : Prop where
  rd : Rd w w0.heap.size l O
  below : Below w0.heap.size w0 w
  own : w.ownsRow (w0.heap.size + 1) 106 2 O v.length (flat v)
theorem RS.row {w0 w : World} {l : List UInt8} {O : Value} {v : List It} (h : RS w0 w l O v) {k : Nat} (hk : O.ownBlock = some k) : w0.heap.size < k ∧ k < w.heap.size := by
  have := h.own.lt k hk
  omega
theorem RS.go {w0 w w' : World} {l : List UInt8} {O : Value} {v : List It} (h : RS w0 w l O v) (hb : Below w.heap.size w w') : RS w0 w' l O v :=
  ⟨h.rd.below hb, h.below.trans (hb.mono h.below.size), row_below' h.own hb⟩
theorem RS.took {w0 w : World} {l : List UInt8} {O : Value} {v : List It} (h : RS w0 w l O v) (l' : List UInt8) : RS w0 (w.setCell ⟨w0.heap.size, 0, none⟩ (.string (str l'))) l' O v ∧ Wk w0.heap.size O O w (w.setCell ⟨w0.heap.size, 0, none⟩ (.string (str l'))) :=
  ⟨⟨h.rd.set0 l', h.below.setCell (by simp) _, row_set h.own (by omega)⟩, ⟨by simp, fun k _ hkb _ => Below.heap_setCell _ _ _ _ (by simpa using hkb), Or.inl rfl⟩⟩
theorem RS.drewN {w0 w : World} {l : List UInt8} {O : Value} {v : List It} (h : RS w0 w l O v) (q : Nat) : RS w0 (w.drewN q) l O v := ⟨h.rd, below_drewN h.below q, h.own⟩
theorem Wk.drewN {b : Nat} {O O' : Value} {w w' : World} (h : Wk b O O' w w') (q : Nat) : Wk b O O' w (w'.drewN q) := ⟨h.size, h.block, h.row⟩

theorem flat_snoc : ∀ (v : List It) (x : It), flat (v ++ [x]) = flat v ++ [.int .i64 x.1, .string x.2]
  | [], x => rfl
  | y :: v, x => by simp only [List.cons_append, flat, flat_snoc v x]

theorem rs_push {w0 w w1 : World} {l : List UInt8} {O O1 : Value} {v : List It} {x : It} {o : Obj} (h : RS w0 w l O v) (hown : w1.ownsRow (w0.heap.size + 1) 106 2 O1 (v.length + 1) (flat v ++ [.int .i64 x.1, .string x.2])) (hg : (w.alloc o).grownBy w1 O.ownBlock) (hat : O1.ownBlock = O.ownBlock ∨ O1.ownBlock = some (w.alloc o).heap.size) :
    Rd w1 w0.heap.size l O ∧ RS w0 (w1.setCell ⟨w0.heap.size, 2, none⟩ O1) l O1 (v ++ [x]) ∧ Wk w0.heap.size O O1 w (w1.setCell ⟨w0.heap.size, 2, none⟩ O1) := by
  have hlt := h.rd.lt
  have hgs : (w.alloc o).heap.size = w.heap.size + 1 := by simp
  have hs1 := hg.size
  have keep : ∀ k, k < w.heap.size → O.ownBlock ≠ some k → w1.heap[k]? = w.heap[k]? := by
    intro k hk hr
    rw [hg.block k (by omega) (fun e => hr e.symm)]
    exact Below.heap_alloc _ _ _ hk
  have hrow : ∀ k, O.ownBlock = some k → w0.heap.size < k := fun k hk => (h.row hk).1
  have hrd : Rd w1 w0.heap.size l O := by
    have := h.rd
    unfold Rd at this ⊢
    rw [keep _ hlt (fun e => by have := hrow _ e; omega)]
    exact this
  refine ⟨hrd, ⟨hrd.set1 O1, ?_, ?_⟩, ⟨by simp; omega, fun k hk hkb hr => ?_, ?_⟩⟩
  · exact ((h.below.alloc (by omega) o).grown hg (by omega) (fun k hk => by have := hrow k hk; omega)).setCell (by simp) _
  · have := row_set (k := w0.heap.size) (o := 2) (x := O1) hown (by omega)
    rw [List.length_append, flat_snoc]
    exact this
  · rw [Below.heap_setCell _ _ _ _ (by simpa using hkb)]
    exact keep k hk hr
  · rcases hat with h1 | h1
    · exact Or.inl h1
    · exact Or.inr ⟨_, h1, by omega⟩

theorem cells_pair (w : World) (x : It) : ∀ (j : Nat) (u : Value), ([Value.int .i64 x.1, .string x.2] : List Value)[j]? = some u → (w.alloc (.cells #[.int .i64 x.1, .string x.2] 106)).cell? ((⟨w.heap.size, 0, none⟩ : Addr).add j) = some u := by
  intro j u hj
  match j, hj with
  | 0, hj => simp at hj; subst hj; simp [Addr.add, go_sem]
  | 1, hj => simp at hj; subst hj; simp [Addr.add, go_sem]
  | j + 2, hj => simp at hj
theorem pair_one (x : It) : ∀ u ∈ ([Value.int .i64 x.1, .string x.2] : List Value), u.oneCell' = true := by
  intro u hu
  simp at hu
  rcases hu with rfl | rfl
  · rfl
  · rfl

theorem two_said (w0 w : World) (a c : UInt8) (r : List UInt8) (O : Value) (v : List It) (h : RS w0 w (a :: c :: r) O v) (hl : r.length ≤ 500) :
    Calls Tryz.prog 114 #[.pointer (some ⟨w0.heap.size, 0, none⟩)] w fun e w' => e = .returned (.int .i64 (num2 a c)) ∧ RS w0 w' r O v ∧ Wk w0.heap.size O O w w' := by
  refine (twoBytes_ok w0.heap.size a c r O w h.rd hl).mono ?_
  rintro e w' ⟨rfl, rfl⟩
  obtain ⟨h1, k1⟩ := h.took (c :: r)
  obtain ⟨h2, k2⟩ := h1.took r
  exact ⟨rfl, h2, k1.trans k2⟩

theorem num2_lt (a c : UInt8) : num2 a c < 65536 := by
  have ha := a.toNat_lt
  have hc := c.toNat_lt
  unfold num2
  omega

/- what the two bytes tell, between lo and hi -/
def turned (lo hi n : Int) : Int := if lo < 0 ∧ hi < n then n - 65536 else n

set_option maxRecDepth 100000 in
set_option maxHeartbeats 1000000 in
theorem rnumber_bad (w0 w : World) (l : List UInt8) (O : Value) (v : List It) (lo hi : Int) (n : Nat) (hn : n < 65536) (hbad : turned lo hi n < lo ∨ hi < turned lo hi n)
    (H : Calls Tryz.prog 114 #[.pointer (some ⟨w0.heap.size, 0, none⟩)] w fun e w' => e = .returned (.int .i64 n) ∧ RS w0 w' l O v ∧ Wk w0.heap.size O O w w') :
    Calls Tryz.prog 285 #[.pointer (some ⟨w0.heap.size, 0, none⟩), .int .i64 lo, .int .i64 hi] w fun e w' => e = gaveUp 6 0 ∧ Below w0.heap.size w0 w' := by
  have HH := hide H
  clear H
  unfold turned at hbad
  by_cases h1 : lo < 0
  · by_cases h2 : hi < (n : Int)
    · rw [if_pos ⟨h1, h2⟩] at hbad
      by_cases h3 : (n : Int) - 65536 < lo
      · go_enter Tryz.func285, Tryz.ntmps285
        go_wp2_with fail
        refine (unhide HH).mono ?_
        rintro e w1 ⟨rfl, hrs, _⟩
        have hb := hrs.below
        have HR := hide (refuse_any w0.heap.size l O w1 hrs.rd)
        clear hrs
        go_wp2_with fail
        refine (unhide HR).mono ?_
        rintro e w2 ⟨rfl, rfl⟩
        go_wp2
        exact ⟨rfl, rfl, hb⟩
      · have h4 : hi < (n : Int) - 65536 := by omega
        go_enter Tryz.func285, Tryz.ntmps285
        go_wp2_with fail
        refine (unhide HH).mono ?_
        rintro e w1 ⟨rfl, hrs, _⟩
        have hb := hrs.below
        have HR := hide (refuse_any w0.heap.size l O w1 hrs.rd)
        clear hrs
        go_wp2_with fail
        refine (unhide HR).mono ?_
        rintro e w2 ⟨rfl, rfl⟩
        go_wp2
        exact ⟨rfl, rfl, hb⟩
    · rw [if_neg (fun h => h2 h.2)] at hbad
      have h3 : (n : Int) < lo := by omega
      omega
  · rw [if_neg (fun h => h1 h.1)] at hbad
    by_cases h3 : (n : Int) < lo
    · go_enter Tryz.func285, Tryz.ntmps285
      go_wp2_with fail
      refine (unhide HH).mono ?_
      rintro e w1 ⟨rfl, hrs, _⟩
      have hb := hrs.below
      have HR := hide (refuse_any w0.heap.size l O w1 hrs.rd)
      clear hrs
      go_wp2_with fail
      refine (unhide HR).mono ?_
      rintro e w2 ⟨rfl, rfl⟩
      go_wp2
      exact ⟨rfl, rfl, hb⟩
    · have h4 : hi < (n : Int) := by omega
      go_enter Tryz.func285, Tryz.ntmps285
      go_wp2_with fail
      refine (unhide HH).mono ?_
      rintro e w1 ⟨rfl, hrs, _⟩
      have hb := hrs.below
      have HR := hide (refuse_any w0.heap.size l O w1 hrs.rd)
      clear hrs
      go_wp2_with fail
      refine (unhide HR).mono ?_
      rintro e w2 ⟨rfl, rfl⟩
      go_wp2
      exact ⟨rfl, rfl, hb⟩

set_option maxRecDepth 100000 in
set_option maxHeartbeats 1000000 in
theorem rnumber_none (w0 w : World) (lo hi : Int) (H : Calls Tryz.prog 114 #[.pointer (some ⟨w0.heap.size, 0, none⟩)] w fun e w' => e = gaveUp 6 0 ∧ Below w0.heap.size w0 w') :
    Calls Tryz.prog 285 #[.pointer (some ⟨w0.heap.size, 0, none⟩), .int .i64 lo, .int .i64 hi] w fun e w' => e = gaveUp 6 0 ∧ Below w0.heap.size w0 w' := by
  have HH := hide H
  clear H
  go_enter Tryz.func285, Tryz.ntmps285
  go_wp2_with fail
  refine (unhide HH).mono ?_
  rintro e w1 ⟨rfl, hb⟩
  go_wp2
  exact ⟨rfl, rfl, hb⟩

end Go.Proofs.YtblomippkddgiaaGreatDoor.V
/-
  The landed code's reader of bytes: a number and a string are read.
-/
namespace Go.Proofs.YtblomippkddgiaaGreatDoor.V
open Go.RowKit

set_option maxRecDepth 100000 in
set_option maxHeartbeats 2000000 in
theorem rnumber_ok (w0 w : World) (l : List UInt8) (O : Value) (v : List It) (lo hi n' : Int) (n : Nat) (hn : n < 65536) (hn' : n' = turned lo hi n) (hok : ¬ n' < lo ∧ ¬ hi < n') (hv : v.length ≤ 100000)
    (H : Calls Tryz.prog 114 #[.pointer (some ⟨w0.heap.size, 0, none⟩)] w fun e w' => e = .returned (.int .i64 n) ∧ RS w0 w' l O v ∧ Wk w0.heap.size O O w w') :
    Calls Tryz.prog 285 #[.pointer (some ⟨w0.heap.size, 0, none⟩), .int .i64 lo, .int .i64 hi] w fun e w' => e = .returned (.int .i64 n') ∧ ∃ O', RS w0 w' l O' (v ++ [(n', ⟨#[]⟩)]) ∧ Wk w0.heap.size O O' w w' := by
  have HH := hide H
  clear H
  obtain ⟨h3, h4⟩ := hok
  obtain ⟨i0, hi0, hz0, hz1, hz2⟩ := info_parts info31
  have hcase : (lo < 0 ∧ hi < (n : Int) ∧ n' = (n : Int) - 65536) ∨ (lo < 0 ∧ ¬ hi < (n : Int) ∧ n' = (n : Int)) ∨ (¬ lo < 0 ∧ n' = (n : Int)) := by
    unfold turned at hn'
    split at hn' <;> omega
  clear hn'
  rcases hcase with ⟨h1, h2, rfl⟩ | ⟨h1, h2, rfl⟩ | ⟨h1, rfl⟩
  all_goals
    go_enter Tryz.func285, Tryz.ntmps285
    go_wp2_with fail
    refine (unhide HH).mono ?_
    rintro e w1 ⟨rfl, hrs, hwk⟩
    obtain ⟨oa, on, oc, hsh⟩ := row_shape hrs.own
    subst hsh
    have hO := hrs.rd.items
    have how := hrs.own
    have hlt := hrs.rd.lt
    have HRS := hide hrs
    have HWK := hide hwk
    clear hrs hwk
  · go_wp2_with (at_builtin; refine wpList_append_own_at _ rfl (.tmp 37) (.tmp 40) 44 rfl (w0.heap.size + 1) 106 i0 _ 2 24 Tryz.underlying44 hi0 hz0 hz1 hz2 rfl (by decide) _ v.length (flat v) rfl (by exact how.alloc _) ⟨w1.heap.size, 0, none⟩ 1 1 [.int .i64 ((n : Int) - 65536), .string ⟨#[]⟩] rfl rfl (by exact cells_pair w1 ((n : Int) - 65536, ⟨#[]⟩)) (by exact pair_one ((n : Int) - 65536, ⟨#[]⟩)) (by unfold maxLen; omega) (by omega) (by simp; omega) ?_)
    intro O1 w2 hown hgrow _ hat
    obtain ⟨ta, tn, tc, hts⟩ := row_shape hown
    subst hts
    obtain ⟨hrd, hrs2, hwk2⟩ := rs_push (x := ((n : Int) - 65536, ⟨#[]⟩)) (unhide HRS) hown hgrow (by simpa using hat)
    have k1 := hrd.items
    have k2 := hrd.thaw 2
    have HR2 := hide hrs2
    have HK2 := hide ((unhide HWK).trans hwk2)
    clear hown hgrow hat hrd hrs2 hwk2 how hO
    go_wp2
    go_ret
    exact ⟨rfl, _, unhide HR2, unhide HK2⟩
  · go_wp2_with (at_builtin; refine wpList_append_own_at _ rfl (.tmp 37) (.tmp 40) 44 rfl (w0.heap.size + 1) 106 i0 _ 2 24 Tryz.underlying44 hi0 hz0 hz1 hz2 rfl (by decide) _ v.length (flat v) rfl (by exact how.alloc _) ⟨w1.heap.size, 0, none⟩ 1 1 [.int .i64 (n : Int), .string ⟨#[]⟩] rfl rfl (by exact cells_pair w1 ((n : Int), ⟨#[]⟩)) (by exact pair_one ((n : Int), ⟨#[]⟩)) (by unfold maxLen; omega) (by omega) (by simp; omega) ?_)
    intro O1 w2 hown hgrow _ hat
    obtain ⟨ta, tn, tc, hts⟩ := row_shape hown
    subst hts
    obtain ⟨hrd, hrs2, hwk2⟩ := rs_push (x := ((n : Int), ⟨#[]⟩)) (unhide HRS) hown hgrow (by simpa using hat)
    have k1 := hrd.items
    have k2 := hrd.thaw 2
    have HR2 := hide hrs2
    have HK2 := hide ((unhide HWK).trans hwk2)
    clear hown hgrow hat hrd hrs2 hwk2 how hO
    go_wp2
    go_ret
    exact ⟨rfl, _, unhide HR2, unhide HK2⟩
  · go_wp2_with (at_builtin; refine wpList_append_own_at _ rfl (.tmp 37) (.tmp 40) 44 rfl (w0.heap.size + 1) 106 i0 _ 2 24 Tryz.underlying44 hi0 hz0 hz1 hz2 rfl (by decide) _ v.length (flat v) rfl (by exact how.alloc _) ⟨w1.heap.size, 0, none⟩ 1 1 [.int .i64 (n : Int), .string ⟨#[]⟩] rfl rfl (by exact cells_pair w1 ((n : Int), ⟨#[]⟩)) (by exact pair_one ((n : Int), ⟨#[]⟩)) (by unfold maxLen; omega) (by omega) (by simp; omega) ?_)
    intro O1 w2 hown hgrow _ hat
    obtain ⟨ta, tn, tc, hts⟩ := row_shape hown
    subst hts
    obtain ⟨hrd, hrs2, hwk2⟩ := rs_push (x := ((n : Int), ⟨#[]⟩)) (unhide HRS) hown hgrow (by simpa using hat)
    have k1 := hrd.items
    have k2 := hrd.thaw 2
    have HR2 := hide hrs2
    have HK2 := hide ((unhide HWK).trans hwk2)
    clear hown hgrow hat hrd hrs2 hwk2 how hO
    go_wp2
    go_ret
    exact ⟨rfl, _, unhide HR2, unhide HK2⟩

set_option maxRecDepth 100000 in
set_option maxHeartbeats 1000000 in
theorem rtext_none (w0 w : World) (H : Calls Tryz.prog 114 #[.pointer (some ⟨w0.heap.size, 0, none⟩)] w fun e w' => e = gaveUp 6 0 ∧ Below w0.heap.size w0 w') :
    Calls Tryz.prog 286 #[.pointer (some ⟨w0.heap.size, 0, none⟩)] w fun e w' => e = gaveUp 6 0 ∧ Below w0.heap.size w0 w' := by
  have HH := hide H
  clear H
  go_enter Tryz.func286, Tryz.ntmps286
  go_wp2_with fail
  refine (unhide HH).mono ?_
  rintro e w1 ⟨rfl, hb⟩
  go_wp2
  exact ⟨rfl, rfl, hb⟩

set_option maxRecDepth 100000 in
set_option maxHeartbeats 1000000 in
theorem rtext_long (w0 w : World) (l : List UInt8) (O : Value) (v : List It) (n : Nat) (hn : ¬ n ≤ 14)
    (H : Calls Tryz.prog 114 #[.pointer (some ⟨w0.heap.size, 0, none⟩)] w fun e w' => e = .returned (.int .i64 n) ∧ RS w0 w' l O v ∧ Wk w0.heap.size O O w w') :
    Calls Tryz.prog 286 #[.pointer (some ⟨w0.heap.size, 0, none⟩)] w fun e w' => e = gaveUp 6 0 ∧ Below w0.heap.size w0 w' := by
  have HH := hide H
  have h14 : (14 : Int) < (n : Int) := by omega
  clear H hn
  go_enter Tryz.func286, Tryz.ntmps286
  go_wp2_with fail
  refine (unhide HH).mono ?_
  rintro e w1 ⟨rfl, hrs, _⟩
  have hb := hrs.below
  have HR := hide (refuse_any w0.heap.size l O w1 hrs.rd)
  clear hrs
  go_wp2_with fail
  refine (unhide HR).mono ?_
  rintro e w2 ⟨rfl, rfl⟩
  go_wp2
  exact ⟨rfl, rfl, hb⟩

set_option maxRecDepth 100000 in
set_option maxHeartbeats 1000000 in
theorem rtext_short (w0 w : World) (l : List UInt8) (O : Value) (v : List It) (n : Nat) (hn : n ≤ 14) (hs : ¬ n ≤ l.length)
    (H : Calls Tryz.prog 114 #[.pointer (some ⟨w0.heap.size, 0, none⟩)] w fun e w' => e = .returned (.int .i64 n) ∧ RS w0 w' l O v ∧ Wk w0.heap.size O O w w') :
    Calls Tryz.prog 286 #[.pointer (some ⟨w0.heap.size, 0, none⟩)] w fun e w' => e = gaveUp 6 0 ∧ Below w0.heap.size w0 w' := by
  have HH := hide H
  have h14 : ¬ (14 : Int) < (n : Int) := by omega
  clear H
  go_enter Tryz.func286, Tryz.ntmps286
  go_wp2_with fail
  refine (unhide HH).mono ?_
  rintro e w1 ⟨rfl, hrs, _⟩
  have hb := hrs.below
  have HT := hide (take_no w0.heap.size l O n w1 hrs.rd hs)
  clear hrs
  go_wp2_with fail
  refine (unhide HT).mono ?_
  rintro e w2 ⟨rfl, hb2⟩
  go_wp2
  exact ⟨rfl, rfl, hb.trans (hb2.mono hb.size)⟩

end Go.Proofs.YtblomippkddgiaaGreatDoor.V
/-
  The landed code's reader of bytes: a string is read.
-/
namespace Go.Proofs.YtblomippkddgiaaGreatDoor.V
open Go.RowKit

set_option maxRecDepth 100000 in
set_option maxHeartbeats 2000000 in
theorem rtext_even (w0 w : World) (l : List UInt8) (O : Value) (v : List It) (n : Nat) (hn : n ≤ 14) (hs : n ≤ l.length) (hl : l.length ≤ 500) (hv : v.length ≤ 100000) (he : n % 2 = 0)
    (H : Calls Tryz.prog 114 #[.pointer (some ⟨w0.heap.size, 0, none⟩)] w fun e w' => e = .returned (.int .i64 n) ∧ RS w0 w' l O v ∧ Wk w0.heap.size O O w w') :
    Calls Tryz.prog 286 #[.pointer (some ⟨w0.heap.size, 0, none⟩)] w fun e w' => e = .returned (.tuple #[]) ∧ ∃ O', RS w0 w' (l.drop n) O' (v ++ [(0, str (l.take n))]) ∧ Wk w0.heap.size O O' w w' := by
  have HH := hide H
  have h14 : ¬ (14 : Int) < (n : Int) := by omega
  have HOD := hide (fun w => isOdd_any n w hn)
  rw [show (n % 2 == 1) = false by simp [he]] at HOD
  have hcl : (l.take n).length ≤ 1000 := by rw [List.length_take]; omega
  have HC := hide (fun w => clone_any (l.take n) w hcl)
  obtain ⟨i0, hi0, hz0, hz1, hz2⟩ := info_parts info31
  clear H
  go_enter Tryz.func286, Tryz.ntmps286
  go_wp2_with fail
  refine (unhide HH).mono ?_
  rintro e w1 ⟨rfl, hrs, hwk⟩
  have HT := hide (take_ok w0.heap.size l O n w1 hrs.rd hs (by omega))
  obtain ⟨hrs1, hwk1⟩ := hrs.took (l.drop n)
  have HRS := hide hrs1
  have HWK := hide (hwk.trans hwk1)
  clear hrs hwk hrs1 hwk1 HH
  generalize hSS : str (l.take n) = S at *
  go_wp2_with fail
  refine (unhide HT).mono ?_
  rintro e w2 ⟨rfl, rfl⟩
  generalize w1.setCell { block := w0.heap.size, off := 0 } (.string (str (l.drop n))) = W2 at *
  go_wp2_with fail
  refine ((unhide HC) _).mono ?_
  rintro e w3 ⟨rfl, hb3⟩
  have hrs3 := (unhide HRS).go hb3
  have HWK3 := hide ((unhide HWK).trans (Wk.of_below hb3))
  clear hb3 HRS HWK HT HC
  go_wp2_with fail
  refine ((unhide HOD) _).mono ?_
  rintro e w4 ⟨rfl, rfl⟩
  obtain ⟨oa, on, oc, hsh⟩ := row_shape hrs3.own
  subst hsh
  have hO := hrs3.rd.items
  have how := hrs3.own
  have hlt := hrs3.rd.lt
  have HRS := hide hrs3
  clear hrs3
  go_wp2_with (at_builtin; refine wpList_append_own_at _ rfl (.tmp 37) (.tmp 40) 44 rfl (w0.heap.size + 1) 106 i0 _ 2 24 Tryz.underlying44 hi0 hz0 hz1 hz2 rfl (by decide) _ v.length (flat v) rfl (by exact how.alloc _) ⟨w4.heap.size, 0, none⟩ 1 1 [.int .i64 0, .string S] rfl rfl (by exact cells_pair w4 (0, S)) (by exact pair_one (0, S)) (by unfold maxLen; omega) (by omega) (by simp; omega) ?_)
  intro O1 w5 hown hgrow _ hat
  obtain ⟨ta, tn, tc, hts⟩ := row_shape hown
  subst hts
  obtain ⟨hrd, hrs2, hwk2⟩ := rs_push (x := (0, S)) (unhide HRS) hown hgrow (by simpa using hat)
  have k1 := hrd.items
  have k2 := hrd.thaw 2
  have HR2 := hide hrs2
  have HK2 := hide ((unhide HWK3).trans hwk2)
  clear hown hgrow hat hrd hrs2 hwk2 how hO
  go_wp2
  go_end0
  rw [hSS]
  exact ⟨rfl, _, unhide HR2, unhide HK2⟩

set_option maxRecDepth 100000 in
set_option maxHeartbeats 1000000 in
theorem rtext_end (w0 w : World) (l : List UInt8) (O : Value) (v : List It) (n : Nat) (hn : n ≤ 14) (hs : n = l.length) (hl : l.length ≤ 500) (he : n % 2 = 1)
    (H : Calls Tryz.prog 114 #[.pointer (some ⟨w0.heap.size, 0, none⟩)] w fun e w' => e = .returned (.int .i64 n) ∧ RS w0 w' l O v ∧ Wk w0.heap.size O O w w') :
    Calls Tryz.prog 286 #[.pointer (some ⟨w0.heap.size, 0, none⟩)] w fun e w' => e = gaveUp 6 0 ∧ Below w0.heap.size w0 w' := by
  have HH := hide H
  have h14 : ¬ (14 : Int) < (n : Int) := by omega
  have HOD := hide (fun w => isOdd_any n w hn)
  rw [show (n % 2 == 1) = true by simp [he]] at HOD
  have hcl : (l.take n).length ≤ 1000 := by rw [List.length_take]; omega
  have HC := hide (fun w => clone_any (l.take n) w hcl)
  have HSL := hide hs
  have HLL := hide hl
  clear H hs hl he hcl
  go_enter Tryz.func286, Tryz.ntmps286
  go_wp2_with fail
  refine (unhide HH).mono ?_
  rintro e w1 ⟨rfl, hrs, hwk⟩
  have HT := hide (take_ok w0.heap.size l O n w1 hrs.rd (by have := unhide HSL; omega) (by have := unhide HLL; omega))
  obtain ⟨hrs1, hwk1⟩ := hrs.took (l.drop n)
  have HRS := hide hrs1
  clear hrs hwk hrs1 hwk1 HH
  generalize hSS : str (l.take n) = S at *
  go_wp2_with fail
  refine (unhide HT).mono ?_
  rintro e w2 ⟨rfl, rfl⟩
  generalize w1.setCell { block := w0.heap.size, off := 0 } (.string (str (l.drop n))) = W2 at *
  go_wp2_with fail
  refine ((unhide HC) _).mono ?_
  rintro e w3 ⟨rfl, hb3⟩
  have hrs3 := (unhide HRS).go hb3
  clear hb3 HRS HT HC
  go_wp2_with fail
  refine ((unhide HOD) _).mono ?_
  rintro e w4 ⟨rfl, rfl⟩
  have hdn : l.drop n = [] := List.drop_of_length_le (by have := unhide HSL; omega)
  have hrd3 := hrs3.rd
  rw [hdn] at hrd3
  have HT1 := hide (byte_no w0.heap.size O w4 hrd3)
  have hb4 := hrs3.below
  clear hrs3 hrd3 hdn
  go_wp2_with fail
  refine (unhide HT1).mono ?_
  rintro e w5 ⟨rfl, hb5⟩
  go_wp2
  exact ⟨rfl, rfl, hb4.trans (hb5.mono hb4.size)⟩

set_option maxRecDepth 100000 in
set_option maxHeartbeats 1000000 in
theorem rtext_pad (w0 w : World) (l r : List UInt8) (c : UInt8) (O : Value) (v : List It) (n : Nat) (hn : n ≤ 14) (hs : n ≤ l.length) (hd : l.drop n = c :: r) (hc : c ≠ 0) (hl : l.length ≤ 500) (he : n % 2 = 1)
    (H : Calls Tryz.prog 114 #[.pointer (some ⟨w0.heap.size, 0, none⟩)] w fun e w' => e = .returned (.int .i64 n) ∧ RS w0 w' l O v ∧ Wk w0.heap.size O O w w') :
    Calls Tryz.prog 286 #[.pointer (some ⟨w0.heap.size, 0, none⟩)] w fun e w' => e = gaveUp 6 0 ∧ Below w0.heap.size w0 w' := by
  have HH := hide H
  have h14 : ¬ (14 : Int) < (n : Int) := by omega
  have hcb : ((c.toNat : Int) != 0) = true := by
    rw [bne_iff_ne]
    intro h
    exact hc (UInt8.toNat_inj.1 (by simpa using h))
  have HOD := hide (fun w => isOdd_any n w hn)
  rw [show (n % 2 == 1) = true by simp [he]] at HOD
  have hcl : (l.take n).length ≤ 1000 := by rw [List.length_take]; omega
  have HC := hide (fun w => clone_any (l.take n) w hcl)
  have HSL := hide hs
  have HLL := hide hl
  have HD := hide hd
  clear H hs hl he hcl hd hc
  go_enter Tryz.func286, Tryz.ntmps286
  go_wp2_with fail
  refine (unhide HH).mono ?_
  rintro e w1 ⟨rfl, hrs, hwk⟩
  have HT := hide (take_ok w0.heap.size l O n w1 hrs.rd (unhide HSL) (by have := unhide HLL; omega))
  obtain ⟨hrs1, hwk1⟩ := hrs.took (l.drop n)
  rw [unhide HD] at HT hrs1
  have HRS := hide hrs1
  clear hrs hwk hrs1 hwk1 HH
  generalize hSS : str (l.take n) = S at *
  go_wp2_with fail
  refine (unhide HT).mono ?_
  rintro e w2 ⟨rfl, rfl⟩
  generalize w1.setCell { block := w0.heap.size, off := 0 } (.string (str (c :: r))) = W2 at *
  go_wp2_with fail
  refine ((unhide HC) _).mono ?_
  rintro e w3 ⟨rfl, hb3⟩
  have hrs3 := (unhide HRS).go hb3
  clear hb3 HRS HT HC
  go_wp2_with fail
  refine ((unhide HOD) _).mono ?_
  rintro e w4 ⟨rfl, rfl⟩
  have hrl : (c :: r).length ≤ 500 := by
    rw [← unhide HD, List.length_drop]
    have := unhide HLL
    omega
  have HT1 := hide (byte_ok w0.heap.size c r O w4 hrs3.rd (by simp only [List.length_cons] at hrl; omega))
  obtain ⟨hrs5, _⟩ := hrs3.took r
  have hb5 := hrs5.below
  have HR5 := hide (refuse_any w0.heap.size r O _ hrs5.rd)
  clear hrs3 hrs5 hrl
  go_wp2_with fail
  refine (unhide HT1).mono ?_
  rintro e w5 ⟨rfl, rfl⟩
  generalize w4.setCell { block := w0.heap.size, off := 0 } (.string (str r)) = W5 at *
  go_wp2_with fail
  refine (unhide HR5).mono ?_
  rintro e w6 ⟨rfl, rfl⟩
  go_wp2
  exact ⟨rfl, rfl, hb5⟩

set_option maxRecDepth 100000 in
set_option maxHeartbeats 1000000 in
theorem rtext_odd (w0 w : World) (l r : List UInt8) (O : Value) (v : List It) (n : Nat) (hn : n ≤ 14) (hs : n ≤ l.length) (hd : l.drop n = 0 :: r) (hl : l.length ≤ 500) (hv : v.length ≤ 100000) (he : n % 2 = 1)
    (H : Calls Tryz.prog 114 #[.pointer (some ⟨w0.heap.size, 0, none⟩)] w fun e w' => e = .returned (.int .i64 n) ∧ RS w0 w' l O v ∧ Wk w0.heap.size O O w w') :
    Calls Tryz.prog 286 #[.pointer (some ⟨w0.heap.size, 0, none⟩)] w fun e w' => e = .returned (.tuple #[]) ∧ ∃ O', RS w0 w' r O' (v ++ [(0, str (l.take n))]) ∧ Wk w0.heap.size O O' w w' := by
  have HH := hide H
  have h14 : ¬ (14 : Int) < (n : Int) := by omega
  have HOD := hide (fun w => isOdd_any n w hn)
  rw [show (n % 2 == 1) = true by simp [he]] at HOD
  have hcl : (l.take n).length ≤ 1000 := by rw [List.length_take]; omega
  have HC := hide (fun w => clone_any (l.take n) w hcl)
  obtain ⟨i0, hi0, hz0, hz1, hz2⟩ := info_parts info31
  have HSL := hide hs
  have HLL := hide hl
  have HD := hide hd
  clear H hs hl he hcl hd
  go_enter Tryz.func286, Tryz.ntmps286
  go_wp2_with fail
  refine (unhide HH).mono ?_
  rintro e w1 ⟨rfl, hrs, hwk⟩
  have HT := hide (take_ok w0.heap.size l O n w1 hrs.rd (unhide HSL) (by have := unhide HLL; omega))
  obtain ⟨hrs1, hwk1⟩ := hrs.took (l.drop n)
  rw [unhide HD] at HT hrs1 hwk1
  have HRS := hide hrs1
  have HWK := hide (hwk.trans hwk1)
  clear hrs hwk hrs1 hwk1 HH
  generalize hSS : str (l.take n) = S at *
  go_wp2_with fail
  refine (unhide HT).mono ?_
  rintro e w2 ⟨rfl, rfl⟩
  generalize w1.setCell { block := w0.heap.size, off := 0 } (.string (str (0 :: r))) = W2 at *
  go_wp2_with fail
  refine ((unhide HC) _).mono ?_
  rintro e w3 ⟨rfl, hb3⟩
  have hrs3 := (unhide HRS).go hb3
  have HWK3 := hide ((unhide HWK).trans (Wk.of_below hb3))
  clear hb3 HRS HT HC HWK
  go_wp2_with fail
  refine ((unhide HOD) _).mono ?_
  rintro e w4 ⟨rfl, rfl⟩
  have hrl : (0 :: r).length ≤ 500 := by
    rw [← unhide HD, List.length_drop]
    have := unhide HLL
    omega
  have HT1 := hide (byte_ok w0.heap.size 0 r O w4 hrs3.rd (by simp only [List.length_cons] at hrl; omega))
  rw [show (((0 : UInt8).toNat : Nat) : Int) = 0 from rfl] at HT1
  obtain ⟨hrs5, hwk5⟩ := hrs3.took r
  clear hrl
  have HR5 := hide hrs5
  have HK5 := hide ((unhide HWK3).trans hwk5)
  clear hrs3 hrs5 hwk5 HWK3
  go_wp2_with fail
  refine (unhide HT1).mono ?_
  rintro e w5 ⟨rfl, rfl⟩
  generalize w4.setCell { block := w0.heap.size, off := 0 } (.string (str r)) = W5 at *
  have hrs6 := unhide HR5
  obtain ⟨oa, on, oc, hsh⟩ := row_shape hrs6.own
  subst hsh
  have hO := hrs6.rd.items
  have how := hrs6.own
  have hlt := hrs6.rd.lt
  clear hrs6
  go_wp2_with (at_builtin; refine wpList_append_own_at _ rfl (.tmp 37) (.tmp 40) 44 rfl (w0.heap.size + 1) 106 i0 _ 2 24 Tryz.underlying44 hi0 hz0 hz1 hz2 rfl (by decide) _ v.length (flat v) rfl (by exact how.alloc _) ⟨W5.heap.size, 0, none⟩ 1 1 [.int .i64 0, .string S] rfl rfl (by exact cells_pair W5 (0, S)) (by exact pair_one (0, S)) (by unfold maxLen; omega) (by omega) (by simp; omega) ?_)
  intro O1 w6 hown hgrow _ hat
  obtain ⟨ta, tn, tc, hts⟩ := row_shape hown
  subst hts
  obtain ⟨hrd, hrs2, hwk2⟩ := rs_push (x := (0, S)) (unhide HR5) hown hgrow (by simpa using hat)
  have k1 := hrd.items
  have k2 := hrd.thaw 2
  have HR2 := hide hrs2
  have HK2 := hide ((unhide HK5).trans hwk2)
  clear hown hgrow hat hrd hrs2 hwk2 how hO
  go_wp2
  go_end0
  rw [hSS]
  exact ⟨rfl, _, unhide HR2, unhide HK2⟩

end Go.Proofs.YtblomippkddgiaaGreatDoor.V
