/-
  The book's 'take': its walk.
-/
import Derived.Test.YtblomippkddgiaaVTake
namespace Go.Proofs.Ytblomippkddgiaa.V
open Go.RowKit

theorem step_append_own {P : Program} {ops : Array Oper} {o : Oper} {a : Act} {w : World} {K : Act → World → Prop} {Q : Exit → Act → World → Prop} {E : Prop}
    (hgd : o.guard = none) (sl x : Operand) (t : TypeId) (ho : o.op = .call { callee := .builtin .append, args := #[sl, x], argTypes := #[t, t] })
    (base : Nat) (e : TypeId) (i : TypeInfo) (z : Value) (size bytes : Nat) (ht : P.underlying t = some (.slice e)) (hi : P.info? e = some i) (hz : i.zero = some z)
    (hsize : i.size = size) (hby : i.bytes = bytes) (hzs : z.cells.size = size) (hsz : 0 < size)
    (v : Value) (n : Nat) (xs : List Value) (hs : a.eval sl = v) (hown : w.ownsRow base e size v n xs)
    (ad : Addr) (m c : Nat) (news : List Value) (hx : a.eval x = .slice (some ad) m c) (hl : news.length = m * size) (hnews : ∀ j u, news[j]? = some u → w.cell? (ad.add j) = some u) (h1 : ∀ u ∈ news, u.oneCell' = true)
    (h63 : n + m ≤ maxLen) (hbytes : (n + m) * bytes ≤ 140737488355328) (hbase : base ≤ w.heap.size)
    (h : ∀ v' w', w'.ownsRow base e size v' (n + m) (xs ++ news) → w.grownBy w' v.ownBlock → (v'.ownBlock = v.ownBlock ∨ v'.ownBlock = some w.heap.size) → K (a.put o.dst v') w') :
    if Region.wanted o (yielded ops a.tmps) = true then Oper.wp P o a w K Q else E := by
  have hw : Region.wanted o (yielded ops a.tmps) = true := by simp [Region.wanted, hgd]
  rw [if_pos hw]
  obtain ⟨v', w', hr, h2, h3, _, h4⟩ := run_append_own_at (P := P) w base t o.type e i z size bytes ht hi hz hsize hby hzs hsz v n xs hown ad m c news hl hnews h1 h63 hbytes hbase
  unfold Oper.wp
  simp [execOp, ho, resolve, invoke, builtin, hs, hx, hr, Result.andThen]
  exact h v' w' h2 h3 h4

theorem cells_seven (w : World) (k : Kp) : ∀ (j : Nat) (u : Value), k.cells[j]? = some u → (w.alloc (.cells #[k.l, k.g1, k.g2, k.g3, .int .i64 k.n, .int .i64 k.x.1, .string k.x.2] 85)).cell? ((⟨w.heap.size, 0, none⟩ : Addr).add j) = some u := by
  intro j u hj
  rw [Addr.add_lit, Nat.zero_add, World.cell?_alloc_new w _ _ j]
  rw [← hj, ← List.getElem?_toArray]
  rfl

theorem kp_one (oa a1 a2 a3 : Option Addr) (n0 n1 n2 n3 c0 c1 c2 c3 i : Nat) (x : It) : ∀ u ∈ (Kp.mk (.slice oa n0 c0) (.slice a1 n1 c1) (.slice a2 n2 c2) (.slice a3 n3 c3) i x).cells, u.oneCell' = true := by
  intro u hu
  simp only [Kp.cells, List.mem_cons, List.not_mem_nil, or_false] at hu
  rcases hu with rfl | rfl | rfl | rfl | rfl | rfl | rfl <;> rfl
theorem TkM.drew {w0 w : World} {O : Value} {x : It} {B : Nat} {Ts : List (Value × Nat)} {wr : World} (h : TkM w0 w O x B Ts wr) : TkM w0 w O x B Ts wr.drew := ⟨h.size, h.box, h.keep, h.below.drew, h.marks⟩

set_option maxRecDepth 100000 in
set_option maxHeartbeats 2000000 in
theorem take_walk (w0 w : World) (b B : Nat) (L : List Kp) (ka oa : Option Addr) (kc on oc : Nat) (x : It) (hx : x = (-1000 - (L.length : Int), markStr)) (hkn : L.length ≤ 100) (hon : on ≤ 100000)
    (hBk : Bk w0 b L (.slice ka L.length kc) w) (hB : B ≤ w.heap.size) (hBO : ∀ j, (Value.slice oa on oc).ownBlock = some j → B ≤ j)
    (hO : ∀ j, (Value.slice oa on oc).ownBlock = some j → j < w.heap.size ∧ w0.heap.size ≤ j ∧ j ≠ b ∧ (Value.slice ka L.length kc).ownBlock ≠ some j ∧ ∀ k ∈ L, ∀ t ∈ k.lists, t.1.ownBlock ≠ some j)
    (HI0 : TkI w0 w (.slice oa on oc) on x 0 (w.alloc (.cells #[.int .i64 x.1, .string x.2] 31))) :
    Calls Try.prog 15 #[.pointer (some ⟨b, 0, none⟩), .slice oa on oc] w fun e w' => e = .returned (.tuple #[]) ∧ ∃ K' k, Bk w0 b (L ++ [k]) K' w' := by
  have HI := hide HI0
  have HBK := hide hBk
  have HO := hide hO
  have HBO := hide hBO
  have hbl := lt_of_block hBk.cell
  have hb : w.cell? ⟨b, 0, none⟩ = some (.slice ka L.length kc) := by simp [World.cell?, hBk.cell]
  obtain ⟨x0, x1⟩ := x
  have hx0 : -1000 - (L.length : Int) = x0 := (Prod.mk.inj hx).1.symm
  have hx1 : x1 = markStr := (Prod.mk.inj hx).2
  have HX1 := hide hx1
  clear HI0 hBk hO hBO hx hx1
  simp only at HI
  have hmk : (⟨#[109, 97, 114, 107]⟩ : ByteArray) = x1 := (unhide HX1).symm
  obtain ⟨kn, hkl⟩ : ∃ kn, kn = L.length := ⟨_, rfl⟩
  rw [← hkl] at hb hx0 hkn
  have HKL := hide hkl
  clear hkl
  go_enter Try.func15, Try.ntmps15
  go_wp2
  go_loopw [5] (fun iv wr => ∃ i : Nat, i ≤ on ∧ iv = .int .i64 i ∧ TkI w0 w (.slice oa on oc) on (x0, x1) i wr) (fun iv _ => on - (intOf iv).toNat)
  case atStart => exact ⟨0, Nat.zero_le _, rfl, unhide HI⟩
  case round =>
    obtain ⟨i, hi, rfl, hT⟩ := hrel
    by_cases hlt : i < on
    · obtain ⟨G, cap, hOe, hL, hic, hG, hT2⟩ := hT.step hlt
      obtain rfl : oa = some ⟨G, 0, none⟩ := by injection hOe
      obtain ⟨c0, c1⟩ := box_cell hT.box
      obtain ⟨d0, d1, e0, e1⟩ := hL.has hic
      have z0 := hL.thaw (i * 2)
      have z1 := hL.thaw (i * 2 + 1)
      have HT2 := hide hT2
      clear hT hL hT2 hOe
      go_wp2
      go_roundw
      case rel => exact ⟨i + 1, by omega, by go_num, unhide HT2⟩
      case measure => simp [intOf]; omega
    · obtain rfl : i = on := by omega
      have hM := tk_end hT (unhide HBO)
      have hOO : ∀ j, (Value.slice oa i oc).ownBlock = some j → j < w.heap.size ∧ w0.heap.size ≤ j := fun j hj => ⟨((unhide HO) j hj).1, ((unhide HO) j hj).2.1⟩
      obtain ⟨a1, c1, w1, hr1, hM1⟩ := tk_more hM (n := i) (by simp) 1 (by omega) hB hOO
      obtain ⟨a2, c2, w2, hr2, hM2⟩ := tk_more hM1 (n := i) (by simp) 2 (by omega) hB hOO
      obtain ⟨a3, c3, w3, hr3, hM3⟩ := tk_more hM2 (n := i) (by simp) 3 (by omega) hB hOO
      obtain ⟨p0, p1⟩ := box_cell hM.box
      obtain ⟨q0, q1⟩ := box_cell hM1.box
      obtain ⟨r0, r1⟩ := box_cell hM2.box
      obtain ⟨s0, s1⟩ := box_cell hM3.box
      have hb3 : w3.cell? ⟨b, 0, none⟩ = some (.slice ka kn kc) := by
        have hc := (unhide HBK).cell
        rw [unhide HKL]
        simp [World.cell?, hM3.keep b hbl (fun e => ((unhide HO) b e).2.2.1 rfl), hc]
      have hl3 := hM3.size
      have hrow3 : w3.ownsRow w0.heap.size 85 7 (.slice ka kn kc) kn (ents L) := by
        have hr := (unhide HBK).row
        rw [unhide HKL]
        exact row_keep hr fun g hg => hM3.keep g ((hr.lt g hg).2) (fun e => ((unhide HO) g e).2.2.2.1 hg)
      have hs0 := hM3.below.size
      have hb4 : b < w3.heap.size := by omega
      have hb5 : (w3.alloc (.cells #[.slice oa i oc, .slice a1 (i + 1) c1, .slice a2 (i + 2) c2, .slice a3 (i + 3) c3, .int .i64 i, .int .i64 x0, .string x1] 85)).drew.cell? ⟨b, 0, none⟩ = some (.slice ka kn kc) :=
        (((Below.refl w3.heap.size w3).alloc (Nat.le_refl _) _).cell (p := ⟨b, 0, none⟩) hb4).trans hb3
      have n1 : ¬ w3.heap.size = b := by omega
      have n2 : ¬ b = w3.heap.size := by omega
      have n3 : ¬ w3.heap.size = w.heap.size := by omega
      have n4 : ¬ w.heap.size = w3.heap.size := by omega
      have HM3 := hide hM3
      obtain ⟨j0, hj0, hz0, hz1, hz2⟩ := info_parts info73
      clear hT hM hM1 hM2 hM3 hOO
      go_wp2_with (first
        | (at_builtin; refine wpList_append_run rfl (.tmp 26) (.tmp 28) 27 rfl _ _ _ _ rfl rfl hr1 ?_)
        | (at_builtin; refine wpList_append_run rfl (.tmp 30) (.tmp 33) 27 rfl _ _ _ _ rfl rfl hr2 ?_)
        | (at_builtin; refine wpList_append_run rfl (.tmp 35) (.tmp 39) 27 rfl _ _ _ _ rfl rfl hr3 ?_))
      go_region_law (refine step_append_own rfl (.tmp 45) (.tmp 54) 36 rfl w0.heap.size 85 j0 _ 7 128 Try.underlying36 hj0 hz0 hz1 hz2 rfl (by decide) (.slice ka kn kc) kn (ents L) rfl (by exact World.ownsRow.alloc (w := w3.drew) hrow3 _) ⟨w3.heap.size, 0, none⟩ 1 1 (Kp.mk (.slice oa i oc) (.slice a1 (i + 1) c1) (.slice a2 (i + 2) c2) (.slice a3 (i + 3) c3) i (x0, x1)).cells rfl rfl (by exact cells_seven w3.drew (Kp.mk (.slice oa i oc) (.slice a1 (i + 1) c1) (.slice a2 (i + 2) c2) (.slice a3 (i + 3) c3) i (x0, x1))) (by exact kp_one _ _ _ _ _ _ _ _ _ _ _ _ _ _) (by unfold maxLen; omega) (by omega) (by simp; omega) ?_; intro K' w5 hown hgrow hat; obtain ⟨va, vn, vc, hvs⟩ := row_shape hown; subst hvs; rw [unhide HKL] at hown; have hpush := bk_push (unhide HBK) (unhide HM3).drew (by omega) (unhide HO) hown (by rw [← unhide HKL]; exact hgrow) (by rw [← unhide HKL]; simpa using hat); obtain ⟨hc5, hbk5⟩ := hpush; have k1 : w5.cell? ⟨b, 0, none⟩ = some (.slice ka L.length kc) := (by simp [World.cell?, hc5]); have k2 : w5.frozen? ⟨b, 0, none⟩ = false := (by simp [World.frozen?, hc5]))
      all_goals
        have HBK5 := hide hbk5
        clear hbk5 hown hgrow hat hc5 k1 k2
        go_wp2
        go_end0
        exact ⟨rfl, _, _, unhide HBK5⟩

/- a list that came out goes into the book -/
theorem take_any (w0 w : World) (b B : Nat) (L : List Kp) (K O : Value) (v : List It) (hBk : Bk w0 b L K w) (hR : w.ownsRow B 31 2 O v.length (flat v)) (hB0 : w0.heap.size ≤ B) (hB : B ≤ w.heap.size) (hL : L.length ≤ 100) (hv : v.length ≤ 100000)
    (hO : ∀ j, O.ownBlock = some j → j ≠ b ∧ K.ownBlock ≠ some j ∧ ∀ k ∈ L, ∀ t ∈ k.lists, t.1.ownBlock ≠ some j) :
    Calls Try.prog 15 #[.pointer (some ⟨b, 0, none⟩), O] w fun e w' => e = .returned (.tuple #[]) ∧ ∃ K' k, Bk w0 b (L ++ [k]) K' w' := by
  have hOl := hR.lt
  obtain ⟨ka, kn, kc, hk⟩ := row_shape hBk.row
  subst hk
  have hkn : kn = L.length := by
    rcases hBk.row.2 with ⟨hv, h0⟩ | ⟨g, cap, cur, hv, _⟩
    · cases hv
      omega
    · cases hv
      rfl
  subst hkn
  obtain ⟨oa, on, oc, ho⟩ := row_shape hR
  subst ho
  have hon : on = v.length := by
    rcases hR.2 with ⟨hv, h0⟩ | ⟨g, cap, cur, hv, _⟩
    · cases hv
      omega
    · cases hv
      rfl
  have hO2 : ∀ j, (Value.slice oa on oc).ownBlock = some j → j < w.heap.size ∧ w0.heap.size ≤ j ∧ j ≠ b ∧ (Value.slice ka L.length kc).ownBlock ≠ some j ∧ ∀ k ∈ L, ∀ t ∈ k.lists, t.1.ownBlock ≠ some j := fun j hj => by
    have h1 := hOl j hj
    exact ⟨h1.2, by omega, hO j hj⟩
  have hb1 : Below w.heap.size w (w.alloc (.cells #[.int .i64 (-1000 - (L.length : Int)), .string markStr] 31)) := (Below.refl _ _).alloc (Nat.le_refl _) _
  refine take_walk w0 w b B L ka oa kc on oc (-1000 - (L.length : Int), markStr) rfl hL (by omega) hBk hB (fun j hj => (hOl j hj).1) hO2 ⟨by simp, ?_, fun k hk _ => hb1.block k hk, hBk.below.trans (hb1.mono hBk.below.size), ?_⟩
  · show ((w.heap.push _)[w.heap.size]?) = _
    rw [Array.getElem?_push_size]
  · rcases hR.2 with ⟨hv, h0⟩ | ⟨g, cap, cur, hv, hbg, hg, hc, hcm, hcs, _⟩
    · exact Or.inl ⟨hv, by omega⟩
    · refine Or.inr ⟨g, cap, ?_, lt_of_block hg, by omega, ⟨cur, ?_, hcs, fun j y _ hy => by simp at hy⟩, by omega, hcm⟩
      · rw [hv, hon]
      · rw [hb1.block g (lt_of_block hg)]
        exact hg

end Go.Proofs.Ytblomippkddgiaa.V
