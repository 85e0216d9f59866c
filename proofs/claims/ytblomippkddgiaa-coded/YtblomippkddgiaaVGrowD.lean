/-
  The law's 'grow': its walk, a node with one kid.
-/
import Derived.Test.YtblomippkddgiaaVGrowC
namespace Go.Proofs.Ytblomippkddgiaa.V
open Go.RowKit

theorem gl_bx2 {w0 w : World} {tb rb : Nat} {V : Value} {P0 : List Nd} {N0 : Value} {M A c d D : Nat} {wr w2 : World} {P P' : List Nd} {NV NV' : Value} {m m' : Nat} {iv : Value} {ks : List Nat} (h : GL w0 w tb rb V P0 N0 M A c d D wr P NV m iv ks) (hG : Grown w0 wr tb rb V P NV m D w2 P' NV' m') : Bx w.heap.size tb rb P' NV' A c d iv ks w2 :=
  h.bx.wf hG.wf fun x hx => by
    obtain ⟨i, hi⟩ := List.getElem?_of_mem hx
    by_cases hlt : i < P.length
    · rw [hG.pre i hlt] at hi
      exact Or.inl (List.mem_of_getElem? hi)
    · exact Or.inr (hG.fresh i x hi (by omega))
theorem one_int (c : Int) : ∀ u ∈ ([.int .i64 c] : List Value), u.oneCell' = true := by
  intro u hu
  simp at hu
  subst hu
  rfl

/- inside a region: the call of 'grow' -/
set_option maxRecDepth 100000 in
theorem step_call16 {ops : Array Oper} {o : Oper} {a : Act} {w : World} {K : Act → World → Prop} {Q : Exit → Act → World → Prop} {E : Prop}
    (hgd : o.guard = none) (x0 x1 x2 : Operand) (ho : o.op = .call { callee := .value (.func 18), args := #[x0, x1, x2], argTypes := #[46, 43, 3] }) (v0 v1 v2 : Value) (h0 : a.eval x0 = v0) (h1 : a.eval x1 = v1) (h2 : a.eval x2 = v2) (R : Ending → World → Prop) (hC : Calls Try.prog 18 #[v0, v1, v2] w R) (hR : ∀ e w', R e w' → ∃ v, e = .returned v ∧ K (a.put o.dst v) w') :
    if Region.wanted o (yielded ops a.tmps) = true then Oper.wp Try.prog o a w K Q else E := by
  have hw : Region.wanted o (yielded ops a.tmps) = true := by simp [Region.wanted, hgd]
  rw [if_pos hw]
  have hcf : ∀ args w, (callFunc 18 args).run Try.prog w = .ok (.enter 18 args) w := fun _ _ => rfl
  subst h0 h1 h2
  unfold Oper.wp
  simp only [execOp, ho, resolve, invoke, Sem.run_bind, List.map_toArray, List.map_cons, List.map_nil]
  generalize a.eval x0 = v0 at hC ⊢
  generalize a.eval x1 = v1 at hC ⊢
  generalize a.eval x2 = v2 at hC ⊢
  have hC2 : Calls Try.prog 18 #[v0, v1, v2] w (fun e w' => ∃ v, e = .returned v ∧ K (a.put o.dst v) w') := hC.mono hR
  clear hC hR
  simp [Deferred.ofValue, Act.eval, hcf, go_sem]
  refine hC2.mono ?_
  rintro e w' ⟨v, rfl, hk⟩
  exact hk
/- inside a region: an append onto a row of one's own -/
theorem step_append3 {P : Program} {ops : Array Oper} {o : Oper} {a : Act} {w : World} {K : Act → World → Prop} {Q : Exit → Act → World → Prop} {E : Prop}
    (hgd : o.guard = none) (sl x : Operand) (t : TypeId) (ho : o.op = .call { callee := .builtin .append, args := #[sl, x], argTypes := #[t, t] })
    (base : Nat) (e : TypeId) (i : TypeInfo) (z : Value) (size bytes : Nat) (ht : P.underlying t = some (.slice e)) (hi : P.info? e = some i) (hz : i.zero = some z)
    (hsize : i.size = size) (hby : i.bytes = bytes) (hzs : z.cells.size = size) (hsz : 0 < size)
    (v : Value) (n : Nat) (xs : List Value) (hs : a.eval sl = v) (hown : w.ownsRow base e size v n xs)
    (ad : Addr) (m c : Nat) (news : List Value) (hx : a.eval x = .slice (some ad) m c) (hl : news.length = m * size) (hnews : ∀ j u, news[j]? = some u → w.cell? (ad.add j) = some u) (h1 : ∀ u ∈ news, u.oneCell' = true)
    (h63 : n + m ≤ maxLen) (hbytes : (n + m) * bytes ≤ 140737488355328) (hbase : base ≤ w.heap.size)
    (h : ∀ v' w', w'.ownsRow base e size v' (n + m) (xs ++ news) → w.grownBy w' v.ownBlock → (v'.ownBlock = v.ownBlock ∨ v'.ownBlock = some w.heap.size) → K (a.put o.dst v') w') :
    if Region.wanted o (yielded ops a.tmps) = true then Oper.wp P o a w K Q else E := by
  have hw : Region.wanted o (yielded ops a.tmps) = true := by simp [Region.wanted, hgd]
  rw [if_pos hw]
  obtain ⟨v', w', hr, h2, h3, _, h4⟩ := run_append_own_at (P := P) w base t o.type e i z size bytes ht hi hz hsize hby hzs hsz v n xs hown ad m c news hl hnews h1 h63 hbytes hbase
  unfold Oper.wp
  simp [execOp, ho, resolve, invoke, builtin, hs, hx, hr, Result.andThen]
  exact h v' w' h2 h3 h4

set_option maxRecDepth 100000 in
set_option maxHeartbeats 2000000 in
theorem rest_a (w0 w : World) (tb rb : Nat) (V : Value) (P0 : List Nd) (N0 : Value) (m0 M A d D : Nat) (W : World) (P : List Nd) (NV : Value) (m : Nat) (u : Nat → Value) (ia : Option Addr) (ic : Nat) (hV : RawOk w0 V) (hr0 : w0.heap.size ≤ rb) (hG : GrowSaid w0 tb rb V D) (h : GL w0 w tb rb V P0 N0 M A 97 d D W P NV m (.slice ia 0 ic) []) (hP8 : P.length ≤ 8) (hD : D ≤ 3) (hmm : m + 1 + 10 ^ D ≤ 1000000) (hM : M + 1 + 10 ^ D ≤ m0 + 10 ^ (D + 1)) :
    Code.wp Try.prog (growRest Try.f18) (bodyPost Try.prog Try.f18 (GrowPost w0 w tb rb V P0 N0 m0 (D + 1))) (growAct tb rb A P0.length (.int .i64 ((D : Int) + 1)) (.int .i64 5) (.int .i64 0) u) W := by
  have hp1 := (ten_pow D).2
  have hwD : IntKind.i64.wrap (D : Int) = (D : Int) := by rw [IntKind.wrap_i64]; omega
  obtain ⟨j0, hj0, hz0, hz1, hz2⟩ := info_parts info3
  obtain ⟨_, _, _, hS0⟩ := gl_seen h
  have a0 := hS0.b0
  have a1 := hS0.b1
  have a2 := hS0.b2
  have az := hS0.z 1
  have hA := hS0.lts.2.1
  have HH := hide h
  have HG := hide hG
  have HNX := hide (rawNext_any w0 W rb V m 3 hV h.gs.below hr0 h.gs.raw (by omega) (by omega) (by omega))
  clear h hG hS0
  conv in (growRest Try.f18) => simp only [growRest, Try.f18, Option.getD_some, ctail]
  go_wp2_with fail
  refine (unhide HNX).mono ?_
  rintro e w1 ⟨⟨j, hj, rfl⟩, hx⟩
  have h1 := (unhide HH).next hx
  obtain ⟨_, _, _, hS1⟩ := gl_seen h1
  have c0 := hS1.b0
  have c1 := hS1.b1
  have c2 := hS1.b2
  have cz := hS1.z 1
  have cA := hS1.lts.2.1
  have h2 := gl_digit h1 (1 + j)
  obtain ⟨_, _, _, hS2⟩ := gl_seen h2
  have d0 := hS2.b0
  have d1 := hS2.b1
  have d2 := hS2.b2
  obtain ⟨W2, hW2⟩ : ∃ W2, w1.setCell ⟨A, 1, none⟩ (.int .i64 ((1 + j : Nat) : Int)) = W2 := ⟨_, rfl⟩
  have hW3 : w1.setCell ⟨A, 1, none⟩ (.int .i64 (1 + (j : Int))) = W2 := by rw [← hW2]; congr 2
  rw [hW2] at d0 d1 d2 h2
  have HH2 := hide h2
  clear h1 h2 hx hS1 hS2 hW2 HNX HH a0 a1 a2 az hA
  go_wp2_with fail
  go_region_law (first
    | (refine step_call16 rfl (.tmp 61) (.tmp 62) (.tmp 64) rfl (.pointer (some ⟨tb, 0, none⟩)) (.pointer (some ⟨rb, 0, none⟩)) (.int .i64 D) rfl rfl (by simp [Act.eval, Act.put]) _ ((unhide HG) P NV (m + 1) _ ?_ hP8 ?_) ?_; exact (unhide HH2).drew.gs; omega; rintro e w2 ⟨rfl, P', NV', m', hGr⟩; have hbx := gl_bx2 (unhide HH2).drew hGr; have HBX := hide hbx; have HGR := hide hGr; have hB2 : w.heap.size ≤ w2.heap.size := Nat.le_trans (unhide HH2).drew.wf.size hGr.wf.size; have q2 : w2.cell? ⟨A, 2, none⟩ = some (.slice ia 0 ic) := (by simp [World.cell?, hbx.box]); have q3 : (w2.alloc (.cells #[.int .i64 P.length] 3)).cell? ⟨A, 2, none⟩ = some (.slice ia 0 ic) := (((Below.refl w2.heap.size w2).alloc (Nat.le_refl _) _).cell (p := ⟨A, 2, none⟩) (lt_of_block hbx.box)).trans q2; clear hbx hGr; refine ⟨_, rfl, ?_⟩)
    | (refine step_append3 rfl (.tmp 60) (.tmp 66) 42 rfl w.heap.size 3 j0 _ 1 8 Try.underlying42 hj0 hz0 hz1 hz2 rfl (by decide) (.slice ia 0 ic) 0 (nums []) rfl (by exact World.ownsRow.alloc (unhide HBX).row _) ⟨w2.heap.size, 0, none⟩ 1 1 [.int .i64 P.length] rfl rfl (by exact cell_one_new _ _ _) (by exact one_int _) (by unfold maxLen; omega) (by omega) (by simp; omega) ?_; intro iv' w3 hown hgrow hat; obtain ⟨va, vn, vc, hvs⟩ := row_shape hown; subst hvs; have hkid := gl_kid (unhide HH2).drew (unhide HGR) (by rw [List.length_append, nums_snoc]; exact hown) hgrow (by simpa using hat); obtain ⟨hk3, hk4⟩ := hkid; have q4 : w3.cell? ⟨A, 2, none⟩ = some (.slice ia 0 ic) := (by simp [World.cell?, hk3]); have q5 : w3.frozen? ⟨A, 2, none⟩ = false := (by simp [World.frozen?, hk3]); have HK := hide hk4; clear hk3 hk4 hown hgrow hat))
  all_goals
    obtain ⟨g, pc, hnv, hS⟩ := gl_seen (unhide HK)
    subst hnv
    obtain ⟨t0, hlt, hsm, b0, b1', b2', bz, ⟨u0, n0⟩, ⟨u1, n1⟩, ⟨u2, n2⟩, gz, hl1, hl2, hl3⟩ := hS
    have z0 := gz (P0.length * 3)
    have z1 := gz (P0.length * 3 + 1)
    have z2 := gz (P0.length * 3 + 2)
    have HE := hide (gl_end (m0 := m0) (unhide HK).drew (Or.inr (Or.inr (Or.inl ⟨rfl, by simp, by simp; omega, rfl⟩))) hM)
    generalize w3.setCell ⟨A, 2, none⟩ (.slice va vn vc) = W4 at *
    clear q2 q3 q4 q5 gz bz HK HBX HGR
    go_wp2
    go_loopw [] (fun wr => wr = W4) (fun _ => 0)
    case atStart => rfl
    case round =>
      subst hrel
      go_wp2
      go_region
      all_goals go_wp2
      all_goals go_ret
      all_goals exact ⟨rfl, _, _, _, unhide HE⟩

set_option maxRecDepth 100000 in
set_option maxHeartbeats 2000000 in
theorem rest_q (w0 w : World) (tb rb : Nat) (V : Value) (P0 : List Nd) (N0 : Value) (m0 M A d D : Nat) (W : World) (P : List Nd) (NV : Value) (m : Nat) (u : Nat → Value) (ia : Option Addr) (ic : Nat) (hV : RawOk w0 V) (hr0 : w0.heap.size ≤ rb) (hG : GrowSaid w0 tb rb V D) (h : GL w0 w tb rb V P0 N0 M A 113 d D W P NV m (.slice ia 0 ic) []) (hP8 : P.length ≤ 8) (hD : D ≤ 3) (hmm : m + 1 + 10 ^ D ≤ 1000000) (hM : M + 1 + 10 ^ D ≤ m0 + 10 ^ (D + 1)) :
    Code.wp Try.prog (growRest Try.f18) (bodyPost Try.prog Try.f18 (GrowPost w0 w tb rb V P0 N0 m0 (D + 1))) (growAct tb rb A P0.length (.int .i64 ((D : Int) + 1)) (.int .i64 6) (.int .i64 0) u) W := by
  have hp1 := (ten_pow D).2
  have hwD : IntKind.i64.wrap (D : Int) = (D : Int) := by rw [IntKind.wrap_i64]; omega
  obtain ⟨j0, hj0, hz0, hz1, hz2⟩ := info_parts info3
  obtain ⟨_, _, _, hS0⟩ := gl_seen h
  have a0 := hS0.b0
  have a1 := hS0.b1
  have a2 := hS0.b2
  have az := hS0.z 1
  have hA := hS0.lts.2.1
  have HH := hide h
  have HG := hide hG
  have HNX := hide (rawNext_any w0 W rb V m 4 hV h.gs.below hr0 h.gs.raw (by omega) (by omega) (by omega))
  clear h hG hS0
  conv in (growRest Try.f18) => simp only [growRest, Try.f18, Option.getD_some, ctail]
  go_wp2_with fail
  refine (unhide HNX).mono ?_
  rintro e w1 ⟨⟨j, hj, rfl⟩, hx⟩
  have h1 := (unhide HH).next hx
  obtain ⟨_, _, _, hS1⟩ := gl_seen h1
  have c0 := hS1.b0
  have c1 := hS1.b1
  have c2 := hS1.b2
  have cz := hS1.z 1
  have cA := hS1.lts.2.1
  have h2 := gl_digit h1 (j)
  obtain ⟨_, _, _, hS2⟩ := gl_seen h2
  have d0 := hS2.b0
  have d1 := hS2.b1
  have d2 := hS2.b2
  obtain ⟨W2, hW2⟩ : ∃ W2, w1.setCell ⟨A, 1, none⟩ (.int .i64 ((j : Nat) : Int)) = W2 := ⟨_, rfl⟩
  have hW3 : w1.setCell ⟨A, 1, none⟩ (.int .i64 ((j : Int))) = W2 := hW2
  rw [hW2] at d0 d1 d2 h2
  have HH2 := hide h2
  clear h1 h2 hx hS1 hS2 hW2 HNX HH a0 a1 a2 az hA
  go_wp2_with fail
  go_region_law (first
    | (refine step_call16 rfl (.tmp 61) (.tmp 62) (.tmp 64) rfl (.pointer (some ⟨tb, 0, none⟩)) (.pointer (some ⟨rb, 0, none⟩)) (.int .i64 D) rfl rfl (by simp [Act.eval, Act.put]) _ ((unhide HG) P NV (m + 1) _ ?_ hP8 ?_) ?_; exact (unhide HH2).drew.gs; omega; rintro e w2 ⟨rfl, P', NV', m', hGr⟩; have hbx := gl_bx2 (unhide HH2).drew hGr; have HBX := hide hbx; have HGR := hide hGr; have hB2 : w.heap.size ≤ w2.heap.size := Nat.le_trans (unhide HH2).drew.wf.size hGr.wf.size; have q2 : w2.cell? ⟨A, 2, none⟩ = some (.slice ia 0 ic) := (by simp [World.cell?, hbx.box]); have q3 : (w2.alloc (.cells #[.int .i64 P.length] 3)).cell? ⟨A, 2, none⟩ = some (.slice ia 0 ic) := (((Below.refl w2.heap.size w2).alloc (Nat.le_refl _) _).cell (p := ⟨A, 2, none⟩) (lt_of_block hbx.box)).trans q2; clear hbx hGr; refine ⟨_, rfl, ?_⟩)
    | (refine step_append3 rfl (.tmp 60) (.tmp 66) 42 rfl w.heap.size 3 j0 _ 1 8 Try.underlying42 hj0 hz0 hz1 hz2 rfl (by decide) (.slice ia 0 ic) 0 (nums []) rfl (by exact World.ownsRow.alloc (unhide HBX).row _) ⟨w2.heap.size, 0, none⟩ 1 1 [.int .i64 P.length] rfl rfl (by exact cell_one_new _ _ _) (by exact one_int _) (by unfold maxLen; omega) (by omega) (by simp; omega) ?_; intro iv' w3 hown hgrow hat; obtain ⟨va, vn, vc, hvs⟩ := row_shape hown; subst hvs; have hkid := gl_kid (unhide HH2).drew (unhide HGR) (by rw [List.length_append, nums_snoc]; exact hown) hgrow (by simpa using hat); obtain ⟨hk3, hk4⟩ := hkid; have q4 : w3.cell? ⟨A, 2, none⟩ = some (.slice ia 0 ic) := (by simp [World.cell?, hk3]); have q5 : w3.frozen? ⟨A, 2, none⟩ = false := (by simp [World.frozen?, hk3]); have HK := hide hk4; clear hk3 hk4 hown hgrow hat))
  all_goals
    obtain ⟨g, pc, hnv, hS⟩ := gl_seen (unhide HK)
    subst hnv
    obtain ⟨t0, hlt, hsm, b0, b1', b2', bz, ⟨u0, n0⟩, ⟨u1, n1⟩, ⟨u2, n2⟩, gz, hl1, hl2, hl3⟩ := hS
    have z0 := gz (P0.length * 3)
    have z1 := gz (P0.length * 3 + 1)
    have z2 := gz (P0.length * 3 + 2)
    have HE := hide (gl_end (m0 := m0) (unhide HK).drew (Or.inr (Or.inr (Or.inr (Or.inl ⟨rfl, by simp; omega, rfl⟩)))) hM)
    generalize w3.setCell ⟨A, 2, none⟩ (.slice va vn vc) = W4 at *
    clear q2 q3 q4 q5 gz bz HK HBX HGR
    go_wp2
    go_loopw [] (fun wr => wr = W4) (fun _ => 0)
    case atStart => rfl
    case round =>
      subst hrel
      go_wp2
      go_region
      all_goals go_wp2
      all_goals go_ret
      all_goals exact ⟨rfl, _, _, _, unhide HE⟩

end Go.Proofs.Ytblomippkddgiaa.V
