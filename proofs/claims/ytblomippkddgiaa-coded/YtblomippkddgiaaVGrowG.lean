/-
  The law's 'grow': its walk, a node with kids in brackets, from its letter on.
-/
import Derived.Test.YtblomippkddgiaaVGrowE
import Derived.Test.YtblomippkddgiaaVGrowF
namespace Go.Proofs.Ytblomippkddgiaa.V
open Go.RowKit

theorem use_act {P : Program} {code : Code} {Q : Exit → Act → World → Prop} {W : World} {tb rb A n : Nat} {dv kv r6 : Value} (T : Array Value) (h : ∀ u : Nat → Value, Code.wp P code Q (growAct tb rb A n dv kv r6 u) W) (he : T = (growAct tb rb A n dv kv r6 (fun i => T.getD i undef)).tmps) : Code.wp P code Q { tmps := T, defers := [] } W := by
  have h2 := h (fun i => T.getD i undef)
  have h3 : ({ tmps := T, defers := [] } : Act) = growAct tb rb A n dv kv r6 (fun i => T.getD i undef) := by
    conv => lhs; rw [he]
  rw [h3]
  exact h2
theorem gl_mono {w0 w : World} {tb rb : Nat} {V : Value} {P0 : List Nd} {N0 : Value} {M M' A c d D : Nat} {wr : World} {P : List Nd} {NV : Value} {m : Nat} {iv : Value} {ks : List Nat} (h : GL w0 w tb rb V P0 N0 M A c d D wr P NV m iv ks) (hM : M ≤ M') : GL w0 w tb rb V P0 N0 M' A c d D wr P NV m iv ks :=
  ⟨h.gs, h.bx, h.wf, h.len, h.pre, h.fresh, h.kids, h.text, Nat.le_trans h.raw hM, h.abase, h.wbase⟩

set_option maxRecDepth 100000 in
set_option maxHeartbeats 2000000 in
theorem rest_r (w0 w : World) (tb rb : Nat) (V : Value) (P0 : List Nd) (N0 : Value) (m0 M A d D : Nat) (W : World) (P : List Nd) (NV : Value) (m : Nat) (u : Nat → Value) (ia : Option Addr) (ic : Nat) (hV : RawOk w0 V) (hr0 : w0.heap.size ≤ rb) (hG : GrowSaid w0 tb rb V D) (h : GL w0 w tb rb V P0 N0 M A 114 d D W P NV m (.slice ia 0 ic) []) (hP8 : P.length ≤ 8) (hD : D ≤ 3) (hmm : M + 7 * (10 ^ D + 1) ≤ 1000000) (hM : M + 7 * (10 ^ D + 1) ≤ m0 + 10 ^ (D + 1)) :
    Code.wp Try.prog (growRest Try.f18) (bodyPost Try.prog Try.f18 (GrowPost w0 w tb rb V P0 N0 m0 (D + 1))) (growAct tb rb A P0.length (.int .i64 ((D : Int) + 1)) (.int .i64 7) (.int .i64 0) u) W := by
  have hp1 := (ten_pow D).2
  have hwD : IntKind.i64.wrap (D : Int) = (D : Int) := by rw [IntKind.wrap_i64]; omega
  obtain ⟨j0, hj0, hz0, hz1, hz2⟩ := info_parts info3
  obtain ⟨_, _, _, hS0⟩ := gl_seen h
  have a0 := hS0.b0
  have a1 := hS0.b1
  have a2 := hS0.b2
  have hmr := h.raw
  have HH2 := hide h
  have HG := hide hG
  have HLO := hide (fun W u hx => loop_r w0 w tb rb V P0 N0 m0 M A d D W u hV hr0 hG hx hD hmm hM)
  clear h hG hS0
  conv in (growRest Try.f18) => simp only [growRest, Try.f18, Option.getD_some, ctail]
  go_wp2_with fail
  rename_i K hK
  go_region_law (first
    | (refine step_call16 rfl (.tmp 61) (.tmp 62) (.tmp 64) rfl (.pointer (some ⟨tb, 0, none⟩)) (.pointer (some ⟨rb, 0, none⟩)) (.int .i64 D) rfl rfl (by rfl) _ ((unhide HG) P NV m _ ?_ hP8 ?_) ?_; exact (unhide HH2).drew.gs; omega; rintro e w2 ⟨rfl, P', NV', m', hGr⟩; have hbx := gl_bx2 (unhide HH2).drew hGr; have HBX := hide hbx; have HGR := hide hGr; have hB2 : w.heap.size ≤ w2.heap.size := Nat.le_trans (unhide HH2).drew.wf.size hGr.wf.size; have q2 : w2.cell? ⟨A, 2, none⟩ = some (.slice ia 0 ic) := (by simp [World.cell?, hbx.box]); have q3 : (w2.alloc (.cells #[.int .i64 P.length] 3)).cell? ⟨A, 2, none⟩ = some (.slice ia 0 ic) := (((Below.refl w2.heap.size w2).alloc (Nat.le_refl _) _).cell (p := ⟨A, 2, none⟩) (lt_of_block hbx.box)).trans q2; clear hbx hGr; refine ⟨_, rfl, ?_⟩)
    | (refine step_append3 rfl (.tmp 60) (.tmp 66) 42 rfl w.heap.size 3 j0 _ 1 8 Try.underlying42 hj0 hz0 hz1 hz2 rfl (by decide) (.slice ia 0 ic) 0 (nums []) rfl (by exact World.ownsRow.alloc (unhide HBX).row _) ⟨w2.heap.size, 0, none⟩ 1 1 [.int .i64 P.length] rfl rfl (by exact cell_one_new _ _ _) (by exact one_int _) (by unfold maxLen; omega) (by omega) (by simp; omega) ?_; intro iv' w3 hown hgrow hat; obtain ⟨va, vn, vc, hvs⟩ := row_shape hown; subst hvs; have hkid := gl_kid (unhide HH2).drew (unhide HGR) (by rw [List.length_append, nums_snoc]; exact hown) hgrow (by simpa using hat); obtain ⟨hk3, hk4⟩ := hkid; have q4 : w3.cell? ⟨A, 2, none⟩ = some (.slice ia 0 ic) := (by simp [World.cell?, hk3]); have q5 : w3.frozen? ⟨A, 2, none⟩ = false := (by simp [World.frozen?, hk3]); have HK := hide hk4; clear hk3 hk4 hown hgrow hat))
  all_goals
    have hx : ∃ P NV m iv ks, 1 ≤ ks.length ∧ ks.length ≤ 6 ∧ GL w0 w tb rb V P0 N0 (M + ks.length * (10 ^ D + 1)) A 114 d D (w3.setCell ⟨A, 2, none⟩ (.slice va vn vc)) P NV m iv ks := ⟨P', NV', m', _, [P.length], by simp, by simp, gl_mono (unhide HK) (by simp)⟩
    have HX := hide hx
    clear hx q2 q3 q4 q5 HK HBX HGR
    show K _ _
    refine hK _ _ ?_
    refine use_act _ (fun u => (unhide HLO) _ u (unhide HX)) ?_
    rfl

set_option maxRecDepth 100000 in
set_option maxHeartbeats 2000000 in
theorem rest_u (w0 w : World) (tb rb : Nat) (V : Value) (P0 : List Nd) (N0 : Value) (m0 M A d D : Nat) (W : World) (P : List Nd) (NV : Value) (m : Nat) (u : Nat → Value) (ia : Option Addr) (ic : Nat) (hV : RawOk w0 V) (hr0 : w0.heap.size ≤ rb) (hG : GrowSaid w0 tb rb V D) (h : GL w0 w tb rb V P0 N0 M A 117 d D W P NV m (.slice ia 0 ic) []) (hP8 : P.length ≤ 8) (hD : D ≤ 3) (hmm : M + 7 * (10 ^ D + 1) ≤ 1000000) (hM : M + 7 * (10 ^ D + 1) ≤ m0 + 10 ^ (D + 1)) :
    Code.wp Try.prog (growRest Try.f18) (bodyPost Try.prog Try.f18 (GrowPost w0 w tb rb V P0 N0 m0 (D + 1))) (growAct tb rb A P0.length (.int .i64 ((D : Int) + 1)) (.int .i64 8) (.int .i64 0) u) W := by
  have hp1 := (ten_pow D).2
  have hwD : IntKind.i64.wrap (D : Int) = (D : Int) := by rw [IntKind.wrap_i64]; omega
  obtain ⟨j0, hj0, hz0, hz1, hz2⟩ := info_parts info3
  obtain ⟨_, _, _, hS0⟩ := gl_seen h
  have a0 := hS0.b0
  have a1 := hS0.b1
  have a2 := hS0.b2
  have hmr := h.raw
  have HH2 := hide h
  have HG := hide hG
  have HLO := hide (fun W u hx => loop_u w0 w tb rb V P0 N0 m0 M A d D W u hV hr0 hG hx hD hmm hM)
  clear h hG hS0
  conv in (growRest Try.f18) => simp only [growRest, Try.f18, Option.getD_some, ctail]
  go_wp2_with fail
  rename_i K hK
  go_region_law (first
    | (refine step_call16 rfl (.tmp 61) (.tmp 62) (.tmp 64) rfl (.pointer (some ⟨tb, 0, none⟩)) (.pointer (some ⟨rb, 0, none⟩)) (.int .i64 D) rfl rfl (by rfl) _ ((unhide HG) P NV m _ ?_ hP8 ?_) ?_; exact (unhide HH2).drew.gs; omega; rintro e w2 ⟨rfl, P', NV', m', hGr⟩; have hbx := gl_bx2 (unhide HH2).drew hGr; have HBX := hide hbx; have HGR := hide hGr; have hB2 : w.heap.size ≤ w2.heap.size := Nat.le_trans (unhide HH2).drew.wf.size hGr.wf.size; have q2 : w2.cell? ⟨A, 2, none⟩ = some (.slice ia 0 ic) := (by simp [World.cell?, hbx.box]); have q3 : (w2.alloc (.cells #[.int .i64 P.length] 3)).cell? ⟨A, 2, none⟩ = some (.slice ia 0 ic) := (((Below.refl w2.heap.size w2).alloc (Nat.le_refl _) _).cell (p := ⟨A, 2, none⟩) (lt_of_block hbx.box)).trans q2; clear hbx hGr; refine ⟨_, rfl, ?_⟩)
    | (refine step_append3 rfl (.tmp 60) (.tmp 66) 42 rfl w.heap.size 3 j0 _ 1 8 Try.underlying42 hj0 hz0 hz1 hz2 rfl (by decide) (.slice ia 0 ic) 0 (nums []) rfl (by exact World.ownsRow.alloc (unhide HBX).row _) ⟨w2.heap.size, 0, none⟩ 1 1 [.int .i64 P.length] rfl rfl (by exact cell_one_new _ _ _) (by exact one_int _) (by unfold maxLen; omega) (by omega) (by simp; omega) ?_; intro iv' w3 hown hgrow hat; obtain ⟨va, vn, vc, hvs⟩ := row_shape hown; subst hvs; have hkid := gl_kid (unhide HH2).drew (unhide HGR) (by rw [List.length_append, nums_snoc]; exact hown) hgrow (by simpa using hat); obtain ⟨hk3, hk4⟩ := hkid; have q4 : w3.cell? ⟨A, 2, none⟩ = some (.slice ia 0 ic) := (by simp [World.cell?, hk3]); have q5 : w3.frozen? ⟨A, 2, none⟩ = false := (by simp [World.frozen?, hk3]); have HK := hide hk4; clear hk3 hk4 hown hgrow hat))
  all_goals
    have hx : ∃ P NV m iv ks, 1 ≤ ks.length ∧ ks.length ≤ 6 ∧ GL w0 w tb rb V P0 N0 (M + ks.length * (10 ^ D + 1)) A 117 d D (w3.setCell ⟨A, 2, none⟩ (.slice va vn vc)) P NV m iv ks := ⟨P', NV', m', _, [P.length], by simp, by simp, gl_mono (unhide HK) (by simp)⟩
    have HX := hide hx
    clear hx q2 q3 q4 q5 HK HBX HGR
    show K _ _
    refine hK _ _ ?_
    refine use_act _ (fun u => (unhide HLO) _ u (unhide HX)) ?_
    rfl

end Go.Proofs.Ytblomippkddgiaa.V
