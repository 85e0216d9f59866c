/-
  The law's 'grow': its walk, a node with kids in brackets.
-/
import Derived.Test.YtblomippkddgiaaVGrowD
namespace Go.Proofs.Ytblomippkddgiaa.V
open Go.RowKit

def inLen (w : World) (A : Nat) : Nat := match w.cell? ⟨A, 2, none⟩ with
  | some (.slice _ n _) => n
  | _ => 0
/- what is left of 'grow' once the first kid stands -/
def growLoop (f : Func) : Code := ctail (ctail (ctail (growRest f)))

set_option maxRecDepth 100000 in
set_option maxHeartbeats 4000000 in
theorem loop_r (w0 w : World) (tb rb : Nat) (V : Value) (P0 : List Nd) (N0 : Value) (m0 M A d D : Nat) (W : World) (u : Nat → Value) (hV : RawOk w0 V) (hr0 : w0.heap.size ≤ rb) (hG : GrowSaid w0 tb rb V D) (h : ∃ P NV m iv ks, 1 ≤ ks.length ∧ ks.length ≤ 6 ∧ GL w0 w tb rb V P0 N0 (M + ks.length * (10 ^ D + 1)) A 114 d D W P NV m iv ks) (hD : D ≤ 3) (hmm : M + 7 * (10 ^ D + 1) ≤ 1000000) (hM : M + 7 * (10 ^ D + 1) ≤ m0 + 10 ^ (D + 1)) :
    Code.wp Try.prog (growLoop Try.f18) (bodyPost Try.prog Try.f18 (GrowPost w0 w tb rb V P0 N0 m0 (D + 1))) (growAct tb rb A P0.length (.int .i64 ((D : Int) + 1)) (.int .i64 7) (.int .i64 0) u) W := by
  have hp1 := (ten_pow D).2
  have hwD : IntKind.i64.wrap (D : Int) = (D : Int) := by rw [IntKind.wrap_i64]; omega
  obtain ⟨j0, hj0, hz0, hz1, hz2⟩ := info_parts info3
  have HH0 := hide h
  have HG := hide hG
  have HV := hide hV
  clear h hG hV
  conv in (growLoop Try.f18) => simp only [growLoop, growRest, Try.f18, Option.getD_some, ctail]
  unfold growAct
  go_wp2
  go_loopw [] (fun wr => ∃ P NV m iv ks, 1 ≤ ks.length ∧ ks.length ≤ 6 ∧ GL w0 w tb rb V P0 N0 (M + ks.length * (10 ^ D + 1)) A 114 d D wr P NV m iv ks) (fun wr => 7 - inLen wr A)
  case atStart => exact unhide HH0
  case round =>
    obtain ⟨P, NV, m, iv, ks, hk1, hk6, hgl⟩ := hrel
    obtain ⟨ia, kl, ic, hiv⟩ := row_shape hgl.bx.row
    subst hiv
    have hkl : kl = ks.length := by
      rcases hgl.bx.row.2 with ⟨hv, h0⟩ | ⟨gg, cap, cur, hv, _⟩
      · cases hv
        omega
      · cases hv
        rfl
    have hmulk : ks.length * (10 ^ D + 1) ≤ 6 * (10 ^ D + 1) := Nat.mul_le_mul_right _ hk6
    have hmr := hgl.raw
    obtain ⟨g, pc, hnv, hS⟩ := gl_seen hgl
    subst hnv
    have hform : ∀ v : Value, form ⟨114, d, v, ks⟩ := fun v => Or.inr (Or.inr (Or.inr (Or.inr ⟨Or.inl rfl, hk1, hk6⟩)))
    have HMEA : Hid (inLen wr A = kl) := by
      show inLen wr A = kl
      unfold inLen
      rw [hS.b2]
    have HNX := hide (fun (hm : m ≤ 1000000000) => rawNext_any w0 wr rb V m 3 (unhide HV) hgl.gs.below hr0 hgl.gs.raw hm (by omega) (by omega))
    have HGL := hide hgl
    have HKL := hide hkl
    have HE := hide (gl_end (m0 := m0) hgl.drew (hform _) (by omega))
    obtain ⟨t0, hlt, hsm, b0, b1', b2', bz, ⟨u0, n0⟩, ⟨u1, n1⟩, ⟨u2, n2⟩, gz, hl1, hl2, hl3⟩ := hS
    have z0 := gz (P0.length * 3)
    have z1 := gz (P0.length * 3 + 1)
    have z2 := gz (P0.length * 3 + 2)
    have hk6n : ks.length ≤ 6 := hk6
    clear hgl gz bz hkl
    by_cases h9 : P.length < 9
    · have h9' : (P.length : Int) < 9 := by omega
      have HC := hide ((unhide HNX) (by omega))
      clear HNX
      go_wp2_with fail
      refine (unhide HC).mono ?_
      rintro e w1 ⟨⟨j, hj, rfl⟩, hx⟩
      have h1 := (unhide HGL).next hx
      obtain ⟨g1, pc1, hnv1, hS1⟩ := gl_seen h1
      obtain ⟨rfl, rfl⟩ : g1 = g ∧ pc1 = pc := by
        injection hnv1 with e1 _ e2
        injection e1 with e1
        injection e1 with e1
        exact ⟨e1.symm, e2.symm⟩
      have HE1 := hide (gl_end (m0 := m0) h1.drew (hform _) (by omega))
      obtain ⟨t0', _, _, b0', b1'', b2'', bz', ⟨u0', n0'⟩, ⟨u1', n1'⟩, ⟨u2', n2'⟩, gz', hl1', hl2', hl3'⟩ := hS1
      have z0' := gz' (P0.length * 3)
      have z1' := gz' (P0.length * 3 + 1)
      have z2' := gz' (P0.length * 3 + 2)
      have HH2 := hide h1
      clear h1 hx gz' bz' t0 b0 b1' b2' n0 n1 n2 z0 z1 z2 HE HC hl1 hl2 hl3 hnv1
      by_cases hj0' : j = 0
      · subst hj0'
        go_wp2
        go_region
        all_goals go_wp2
        all_goals go_ret
        all_goals exact ⟨rfl, _, _, _, unhide HE1⟩
      · have hjp : (0 : Int) < (j : Int) := by omega
        by_cases h6 : kl < 6
        · have h6' : (kl : Int) < 6 := by omega
          have hP8 : P.length ≤ 8 := by omega
          clear HE1 n0' n1' n2' z0' z1' z2'
          go_wp2_with fail
          go_region_law (first
    | (refine step_call16 rfl (.tmp 92) (.tmp 93) (.tmp 95) rfl (.pointer (some ⟨tb, 0, none⟩)) (.pointer (some ⟨rb, 0, none⟩)) (.int .i64 D) rfl rfl (by rfl) _ ((unhide HG) P (.slice (some ⟨g1, 0, none⟩) P.length pc1) (m + 1) _ ?_ hP8 ?_) ?_; exact (unhide HH2).drew.gs; omega; rintro e w2 ⟨rfl, P', NV', m', hGr⟩; have hbx := gl_bx2 (unhide HH2).drew hGr; have HBX := hide hbx; have HGR := hide hGr; have hB2 : w.heap.size ≤ w2.heap.size := Nat.le_trans (unhide HH2).drew.wf.size hGr.wf.size; have q2 : w2.cell? ⟨A, 2, none⟩ = some (.slice ia kl ic) := (by simp [World.cell?, hbx.box]); have q3 : (w2.alloc (.cells #[.int .i64 P.length] 3)).cell? ⟨A, 2, none⟩ = some (.slice ia kl ic) := (((Below.refl w2.heap.size w2).alloc (Nat.le_refl _) _).cell (p := ⟨A, 2, none⟩) (lt_of_block hbx.box)).trans q2; clear hbx hGr; refine ⟨_, rfl, ?_⟩)
    | (refine step_append3 rfl (.tmp 91) (.tmp 97) 42 rfl w.heap.size 3 j0 _ 1 8 Try.underlying42 hj0 hz0 hz1 hz2 rfl (by decide) (.slice ia kl ic) ks.length (nums ks) rfl (by exact World.ownsRow.alloc (unhide HBX).row _) ⟨w2.heap.size, 0, none⟩ 1 1 [.int .i64 P.length] rfl rfl (by exact cell_one_new _ _ _) (by exact one_int _) (by unfold maxLen; omega) (by omega) (by simp; omega) ?_; intro iv' w3 hown hgrow hat; obtain ⟨va, vn, vc, hvs⟩ := row_shape hown; subst hvs; have hkid := gl_kid (unhide HH2).drew (unhide HGR) (by rw [List.length_append, nums_snoc]; exact hown) hgrow (by simpa using hat); obtain ⟨hk3, hk4⟩ := hkid; have q4 : w3.cell? ⟨A, 2, none⟩ = some (.slice ia kl ic) := (by simp [World.cell?, hk3]); have q5 : w3.frozen? ⟨A, 2, none⟩ = false := (by simp [World.frozen?, hk3]); have HK := hide hk4; clear hk3 hk4 hown hgrow hat))
          all_goals
            have hML : M + ks.length * (10 ^ D + 1) + 1 + 10 ^ D = M + (ks ++ [P.length]).length * (10 ^ D + 1) := by
              rw [List.length_append, List.length_singleton, Nat.add_mul]
              omega
            have hgl3 := unhide HK
            rw [hML] at hgl3
            have HM2 : Hid (inLen (w3.setCell ⟨A, 2, none⟩ (.slice va vn vc)) A = kl + 1) := by
              show inLen (w3.setCell ⟨A, 2, none⟩ (.slice va vn vc)) A = kl + 1
              have hb := hgl3.bx.box
              have hr := hgl3.bx.row
              have hvn : vn = (ks ++ [P.length]).length := by
                rcases hr.2 with ⟨hv, h0⟩ | ⟨gg, cap, cur, hv, _⟩
                · cases hv
                  omega
                · cases hv
                  rfl
              unfold inLen
              simp only [World.cell?, hb]
              rw [hvn, unhide HKL, List.length_append]
              rfl
            have HR3 := hide hgl3
            have hk6s : ks.length < 6 := by rw [← unhide HKL]; exact h6
            clear hgl3 hML q2 q3 q4 q5 HK HBX HGR
            generalize w3.setCell ⟨A, 2, none⟩ (.slice va vn vc) = W4 at *
            go_wp2
            go_roundw
            case rel => exact ⟨_, _, _, _, _, by simp, by simp; omega, unhide HR3⟩
            case measure =>
              rw [unhide HM2, unhide HMEA]
              omega
        · go_wp2
          go_region
          all_goals go_wp2
          all_goals go_ret
          all_goals exact ⟨rfl, _, _, _, unhide HE1⟩
    · go_wp2
      go_region
      all_goals go_wp2
      all_goals go_ret
      all_goals exact ⟨rfl, _, _, _, unhide HE⟩

end Go.Proofs.Ytblomippkddgiaa.V
