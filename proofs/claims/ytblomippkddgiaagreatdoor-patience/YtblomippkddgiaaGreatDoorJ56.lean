/-
  Joined: Keep2 Keep3 Keep4.
-/
import Derived.Test.YtblomippkddgiaaGreatDoorJ55
/-
  The statements' export and bind.
-/
namespace Go.Proofs.YtblomippkddgiaaGreatDoor
open Go.RowKit

theorem info3 : (Tryz.prog.info? 3).map (fun i => (i.zero, i.size, i.bytes)) = some (some (.int .i64 0), 1, 8) := by kernel_rfl
theorem one_num (w : World) (n : Int) (j : Nat) (u : Value) (h : ([.int .i64 n] : List Value)[j]? = some u) : (w.alloc (.cells #[.int .i64 n] 3)).cell? ((⟨w.heap.size, 0, none⟩ : Addr).add j) = some u := by
  rw [Addr.add_lit, Nat.zero_add, World.cell?_alloc_new w _ _ j, ← List.getElem?_toArray] at *
  exact h

theorem one_num_at (w : World) (n : Int) {m : Nat} (hm : w.heap.size = m) (j : Nat) (u : Value) (h : ([.int .i64 n] : List Value)[j]? = some u) : (w.alloc (.cells #[.int .i64 n] 3)).cell? ((⟨m, 0, none⟩ : Addr).add j) = some u := by
  subst hm
  exact one_num w n j u h

structure RCell (q : RP) (s : RS) (w : World) : Prop where
  a0 : w.cell? ⟨q.r, 0, none⟩ = some (ptr q.x)
  a6 : w.cell? ⟨q.r, 6, none⟩ = some (.slice (some ⟨q.lf, 0, none⟩) s.life.length s.life.length)
  a7 : w.cell? ⟨q.r, 7, none⟩ = some (.slice (some ⟨q.sq, 0, none⟩) s.seq.length s.seq.length)
  a8 : w.cell? ⟨q.r, 8, none⟩ = some (.slice (some ⟨q.ud, 0, none⟩) s.uid.length s.uid.length)
  a9 : w.cell? ⟨q.r, 9, none⟩ = some s.M
  a10 : w.cell? ⟨q.r, 10, none⟩ = some (.int .i64 s.nu)
  a11 : w.cell? ⟨q.r, 11, none⟩ = some s.D
  a12 : w.cell? ⟨q.r, 12, none⟩ = some s.K
  z : ∀ o, w.frozen? ⟨q.r, o, none⟩ = false
  zu : ∀ o, w.frozen? ⟨q.ud, o, none⟩ = false
  zs : ∀ o, w.frozen? ⟨q.sq, o, none⟩ = false
  zl : ∀ o, w.frozen? ⟨q.lf, o, none⟩ = false
  u : ∀ k v, s.uid[k]? = some v → w.cell? ⟨q.ud, k, none⟩ = some (.int .i64 v)
  sq : ∀ k v, s.seq[k]? = some v → w.cell? ⟨q.sq, k, none⟩ = some (.int .i64 v)
  lf : ∀ k v, s.life[k]? = some v → w.cell? ⟨q.lf, k, none⟩ = some (.int .i64 v)
  nur : ¬ q.ud = q.r
  nsr : ¬ q.sq = q.r
  ltr : q.r < w.heap.size
  ltu : q.ud < w.heap.size
theorem Both.cells {w0 : World} {q : RP} {p : Pl} {c : R.Cf} {s : RS} {G : R.Wd} {w : World} (h : Both w0 q p c s G w) : RCell q s w := by
  obtain ⟨tp, E, F, hr, _⟩ := h.run
  have hx := hr.cell
  exact ⟨cell_of hx 0 _ rfl, cell_of hx 6 _ rfl, cell_of hx 7 _ rfl, cell_of hx 8 _ rfl, cell_of hx 9 _ rfl, cell_of hx 10 _ rfl, cell_of hx 11 _ rfl, cell_of hx 12 _ rfl, fun o => open_list hx, fun o => open_list hr.ud, fun o => open_list hr.sq, fun o => open_list hr.lf, fun k v hv => cell_list hr.ud (ints_get hv), fun k v hv => cell_list hr.sq (ints_get hv), fun k v hv => cell_list hr.lf (ints_get hv), ne_tag hr.ud hx (by decide), ne_tag hr.sq hx (by decide), lt_of_block hx, lt_of_block hr.ud⟩

set_option maxRecDepth 100000 in
theorem cf37 : ∀ args w, (callFunc 61 args).run Tryz.prog w = .ok (.enter 61 args) w := fun _ _ => rfl
set_option maxRecDepth 100000 in
theorem cf36 : ∀ args w, (callFunc 60 args).run Tryz.prog w = .ok (.enter 60 args) w := fun _ _ => rfl

/- the rest of export, behind the world's call -/
set_option maxRecDepth 100000 in
set_option maxHeartbeats 1000000 in
theorem exports_any (w0 : World) (q : RP) (p : Pl) (c : R.Cf) (s : RS) (G : R.Wd) (w : World) (k : Nat) (hk : k < 3) (h : Both w0 q p c s G w) (hul : s.uid.length = 3) (hu : s.uid[k]? = some 0) (hnu : s.nu = (G.services.length : Int)) (hn : ¬ nameL k ∈ G.names) (h6 : G.names.length < 6) (h255 : G.services.length < 200) (hnd : s.nd + 1 ≤ 10) (hnk : s.nk + 1 ≤ 10) :
    Calls Tryz.prog 28 #[ptr q.r, .int .i64 (k : Int)] w fun e w' => e = .returned (.bool true) ∧ ∃ D K, Both w0 q p c ⟨s.life, s.seq, s.uid.set k (s.nu + 1), s.nu + 1, s.M, D, K, s.nm, s.nd + 1, s.nk + 1⟩ (exportedG G (nameL k) k) w' := by
  obtain ⟨a0, a6, a7, a8, a9, a10, a11, a12, z, zu, zs, zl, fu, fs, fl, nur, nsr, ltr, ltu⟩ := h.cells
  have b1 := fu k 0 hu
  have hkn : (k : Int) < (s.uid.length : Int) := by omega
  have e255 : (s.nu == 255) = false := by simp; omega
  have HNA := hide (name_any k hk)
  have hwr : IntKind.i64.wrap (s.nu + 1) = s.nu + 1 := by rw [IntKind.wrap_i64]; omega
  have H36 : Hid (Calls Tryz.prog 60 #[ptr q.x, .string (str (nameL k)), .int .i64 (k : Int)] w.drew fun e w' => e = .returned (.tuple #[.int .i64 (s.nu + 1), .int .i64 0]) ∧ Both w0 q p c s (exportedG G (nameL k) k) w') := by
    have hd := h.still (Below.refl w.heap.size w).drew
    obtain ⟨tp, E, F, hr, hw, hdj, hlo⟩ := hd.run
    rw [h.x, hnu]
    refine (export_face w.drew p.x p.n p.s p.cs G.clients.length p.cap (str (nameL k)) k ((G.services.length : Int) + 1) 0 _ hw.bx (hw.exported (name_named k) (by omega) hn h6 (by omega))).mono ?_
    rintro e w' ⟨rfl, t', F', q1, q2⟩
    exact ⟨rfl, hd.world (t := t') hr hdj hlo q1 q2⟩
  generalize str (nameL k) = SN at *
  obtain ⟨i0, hi, hz0, hz1, hz2⟩ := info_parts info3
  clear hn h6 h255 h a6 a7 a9 a11 a12 z zu zs zl fu fs fl hnu
  go_enter Tryz.func28, Tryz.ntmps28
  go_wp2
  go_region_law (first
    | (refine step_call rfl 61 #[.tmp 78] #[3] rfl cf37 #[.int .i64 (k : Int)] rfl _ ((unhide HNA) _) ?_; rintro e w1 ⟨rfl, hw1⟩; rw [hw1]; clear hw1; refine ⟨_, rfl, ?_⟩)
    | (refine step_call rfl 60 #[.tmp 77, .tmp 79, .tmp 80] #[34, 9, 3] rfl cf36 #[ptr q.x, .string SN, .int .i64 (k : Int)] rfl _ (unhide H36) ?_; rintro e w2 ⟨rfl, hB⟩; have HBT := hide hB; clear hB; refine ⟨_, rfl, ?_⟩))
  all_goals
    clear a0 a8 a10 b1 ltr ltu H36 HNA
    have hc2 := (unhide HBT).cells
    have y10 := hc2.a10
    have y10z := hc2.z 10
    have y0 := hc2.ltr
    have HB2 := hide ((unhide HBT).put10 (s.nu + 1))
    clear hc2 HBT
    go_wp2
    generalize w2.setCell ⟨q.r, 10, none⟩ (.int .i64 (s.nu + 1)) = W2 at *
    have hc3 := (unhide HB2).cells
    have x8 := hc3.a8
    have x10 := hc3.a10
    have xk := hc3.zu k
    have xu := hc3.u k 0 (by assumption)
    simp only at x8 x10
    have xl := hc3.ltu
    have HB3 := hide (((unhide HB2).putU k (s.nu + 1)).still (Below.refl _ _).drew)
    clear hc3 HB2 y10 y10z y0
    go_region
    all_goals
      generalize (W2.setCell ⟨q.ud, k, none⟩ (.int .i64 (s.nu + 1))).drew = W3 at *
      clear x8 x10 xk xu xl
      have hc4 := (unhide HB3).cells
      have hrun := (unhide HB3).run
      obtain ⟨tp, E, F, hr, hEF⟩ := hrun
      have hrD := hr.D
      obtain ⟨xs, hxs⟩ := hrD
      have hsl := slice_of hxs
      obtain ⟨da, dc, hD⟩ := hsl
      have x11 := hc4.a11
      have x11z := hc4.z 11
      have xr := hc4.ltr
      simp only at hD hxs x11
      rw [hD] at x11 hxs
      have HXS := hide hxs
      have HD := hide hD
      clear hc4 hr hEF hxs hD
      go_wp2_with (at_builtin; go_must (refine wpList_append_own_at _ rfl (.tmp 105) (.tmp 106) 35 rfl 0 3 i0 (.int .i64 0) 1 8 Tryz.underlying35 hi hz0 hz1 hz2 rfl (by decide) (.slice da s.nd dc) s.nd xs rfl (by exact (unhide HXS).alloc _) ⟨W3.heap.size, 0, none⟩ 1 1 [.int .i64 (-1)] rfl rfl (by exact one_num W3 (-1)) (by simp [Value.oneCell']) (by unfold maxLen; omega) (by omega) (by omega) ?_))
      intro v' wz hown hgrow _ hat
      obtain ⟨va, vn, vc, hvs⟩ := row_shape hown
      subst hvs
      have HB4 := hide ((unhide HB3).pushD (o := .cells #[.int .i64 (-1)] 3) (D' := .slice va vn vc) ⟨_, hown⟩ (by rw [unhide HD]; exact hgrow) (by rw [unhide HD]; simpa using hat) hnd)
      have hgr : wz.heap[q.r]? = W3.heap[q.r]? := by
        refine (hgrow.block q.r (by simp; omega) (fun e => ?_)).trans (Below.heap_alloc _ _ _ xr)
        have hrun := (unhide HB3).run
        obtain ⟨tp, E, F, hr, hEF⟩ := hrun
        have hcell := hr.cell
        exact row_tag (unhide HXS) hcell (by decide) e.symm
      have g11 : wz.cell? ⟨q.r, 11, none⟩ = some (.slice da s.nd dc) := (World.cell?_of_block hgr).trans x11
      have g11z : wz.frozen? ⟨q.r, 11, none⟩ = false := (World.frozen?_of_block hgr).trans x11z
      have glt : q.r < wz.heap.size := lt_of_cell g11
      clear hown hgrow hat hgr x11 x11z HXS HD HB3
      have hc5 := (unhide HB4).cells
      have hrun := (unhide HB4).run
      obtain ⟨tp, E, F, hr, hEF⟩ := hrun
      have hrK := hr.K
      obtain ⟨ys, hys⟩ := hrK
      have hsl := slice_of hys
      obtain ⟨ka, kc, hKs⟩ := hsl
      have x12 := hc5.a12
      have x12z := hc5.z 12
      have x10 := hc5.a10
      have xr5 := hc5.ltr
      simp only at hKs hys x12 x10
      rw [hKs] at x12 hys
      have HYS := hide hys
      have HKS := hide hKs
      clear hc5 hr hEF hys hKs
      go_wp2_with (at_builtin; go_must (refine wpList_append_own_at _ rfl (.tmp 114) (.tmp 116) 35 rfl 0 3 i0 (.int .i64 0) 1 8 Tryz.underlying35 hi hz0 hz1 hz2 rfl (by decide) (.slice ka s.nk kc) s.nk ys rfl (by exact (unhide HYS).alloc _) ⟨wz.heap.size, 0, none⟩ 1 1 [.int .i64 (k : Int)] rfl rfl (by exact one_num_at _ (k : Int) (by simp)) (by simp [Value.oneCell']) (by unfold maxLen; omega) (by omega) (by omega) ?_))
      intro v2 wy hown hgrow _ hat
      obtain ⟨ua, un, uc, hvs⟩ := row_shape hown
      subst hvs
      have HB5 := hide ((unhide HB4).pushK (o := .cells #[.int .i64 (k : Int)] 3) (K' := .slice ua un uc) ⟨_, hown⟩ (by rw [unhide HKS]; exact hgrow) (by rw [unhide HKS]; simpa using hat) hnk)
      generalize wz.setCell ⟨q.r, 11, none⟩ (.slice va vn vc) = W4 at *
      have hgr : wy.heap[q.r]? = W4.heap[q.r]? := by
        refine (hgrow.block q.r (by simp; omega) (fun e => ?_)).trans (Below.heap_alloc _ _ _ xr5)
        have hrun := (unhide HB4).run
        obtain ⟨tp, E, F, hr, hEF⟩ := hrun
        have hcell := hr.cell
        exact row_tag (unhide HYS) hcell (by decide) e.symm
      have f12 : wy.cell? ⟨q.r, 12, none⟩ = some (.slice ka s.nk kc) := (World.cell?_of_block hgr).trans x12
      have f12z : wy.frozen? ⟨q.r, 12, none⟩ = false := (World.frozen?_of_block hgr).trans x12z
      have flt : q.r < wy.heap.size := lt_of_cell f12
      have hc6 := (unhide HB5).cells
      have v10 := hc6.a10
      simp only at v10
      clear hown hgrow hat hgr x12 x12z x10 HYS HKS HB4 g11 g11z glt hc6
      go_wp2
      go_returns
      exact ⟨rfl, _, _, unhide HB5⟩
end Go.Proofs.YtblomippkddgiaaGreatDoor
/-
  The statements' bind.
-/
namespace Go.Proofs.YtblomippkddgiaaGreatDoor
open Go.RowKit

def bindsG (G : R.Wd) (i : Nat) (u : List Int) : Nat → R.Wd
  | 0 => G
  | k + 1 => importedG (bindsG G i u k) i ((u[k]?).getD 0)
theorem binds_stand (G : R.Wd) (i : Nat) (u : List Int) (n : List UInt8) : ∀ k, standOf (bindsG G i u k) n = standOf G n
  | 0 => rfl
  | k + 1 => binds_stand G i u n k
theorem binds_kind (G : R.Wd) (i : Nat) (u : List Int) (n : Int) : ∀ k, kindOf (bindsG G i u k) n = kindOf G n
  | 0 => rfl
  | k + 1 => binds_kind G i u n k
theorem binds_len (G : R.Wd) (i : Nat) (u : List Int) : ∀ k, (bindsG G i u k).clients.length = G.clients.length
  | 0 => rfl
  | k + 1 => by
    show (importedG (bindsG G i u k) i _).clients.length = _
    rw [← binds_len G i u k]
    simp [importedG]

set_option maxRecDepth 100000 in
theorem cf39 : ∀ args w, (callFunc 62 args).run Tryz.prog w = .ok (.enter 62 args) w := fun _ _ => rfl

set_option maxRecDepth 100000 in
set_option maxHeartbeats 1000000 in
theorem bind_any (w0 : World) (q : RP) (p : Pl) (c : R.Cf) (s : RS) (G : R.Wd) (w : World) (i : Nat) (h : Both w0 q p c s G w) (hi : i < G.clients.length) (hul : s.uid.length = 3) (hst : ∀ k, k < 3 → ∃ u, s.uid[k]? = some u ∧ standOf G (nameL k) = some u ∧ kindOf G u = (k : Int)) :
    Calls Tryz.prog 29 #[ptr q.r, .int .i64 (i : Int)] w fun e w' => e = .returned (.bool true) ∧ Both w0 q p c s (bindsG G i s.uid 3) w' := by
  have HH := hide h
  have HST : Hid (∀ k, k < 3 → ∃ u, s.uid[k]? = some u ∧ standOf G (nameL k) = some u ∧ kindOf G u = (k : Int)) := hst
  have H39 : Hid (∀ k wr u, k < 3 → Both w0 q p c s (bindsG G i s.uid k) wr → s.uid[k]? = some u → standOf G (nameL k) = some u → kindOf G u = (k : Int) → Calls Tryz.prog 62 #[ptr q.x, .int .i64 (i : Int), .string (str (nameL k))] wr.drew fun e w' => e = .returned (.tuple #[.int .i64 u, .int .i64 (k : Int), .int .i64 0]) ∧ Both w0 q p c s (bindsG G i s.uid (k + 1)) w') := fun k wr u hk hB h1 h2 h3 => by
    have hd := hB.still (Below.refl wr.heap.size wr).drew
    obtain ⟨tp, E, F, hr, hw, hdj, hlo⟩ := hd.run
    rw [hB.x]
    have hlt : i < (bindsG G i s.uid k).clients.length := by rw [binds_len]; exact hi
    have := hw.import (name := nameL k) (uid := u) (List.getElem?_eq_getElem hlt) (by have := name_len k; omega) (by rw [binds_stand]; exact h2)
    rw [binds_kind, h3] at this
    refine this.mono ?_
    rintro e w' ⟨rfl, q1, q2⟩
    refine ⟨rfl, ?_⟩
    show Both w0 q p c s (importedG (bindsG G i s.uid k) i ((s.uid[k]?).getD 0)) w'
    rw [h1]
    exact hd.world hr hdj hlo q1 q2
  have hxx := h.cells.a0
  clear h hst
  go_enter Tryz.func29, Tryz.ntmps29
  go_wp2
  go_loopw [5] (fun kv wr => ∃ k : Nat, k ≤ 3 ∧ kv = .int .i64 k ∧ Both w0 q p c s (bindsG G i s.uid k) wr) (fun kv _ => 3 - (intOf kv).toNat)
  case atStart => exact ⟨0, by omega, rfl, unhide HH⟩
  case round =>
    obtain ⟨k, hk, rfl, hB⟩ := hrel
    by_cases hlt : k < 3
    · obtain ⟨u, u1, u2, u3⟩ := (unhide HST) k hlt
      have HC := hide ((unhide H39) k wr u hlt hB u1 u2 u3)
      have HNA := hide (name_any k hlt)
      have b0 := hB.cells.a0
      have hlr := hB.cells.ltr
      have hkn : (k : Int) < (s.uid.length : Int) := by omega
      have hkn2 : k < s.uid.length := by omega
      have U1 := hide u1
      clear hB u1 u2 u3 hxx
      generalize str (nameL k) = SN at *
      go_wp2
      go_region_law (first
        | (refine step_call rfl 61 #[.tmp 19] #[3] rfl cf37 #[.int .i64 (k : Int)] rfl _ ((unhide HNA) _) ?_; rintro e w1 ⟨rfl, hw1⟩; rw [hw1]; clear hw1; refine ⟨_, rfl, ?_⟩)
        | (refine step_call rfl 62 #[.tmp 17, .tmp 18, .tmp 20] #[34, 3, 9] rfl cf39 #[ptr q.x, .int .i64 (i : Int), .string SN] rfl _ (unhide HC) ?_; rintro e w2 ⟨rfl, hB2⟩; have HB2 := hide hB2; have c8 := hB2.cells.a8; have cu := hB2.cells.u k u (unhide U1); clear hB2; refine ⟨_, rfl, ?_⟩))
      all_goals
        go_wp2
        go_roundw
        case rel => exact ⟨k + 1, by omega, by go_num, unhide HB2⟩
        case measure => simp [intOf]; omega
    · obtain rfl : k = 3 := by omega
      go_wp2
      go_returns
      exact ⟨rfl, hB⟩
end Go.Proofs.YtblomippkddgiaaGreatDoor
/-
  The statements' begun: what it leaves, and its start.
-/
namespace Go.Proofs.YtblomippkddgiaaGreatDoor
open Go.RowKit

def expG (c : R.Cf) : Nat → R.Wd
  | 0 => newG c
  | k + 1 => exportedG (expG c k) (nameL k) k
def uidK (k : Nat) : List Int := [if 0 < k then 1 else 0, if 1 < k then 2 else 0, if 2 < k then 3 else 0]
theorem uidK_len (k : Nat) : (uidK k).length = 3 := rfl
theorem uidK_at {k : Nat} (h : k < 3) : (uidK k)[k]? = some 0 := by
  have h3 : k = 0 ∨ k = 1 ∨ k = 2 := by omega
  rcases h3 with rfl | rfl | rfl <;> rfl
theorem uidK_set {k : Nat} (h : k < 3) : (uidK k).set k ((k : Int) + 1) = uidK (k + 1) := by
  have h3 : k = 0 ∨ k = 1 ∨ k = 2 := by omega
  rcases h3 with rfl | rfl | rfl <;> rfl
theorem expG_names (c : R.Cf) : ∀ k, (expG c k).names = (List.range k).map nameL
  | 0 => rfl
  | k + 1 => by
    show (expG c k).names ++ [nameL k] = _
    rw [expG_names c k, List.range_succ, List.map_append]
    rfl
theorem expG_services (c : R.Cf) : ∀ k, (expG c k).services = (List.range k).map fun (i : Nat) => (⟨(i : Int), true, []⟩ : R.Sv)
  | 0 => rfl
  | k + 1 => by
    show (expG c k).services ++ [⟨(k : Int), true, []⟩] = _
    rw [expG_services c k, List.range_succ, List.map_append]
    rfl
theorem expG_stands (c : R.Cf) : ∀ k, (expG c k).stands = (List.range k).map fun (i : Nat) => (i : Int) + 1
  | 0 => rfl
  | k + 1 => by
    show (expG c k).stands ++ [((expG c k).services.length : Int) + 1] = _
    rw [expG_stands c k, expG_services, List.range_succ, List.map_append]
    simp
theorem expG_clients (c : R.Cf) : ∀ k, (expG c k).clients = (newG c).clients
  | 0 => rfl
  | k + 1 => expG_clients c k
theorem expG_new (c : R.Cf) {k : Nat} (h : k < 3) : ¬ nameL k ∈ (expG c k).names := by
  rw [expG_names]
  intro hm
  obtain ⟨i, hi, e⟩ := List.mem_map.1 hm
  have hik := List.mem_range.1 hi
  have := name_inj (by omega) h e
  omega
theorem expG_stand (c : R.Cf) {k : Nat} (h : k < 3) : standOf (expG c 3) (nameL k) = some ((k : Int) + 1) := by
  unfold standOf R.entryP
  rw [expG_names, expG_stands]
  have h3 : k = 0 ∨ k = 1 ∨ k = 2 := by omega
  rcases h3 with rfl | rfl | rfl <;> rfl
theorem expG_kind (c : R.Cf) {k : Nat} (h : k < 3) : kindOf (expG c 3) ((k : Int) + 1) = (k : Int) := by
  unfold kindOf
  rw [expG_services]
  have h3 : k = 0 ∨ k = 1 ∨ k = 2 := by omega
  rcases h3 with rfl | rfl | rfl <;> rfl
def bndG (c : R.Cf) : Nat → R.Wd
  | 0 => expG c 3
  | i + 1 => bindsG (bndG c i) i (uidK 3) 3
theorem bndG_stand (c : R.Cf) (n : List UInt8) : ∀ i, standOf (bndG c i) n = standOf (expG c 3) n
  | 0 => rfl
  | i + 1 => (binds_stand _ _ _ n 3).trans (bndG_stand c n i)
theorem bndG_kind (c : R.Cf) (n : Int) : ∀ i, kindOf (bndG c i) n = kindOf (expG c 3) n
  | 0 => rfl
  | i + 1 => (binds_kind _ _ _ n 3).trans (bndG_kind c n i)
theorem bndG_len (c : R.Cf) : ∀ i, (bndG c i).clients.length = (newG c).clients.length
  | 0 => by show (expG c 3).clients.length = _; rw [expG_clients]
  | i + 1 => (binds_len _ _ _ 3).trans (bndG_len c i)

theorem both_start {w0 W W4 : World} {p : Pl} {F : Foot} {c : R.Cf} {r lf sq ud : Nat} {N : Nat} (hw : LW p F (newG c) W) (hF : ∀ k, F k → w0.heap.size ≤ k) (hb0 : Below w0.heap.size w0 W) (ht : Tab0 W) (hp : 0 < w0.heap.size) (hb : Below W.heap.size W W4)
    (h1 : W4.heap[r]? = some (.cells (rcells ⟨r, p.x, lf, sq, ud⟩ c ⟨List.replicate N 0, List.replicate (3 * N) 0, uidK 0, 0, .slice none 0 0, .slice none 0 0, .slice none 0 0, 0, 0, 0⟩) 38 (0, 0)))
    (h2 : W4.heap[lf]? = some (.cells (ints (List.replicate N 0)).toArray 3 (0, 0))) (h3 : W4.heap[sq]? = some (.cells (ints (List.replicate (3 * N) 0)).toArray 3 (0, 0))) (h4 : W4.heap[ud]? = some (.cells (ints [0, 0, 0]).toArray 3 (0, 0)))
    (g1 : W.heap.size ≤ r) (g2 : W.heap.size ≤ lf) (g3 : W.heap.size ≤ sq) (g4 : W.heap.size ≤ ud) (n1 : lf ≠ sq) (n2 : lf ≠ ud) (n3 : sq ≠ ud) :
    Both w0 ⟨r, p.x, lf, sq, ud⟩ p c ⟨List.replicate N 0, List.replicate (3 * N) 0, uidK 0, 0, .slice none 0 0, .slice none 0 0, .slice none 0 0, 0, 0, 0⟩ (newG c) W4 := by
  have s0 := hb0.size
  have s1 := hb.size
  refine ⟨⟨p.t, fun k => W.heap.size ≤ k ∧ k < W4.heap.size, F, ⟨h1, h2, h3, h4, ⟨[], World.ownsRow_nil _ _ _ _⟩, ⟨[], World.ownsRow_nil _ _ _ _⟩, ⟨[], World.ownsRow_nil _ _ _ _⟩, by simp, ⟨⟨g1, lt_of_block h1⟩, ⟨g2, lt_of_block h2⟩, ⟨g3, lt_of_block h3⟩, ⟨g4, lt_of_block h4⟩⟩, fun j hj => ?_, ⟨n1, n2, n3⟩, ?_, ?_, (fun j hj => by cases hj), (fun k hk => hk.2)⟩, hw.below hb, fun k hk hf => ?_, fun k hk => ?_⟩, rfl, ht.below hb, hb0.trans (hb.mono s0), hp⟩
  · rcases hj with e | e | e <;> cases e
  · refine ⟨fun e => ?_, fun e => ?_, fun e => ?_⟩ <;> cases e
  · refine ⟨fun e => ?_, fun e => ?_, fun e => ?_⟩ <;> cases e
  · have := hw.lt k hf
    omega
  · rcases hk with hk | hk
    · omega
    · exact hF k hk

theorem three_at {W : World} {a b c d : Obj} : ((((W.alloc a).alloc b).alloc c).alloc d).drew.heap[W.heap.size]? = some a ∧ ((((W.alloc a).alloc b).alloc c).alloc d).drew.heap[W.heap.size + 1]? = some b ∧ ((((W.alloc a).alloc b).alloc c).alloc d).drew.heap[W.heap.size + 1 + 1]? = some c ∧ ((((W.alloc a).alloc b).alloc c).alloc d).drew.heap[W.heap.size + 1 + 1 + 1]? = some d ∧ Below W.heap.size W ((((W.alloc a).alloc b).alloc c).alloc d).drew := by
  have e1 : (W.alloc a).heap.size = W.heap.size + 1 := by simp
  have e2 : ((W.alloc a).alloc b).heap.size = W.heap.size + 1 + 1 := by simp
  have e3 : (((W.alloc a).alloc b).alloc c).heap.size = W.heap.size + 1 + 1 + 1 := by simp
  refine ⟨?_, ?_, ?_, ?_, ?_⟩
  · rw [drew_at, Below.heap_alloc _ _ _ (by omega), Below.heap_alloc _ _ _ (by omega), Below.heap_alloc _ _ _ (by omega)]
    exact new_last _ _ rfl
  · rw [drew_at, Below.heap_alloc _ _ _ (by omega), Below.heap_alloc _ _ _ (by omega)]
    exact new_last _ _ e1
  · rw [drew_at, Below.heap_alloc _ _ _ (by omega)]
    exact new_last _ _ e2
  · rw [drew_at]
    exact new_last _ _ e3
  · exact ((((Below.refl _ _).alloc (Nat.le_refl _) _).alloc (by omega) _).alloc (by omega) _ |>.alloc (by omega) _).drew

set_option maxRecDepth 100000 in
theorem ints_made (n : Nat) (hn : n = 1 ∨ n = 2 ∨ n = 3 ∨ n = 6 ∨ n = 9) (W : World) : (Instr.makeSlice 35 (.int .i64 (n : Int)) (.int .i64 (n : Int))).run Tryz.prog W = .ok (.slice (some ⟨W.heap.size, 0, none⟩) n n) (W.alloc (.cells (ints (List.replicate n 0)).toArray 3)) := by
  rcases hn with rfl | rfl | rfl | rfl | rfl
  · show _ = _
    kernel_rfl
  · show _ = _
    kernel_rfl
  · show _ = _
    kernel_rfl
  · show _ = _
    kernel_rfl
  · show _ = _
    kernel_rfl
end Go.Proofs.YtblomippkddgiaaGreatDoor
