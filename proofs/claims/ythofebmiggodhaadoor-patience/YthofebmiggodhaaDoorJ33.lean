/-
  Joined: Status Srv Srv2.
-/
import Derived.Test.YthofebmiggodhaaDoorJ32
/-
  Status: how a line is.
-/
namespace Go.Proofs.YthofebmiggodhaaDoor
open Go.RowKit

set_option maxRecDepth 100000 in
theorem clone_nil (w : World) : Calls Tryd.prog 49 #[.slice none 0 0] w fun e w' => e = .returned (.slice none 0 0) ∧ w' = w := by
  have hq : ∀ w, (binOp .eql 45 (.slice none 0 0) (.slice none 0 0)).run Tryd.prog w = .ok (.bool true) w := fun w => by kernel_rfl
  go_enter Tryd.func49, Tryd.ntmps49
  go_wp2
  go_returns
  exact ⟨rfl, rfl⟩

set_option maxRecDepth 100000 in
set_option maxHeartbeats 1000000 in
theorem status_walk (w : World) (cb lb nl k : Nat) (x : LLn) (hk : k < nl) (b3 : w.cell? ⟨cb, 3, none⟩ = some (.slice (some ⟨lb, 0, none⟩) nl nl)) (ha : LnAt w lb k x) :
    Calls Tryd.prog 30 #[ptr cb, .int .i64 (k : Int)] w fun e w' => e = .returned (.tuple #[.agg #[.int .i64 x.state, .int .i64 x.seq, .slice none 0 0], .int .i64 0]) ∧ Below w.heap.size w w' := by
  obtain ⟨st, sq, u, m, ac, wt, tr⟩ := x
  obtain ⟨a0, a1, a2, a3, a4, a5, a6, a7⟩ := ha
  simp only at a0 a1 a3 a4 a5 a6 a7
  generalize str m = SM at *
  have q1 : (0 : Int) ≤ (k : Int) := by omega
  have q2 : (k : Int) < (nl : Int) := by omega
  have hl1 := lt_of_cell b3
  have hl2 := lt_of_cell a0
  simp only
  obtain ⟨BX, hBX⟩ : ∃ BX, (w.alloc (.cells #[.int .i64 0, .int .i64 0, .slice none 0 0] 47)).alloc (.cells #[.int .i64 st, .int .i64 sq, .slice none 0 0, .int .i64 u, .string SM, .int .i64 ac, .int .i64 wt, .int .i64 tr] 108) = BX := ⟨_, rfl⟩
  have HB : Hid (Below w.heap.size w BX) := by
    rw [← hBX]
    exact ((Below.refl _ _).alloc (Nat.le_refl _) _).alloc (by simp) _
  have hbx : BX.heap[w.heap.size + 1]? = some (.cells #[.int .i64 st, .int .i64 sq, .slice none 0 0, .int .i64 u, .string SM, .int .i64 ac, .int .i64 wt, .int .i64 tr] 108 (0, 0)) := by
    rw [← hBX]
    have := heap_alloc_new (w.alloc (.cells #[.int .i64 0, .int .i64 0, .slice none 0 0] 47)) (.cells #[.int .i64 st, .int .i64 sq, .slice none 0 0, .int .i64 u, .string SM, .int .i64 ac, .int .i64 wt, .int .i64 tr] 108)
    simpa using this
  have hby : BX.heap[w.heap.size]? = some (.cells #[.int .i64 0, .int .i64 0, .slice none 0 0] 47 (0, 0)) := by
    rw [← hBX]
    exact (Below.heap_alloc _ _ _ (by simp)).trans (heap_alloc_new w _)
  have c0 : BX.cell? ⟨w.heap.size + 1, 0, none⟩ = some (.int .i64 st) := cell_of hbx 0 _ rfl
  have c1 : BX.cell? ⟨w.heap.size + 1, 1, none⟩ = some (.int .i64 sq) := cell_of hbx 1 _ rfl
  have c2 : BX.cell? ⟨w.heap.size + 1, 2, none⟩ = some (.slice none 0 0) := cell_of hbx 2 _ rfl
  have d0 : BX.cell? ⟨w.heap.size, 0, none⟩ = some (.int .i64 0) := cell_of hby 0 _ rfl
  have d1 : BX.cell? ⟨w.heap.size, 1, none⟩ = some (.int .i64 0) := cell_of hby 1 _ rfl
  have d2 : BX.cell? ⟨w.heap.size, 2, none⟩ = some (.slice none 0 0) := cell_of hby 2 _ rfl
  have z0 : BX.frozen? ⟨w.heap.size, 0, none⟩ = false := open_list hby
  have z1 : BX.frozen? ⟨w.heap.size, 1, none⟩ = false := open_list hby
  have z2 : BX.frozen? ⟨w.heap.size, 2, none⟩ = false := open_list hby
  have HBX := hide hBX
  have hs : BX.heap.size = w.heap.size + 2 := by rw [← hBX]; simp
  have m0 : w.heap.size < BX.heap.size := by omega
  have m1 : w.heap.size + 1 < BX.heap.size := by omega
  have HW : Hid (∀ W, Below w.heap.size w W → Below w.heap.size w (((W.setCell ⟨w.heap.size, 0, none⟩ (.int .i64 st)).setCell ⟨w.heap.size, 1, none⟩ (.int .i64 sq)).setCell ⟨w.heap.size, 2, none⟩ (.slice none 0 0))) := fun W hW => ((hW.setCell (by simp) _).setCell (by simp) _).setCell (by simp) _
  clear hBX hbx hby hs
  go_enter Tryd.func30, Tryd.ntmps30
  go_wp2_with (first | (go_at_call 48; go_in))
  rw [unhide HBX]
  go_region_held3 (fun w' => w'.cell? ⟨w.heap.size + 1, 0, none⟩ = some (.int .i64 st) ∧ w'.cell? ⟨w.heap.size + 1, 1, none⟩ = some (.int .i64 sq) ∧ w'.cell? ⟨w.heap.size + 1, 2, none⟩ = some (.slice none 0 0)) (go_keep) ((go_at_call 49; refine (clone_nil _).mono ?_; rintro e w1 ⟨rfl, hw1⟩; rw [hw1]; clear hw1))
  go_wp2
  exact bodyPost_ret (v := .tuple #[.agg #[.int .i64 st, .int .i64 sq, .slice none 0 0], .int .i64 0]) (by simp [results, Tryd.results30, go_sem, d0, d1, d2]) rfl ⟨rfl, ((unhide HW) _ (unhide HB)).drew⟩

set_option maxRecDepth 100000 in
set_option maxHeartbeats 1000000 in
theorem status_face (w : World) (x cs n cap cb i : Nat) (ln st sq er : Int) (hx : w.cell? ⟨x, 2, none⟩ = some (.slice (some ⟨cs, 0, none⟩) n cap)) (hi : i < n) (hcs : w.cell? ⟨cs, i, none⟩ = some (ptr cb))
    (H30 : Hid (∀ w', Below w.heap.size w w' → Calls Tryd.prog 30 #[ptr cb, .int .i64 ln] w' fun e w'' => e = .returned (.tuple #[.agg #[.int .i64 st, .int .i64 sq, .slice none 0 0], .int .i64 er]) ∧ Below w'.heap.size w' w'')) :
    Calls Tryd.prog 15 #[ptr x, .int .i64 (i : Int), .int .i64 ln] w fun e w' => e = .returned (.tuple #[.agg #[.int .i64 st, .int .i64 sq, .slice none 0 0], .int .i64 er]) ∧ Below w.heap.size w w' := by
  have q1 : (0 : Int) ≤ (i : Int) := by omega
  have q2 : (i : Int) < (n : Int) := by omega
  have hl1 := lt_of_cell hx
  have hl2 := lt_of_cell hcs
  have HB : Hid (Below w.heap.size w (w.alloc (.cells #[.int .i64 0, .int .i64 0, .slice none 0 0] 47))) := (Below.refl _ _).alloc (Nat.le_refl _) _
  have HC := hide ((unhide H30) _ (unhide HB))
  clear H30
  go_enter Tryd.func15, Tryd.ntmps15
  go_wp2_with (first | (go_at_call 29; go_in))
  refine (unhide HC).mono ?_
  rintro e w1 ⟨rfl, hb⟩
  have hs := hb.size
  simp at hs
  have hby : w1.heap[w.heap.size]? = some (.cells #[.int .i64 0, .int .i64 0, .slice none 0 0] 47 (0, 0)) := (hb.block _ (by simp)).trans (heap_alloc_new w _)
  have d0 : w1.cell? ⟨w.heap.size, 0, none⟩ = some (.int .i64 0) := cell_of hby 0 _ rfl
  have d1 : w1.cell? ⟨w.heap.size, 1, none⟩ = some (.int .i64 0) := cell_of hby 1 _ rfl
  have d2 : w1.cell? ⟨w.heap.size, 2, none⟩ = some (.slice none 0 0) := cell_of hby 2 _ rfl
  have z0 : w1.frozen? ⟨w.heap.size, 0, none⟩ = false := open_list hby
  have z1 : w1.frozen? ⟨w.heap.size, 1, none⟩ = false := open_list hby
  have z2 : w1.frozen? ⟨w.heap.size, 2, none⟩ = false := open_list hby
  have HW := hide (((((unhide HB).trans (hb.mono (by simp))).setCell (p := ⟨w.heap.size, 0, none⟩) (by simp) (.int .i64 st)).setCell (p := ⟨w.heap.size, 1, none⟩) (by simp) (.int .i64 sq)).setCell (p := ⟨w.heap.size, 2, none⟩) (by simp) (.slice none 0 0))
  clear hb hby
  have m0 : w.heap.size < w1.heap.size := by omega
  go_wp2
  exact bodyPost_ret (v := .tuple #[.agg #[.int .i64 st, .int .i64 sq, .slice none 0 0], .int .i64 er]) (by simp [results, Tryd.results15, go_sem, d0, d1, d2]) rfl ⟨rfl, unhide HW⟩

theorem LW.status {p : Pl} {F : Foot} {G : R.Wd} {w : World} (h : LW p F G w) {i k : Nat} {c : R.Cl} {l : R.Ln} (hc : G.clients[i]? = some c) (hl : c.lines[k]? = some l) :
    Calls Tryd.prog 15 #[ptr p.x, .int .i64 (i : Int), .int .i64 (k : Int)] w fun e w' => e = .returned (.tuple #[.agg #[.int .i64 l.state, .int .i64 l.seq, .slice none 0 0], .int .i64 0]) ∧ Below w.heap.size w w' := by
  have hi := (List.getElem?_eq_some_iff.1 hc).1
  have hk := (List.getElem?_eq_some_iff.1 hl).1
  refine status_face w p.x p.cs G.clients.length p.cap (p.cb i) i k l.state l.seq 0 (cell_of h.bx 2 _ rfl) hi (h.csAt hi) ?_
  intro w' hb
  have h' := h.below hb
  obtain ⟨xs, x, hL, hR, hx, hx1, hla⟩ := h'.line hc hl
  have := status_walk w' (p.cb i) (p.lb i) c.lines.length k x hk (clAt h' hc).a3 hla
  rw [hx1.state, hx1.seq] at this
  exact this
end Go.Proofs.YthofebmiggodhaaDoor
/-
  The landed server: is it a name; a service begins.
-/
namespace Go.Proofs.YthofebmiggodhaaDoor
open Go.RowKit

theorem info135 : (Tryd.prog.info? 135).map (fun i => (i.zero, i.size, i.bytes)) = some (some (.agg #[.int .i64 0, .bool false]), 2, 16) := by kernel_rfl

theorem named_at {s : List UInt8} (h : R.namedP s = true) (i : Nat) (hi : i < (str s).size) : 97 ≤ (((str s)[i]'hi).toNat : Int) ∧ (((str s)[i]'hi).toNat : Int) ≤ 122 := by
  unfold R.namedP at h
  simp only [Bool.and_eq_true, decide_eq_true_eq, List.all_eq_true] at h
  have hg := str_get s i hi
  have := h.2 _ (List.mem_of_getElem? hg)
  omega

set_option maxRecDepth 100000 in
set_option maxHeartbeats 1000000 in
theorem isName_yes (s : List UInt8) (h : R.namedP s = true) (w : World) : Calls Tryd.prog 68 #[.string (str s)] w fun e w' => e = .returned (.bool true) ∧ w' = w := by
  have HA := hide (named_at h)
  have hz : (str s).size = s.length := str_size s
  have hl : 1 ≤ (str s).size ∧ (str s).size ≤ 8 := by
    unfold R.namedP at h
    simp only [Bool.and_eq_true, decide_eq_true_eq] at h
    omega
  generalize str s = S at *
  clear h hz
  obtain ⟨n, hn⟩ : ∃ n, S.size = n := ⟨_, rfl⟩
  rw [hn] at hl
  go_enter Tryd.func68, Tryd.ntmps68
  go_wp2
  go_loopw [14] (fun iv wr => ∃ i : Nat, i ≤ n ∧ iv = .int .i64 i ∧ wr = w) (fun iv _ => n - (intOf iv).toNat)
  case atStart => exact ⟨0, Nat.zero_le _, rfl, rfl⟩
  case round =>
    obtain ⟨i, hi, rfl, rfl⟩ := hrel
    by_cases hlt : i < n
    · have hq := (unhide HA) i (by omega)
      obtain ⟨h1, h2⟩ := hq
      go_wp2
      exact ⟨⟨i + 1, by omega, by go_num, trivial⟩, by simp [intOf]; omega⟩
    · obtain rfl : i = n := by omega
      go_wp2
      go_returns
      exact ⟨rfl, rfl⟩

theorem one_made (w : World) (kind : Int) (j : Nat) (u : Value) (h : ([.int .i64 kind, .bool true] : List Value)[j]? = some u) : (w.alloc (.cells #[.int .i64 kind, .bool true] 135)).cell? ((⟨w.heap.size, 0, none⟩ : Addr).add j) = some u := by
  rw [Addr.add_lit, Nat.zero_add, World.cell?_alloc_new w _ _ j, ← List.getElem?_toArray] at *
  exact h

/- a service begins -/
structure SrvPost (w : World) (s nm : Nat) (K : Value) (sv : List R.Sv) (w' : World) : Prop where
  cell : ∃ K', w'.heap[s]? = some (.cells #[.map (some nm), K'] 114 (0, 0)) ∧ w'.ownsRow 0 135 2 K' sv.length (tab mcells sv) ∧ (K'.ownBlock = K.ownBlock ∨ ∃ j, K'.ownBlock = some j ∧ w.heap.size ≤ j)
  keeps : Keeps (fun k => k = s ∨ K.ownBlock = some k) w w'

set_option maxRecDepth 100000 in
set_option maxHeartbeats 1000000 in
theorem made_any (w : World) (s nm : Nat) (a : Option Addr) (c : Nat) (kind : Int) (sv : List R.Sv) (h : w.heap[s]? = some (.cells #[.map (some nm), .slice a sv.length c] 114 (0, 0))) (hrow : w.ownsRow 0 135 2 (.slice a sv.length c) sv.length (tab mcells sv)) (hn : sv.length ≤ 300) :
    Calls Tryd.prog 70 #[ptr s, .int .i64 kind] w fun e w' => e = .returned (.int .i64 ((sv.length : Int) + 1)) ∧ SrvPost w s nm (.slice a sv.length c) (sv ++ [⟨kind, true, []⟩]) w' := by
  have hOn : (Value.slice a sv.length c).ownBlock ≠ some s := row_tag hrow h (by decide)
  obtain ⟨m, hm⟩ : ∃ m, m = sv.length := ⟨_, rfl⟩
  have HEND : Hid (∀ w' K', w'.ownsRow 0 135 2 K' (m + 1) (tab mcells sv ++ [.int .i64 kind, .bool true]) → w'.heap[s]? = some (.cells #[.map (some nm), K'] 114 (0, 0)) → (K'.ownBlock = (Value.slice a m c).ownBlock ∨ ∃ j, K'.ownBlock = some j ∧ w.heap.size ≤ j) → Keeps (fun k => k = s ∨ (Value.slice a m c).ownBlock = some k) w w' → SrvPost w s nm (.slice a m c) (sv ++ [⟨kind, true, []⟩]) w') := fun w' K' h1 h2 h3 h4 => by
    refine ⟨⟨K', h2, ?_, h3⟩, h4⟩
    rw [tab_snoc, List.length_append, ← hm]
    exact h1
  rw [← hm] at h hrow hOn hn ⊢
  generalize SrvPost w s nm (.slice a m c) (sv ++ [⟨kind, true, []⟩]) = Post at *
  generalize tab mcells sv = TF at *
  clear hm
  have c0 : w.cell? ⟨s, 0, none⟩ = some (.map (some nm)) := cell_of h 0 _ rfl
  have c1 : w.cell? ⟨s, 1, none⟩ = some (.slice a m c) := cell_of h 1 _ rfl
  have hl := lt_of_block h
  obtain ⟨i0, hi, hz0, hz1, hz2⟩ := info_parts info135
  have HRW := hide hrow
  have H0 := hide h
  have HON := hide hOn
  clear h hrow hOn
  go_enter Tryd.func70, Tryd.ntmps70
  go_wp2_with (at_builtin; go_must (refine wpList_append_own_at _ rfl (.tmp 9) (.tmp 12) 112 rfl 0 135 i0 (.agg #[.int .i64 0, .bool false]) 2 16 Tryd.underlying112 hi hz0 hz1 hz2 rfl (by decide) (.slice a m c) m TF rfl (by exact (unhide HRW).alloc _) ⟨w.heap.size, 0, none⟩ 1 1 [.int .i64 kind, .bool true] rfl rfl (by exact one_made w kind) (by simp [Value.oneCell']) (by unfold maxLen; omega) (by omega) (by simp) ?_))
  intro v' wz hown hgrow _ hat
  obtain ⟨va, vn, vc, hvs⟩ := row_shape hown
  subst hvs
  obtain rfl : vn = m + 1 := by
    rcases hown.2 with ⟨hv, h0⟩ | ⟨g, cap, cur, hv, _⟩
    · cases hv
      omega
    · cases hv
      rfl
  have hgs : wz.heap[s]? = w.heap[s]? := (hgrow.block s (by simp; omega) (fun e => (unhide HON) e.symm)).trans (Below.heap_alloc _ _ _ hl)
  have g1 : wz.cell? ⟨s, 1, none⟩ = some (.slice a m c) := (World.cell?_of_block hgs).trans c1
  have gz : wz.frozen? ⟨s, 1, none⟩ = false := open_list (hgs.trans (unhide H0))
  have hlz : s < wz.heap.size := lt_of_cell g1
  have hne : (Value.slice va (m + 1) vc).ownBlock ≠ some s := by
    rcases hat with e | e
    · rw [e]; exact unhide HON
    · rw [e]
      intro q
      simp at q
      omega
  have HP : Hid (Post (wz.setCell ⟨s, 1, none⟩ (.slice va (m + 1) vc))) := by
    refine (unhide HEND) _ (.slice va (m + 1) vc) (row_keep hown (fun g hg => ?_)) ?_ ?_ ?_
    · exact Below.heap_setCell _ _ _ _ (fun e => hne (by rw [hg]; exact congrArg some e))
    · exact heap_store (cs := [.map (some nm), .slice a m c]) (off := 1) (hgs.trans (unhide H0)) _
    · rcases hat with e | e
      · exact Or.inl e
      · exact Or.inr ⟨_, e, by simp⟩
    · have hK : Keeps (fun k => k = s ∨ (Value.slice a m c).ownBlock = some k) w wz := ((Keeps.refl _ w).alloc _).grown hgrow (fun k hk => Or.inl (Or.inr hk))
      exact hK.setCell (p := ⟨s, 1, none⟩) (Or.inl (Or.inl rfl)) _
  clear hown hgrow hat hgs hne HEND
  go_wp2
  go_returns
  refine ⟨?_, unhide HP⟩
  rfl
end Go.Proofs.YthofebmiggodhaaDoor
/-
  The landed server: a new name is exported.
-/
namespace Go.Proofs.YthofebmiggodhaaDoor
open Go.RowKit

set_option maxRecDepth 100000 in
theorem cf71 : ∀ args w, (callFunc 71 args).run Tryd.prog w = .ok (.enter 71 args) w := fun _ _ => rfl

set_option maxRecDepth 100000 in
set_option maxHeartbeats 1000000 in
theorem export_walk (w : World) (s nm m c nn : Nat) (a : Option Addr) (name : List UInt8) (kind u : Int) (A C : World → Prop) (hnm : R.namedP name = true) (hk : 0 ≤ kind ∧ kind ≤ 2) (c0 : w.cell? ⟨s, 0, none⟩ = some (.map (some nm))) (c1 : w.cell? ⟨s, 1, none⟩ = some (.slice a m c)) (hm : m < 255) (hnn : nn < 6)
    (hlook : (Instr.lookup 111 (.map (some nm)) (.string (str name)) true).run Tryd.prog w = .ok (.tuple #[.int .i64 0, .bool false]) w)
    (hlen : (Builtin.len_ #[111] 3 #[.map (some nm)]).run Tryd.prog w = .ok (.int .i64 (nn : Int)) w)
    (H70 : Hid (Calls Tryd.prog 70 #[ptr s, .int .i64 kind] w fun e w' => e = .returned (.int .i64 u) ∧ A w'))
    (HA : Hid (∀ w', A w' → w'.cell? ⟨s, 0, none⟩ = some (.map (some nm))))
    (HPUT : Hid (∀ w1 w2, A w1 → Below w1.heap.size w1 w2 → ∃ w3, (Instr.mapUpdate 111 (.map (some nm)) (.string (str name)) (.int .i64 u)).run Tryd.prog w2 = .ok () w3 ∧ C w3)) :
    Calls Tryd.prog 51 #[ptr s, .string (str name), .int .i64 kind] w fun e w' => e = .returned (.tuple #[.int .i64 u, .int .i64 0]) ∧ C w' := by
  have H68 := hide (fun w => isName_yes name hnm w)
  have hl8 : name.length ≤ 1000 := by
    unfold R.namedP at hnm
    simp only [Bool.and_eq_true, decide_eq_true_eq] at hnm
    omega
  have H71 := hide (fun w => clone_any name w hl8)
  have H32 : Hid (∀ w, Calls Tryd.prog 32 #[.int .i64 kind] w fun e w' => e = .returned (.bool true) ∧ w' = w) := fun w => by
    refine (isKind_any kind w).mono ?_
    rintro e w' ⟨rfl, rfl⟩
    refine ⟨?_, rfl⟩
    have : (kind == 0 || kind == 1 || kind == 2) = true := by simp; omega
    rw [this]
  have e1 : ((nn : Int) == 6) = false := by simp; omega
  have e2 : ((m : Int) == 255) = false := by simp; omega
  generalize str name = SN at *
  clear hnm hm hnn hl8
  go_enter Tryd.func51, Tryd.ntmps51
  go_wp2_with (first | (go_at_call 68; refine ((unhide H68) _).mono ?_; rintro e w' ⟨rfl, hw'⟩; rw [hw']; clear hw') | (go_at_call 32; refine ((unhide H32) _).mono ?_; rintro e w' ⟨rfl, hw'⟩; rw [hw']; clear hw'))
  refine (unhide H70).mono ?_
  rintro e w1 ⟨rfl, hA⟩
  have d0 := (unhide HA) w1 hA
  have hl1 := lt_of_cell d0
  have HA1 := hide hA
  clear hA hlook hlen c0 c1
  go_wp2
  go_region_law (refine step_call rfl 71 #[.tmp 53] #[9] rfl cf71 #[.string SN] rfl _ ((unhide H71) _) ?_; rintro e w2 ⟨rfl, hb⟩; have f0 : w2.cell? ⟨s, 0, none⟩ = some (.map (some nm)) := (hb.cell (p := ⟨s, 0, none⟩) hl1).trans d0; have hput := (unhide HPUT) w1 w2 (unhide HA1) (undrew hb); obtain ⟨w3, hrun, hC⟩ := hput; have HC := hide hC; clear hC hb; refine ⟨_, rfl, ?_⟩)
  all_goals
    go_wp2
    go_returns
    exact ⟨rfl, unhide HC⟩
end Go.Proofs.YthofebmiggodhaaDoor
