/-
  Joined: SExp.
-/
import Derived.Test.YtblomippkddgiaaGreatDoorJ50
/-
  A world's Export of a new name.
-/
namespace Go.Proofs.YtblomippkddgiaaGreatDoor
open Go.RowKit

theorem named_at {s : List UInt8} (h : R.namedP s = true) (i : Nat) (hi : i < (str s).size) : 97 ≤ (((str s)[i]'hi).toNat : Int) ∧ (((str s)[i]'hi).toNat : Int) ≤ 122 := by
  unfold R.namedP at h
  simp only [Bool.and_eq_true, decide_eq_true_eq, List.all_eq_true] at h
  have hg := str_get s i hi
  have := h.2 _ (List.mem_of_getElem? hg)
  omega

set_option maxRecDepth 100000 in
set_option maxHeartbeats 1000000 in
theorem isName_yes (s : List UInt8) (h : R.namedP s = true) (w : World) : Calls Tryz.prog 181 #[.string (str s)] w fun e w' => e = .returned (.bool true) ∧ w' = w := by
  have HA := hide (named_at h)
  have hz : (str s).size = s.length := str_size s
  have hl : 1 ≤ (str s).size ∧ (str s).size ≤ 8 := by
    unfold R.namedP at h
    simp only [Bool.and_eq_true, decide_eq_true_eq] at h
    omega
  generalize str s = S at *
  clear h hz
  obtain ⟨n, hn⟩ : ∃ n, S.size = n := ⟨_, rfl⟩
  rw [hn] at hl
  go_enter Tryz.func181, Tryz.ntmps181
  go_wp2
  go_loopw [14] (fun iv wr => ∃ i : Nat, i ≤ n ∧ iv = .int .i64 i ∧ wr = w) (fun iv _ => n - (intOf iv).toNat)
  case atStart => exact ⟨0, Nat.zero_le _, rfl, rfl⟩
  case round =>
    obtain ⟨i, hi, rfl, rfl⟩ := hrel
    by_cases hlt : i < n
    · have hq := (unhide HA) i (by omega)
      obtain ⟨h1, h2⟩ := hq
      go_wp2
      exact ⟨⟨i + 1, by omega, by go_num, trivial⟩, by simp [intOf]; omega⟩
    · obtain rfl : i = n := by omega
      go_wp2
      go_returns
      exact ⟨rfl, rfl⟩

set_option maxRecDepth 100000 in
theorem cf71 : ∀ args w, (callFunc 184 args).run Tryz.prog w = .ok (.enter 184 args) w := fun _ _ => rfl

set_option maxRecDepth 100000 in
set_option maxHeartbeats 1000000 in
theorem export_walk (w : World) (s nm m c nn : Nat) (a : Option Addr) (name : List UInt8) (kind u : Int) (A C : World → Prop) (hnm : R.namedP name = true) (hk : 0 ≤ kind ∧ kind ≤ 2) (c5 : w.cell? ⟨s, 5, none⟩ = some (.map (some nm))) (c6 : w.cell? ⟨s, 6, none⟩ = some (.slice a m c)) (hm : m < 255) (hnn : nn < 6)
    (hlook : (Instr.lookup 159 (.map (some nm)) (.string (str name)) true).run Tryz.prog w = .ok (.tuple #[.int .i64 0, .bool false]) w)
    (hlen : (Builtin.len_ #[159] 3 #[.map (some nm)]).run Tryz.prog w = .ok (.int .i64 (nn : Int)) w)
    (H70 : Hid (Calls Tryz.prog 183 #[ptr s, .int .i64 kind] w fun e w' => e = .returned (.int .i64 u) ∧ A w'))
    (HA : Hid (∀ w', A w' → w'.cell? ⟨s, 5, none⟩ = some (.map (some nm))))
    (HPUT : Hid (∀ w1 w2, A w1 → Below w1.heap.size w1 w2 → ∃ w3, (Instr.mapUpdate 159 (.map (some nm)) (.string (str name)) (.int .i64 u)).run Tryz.prog w2 = .ok () w3 ∧ C w3)) :
    Calls Tryz.prog 106 #[ptr s, .string (str name), .int .i64 kind] w fun e w' => e = .returned (.tuple #[.int .i64 u, .int .i64 0]) ∧ C w' := by
  have H68 := hide (fun w => isName_yes name hnm w)
  have hl8 : name.length ≤ 1000 := by
    unfold R.namedP at hnm
    simp only [Bool.and_eq_true, decide_eq_true_eq] at hnm
    omega
  have H71 := hide (fun w => clone_any name w hl8)
  have H32 : Hid (∀ w, Calls Tryz.prog 124 #[.int .i64 kind] w fun e w' => e = .returned (.bool true) ∧ w' = w) := fun w => by
    refine (isKind_any kind w).mono ?_
    rintro e w' ⟨rfl, rfl⟩
    refine ⟨?_, rfl⟩
    have : (kind == 0 || kind == 1 || kind == 2) = true := by simp; omega
    rw [this]
  have e1 : ((nn : Int) == 6) = false := by simp; omega
  have e2 : ((m : Int) == 255) = false := by simp; omega
  generalize str name = SN at *
  clear hnm hm hnn hl8
  go_enter Tryz.func106, Tryz.ntmps106
  go_wp2_with (first | (go_at_call 181; refine ((unhide H68) _).mono ?_; rintro e w' ⟨rfl, hw'⟩; rw [hw']; clear hw') | (go_at_call 124; refine ((unhide H32) _).mono ?_; rintro e w' ⟨rfl, hw'⟩; rw [hw']; clear hw'))
  refine (unhide H70).mono ?_
  rintro e w1 ⟨rfl, hA⟩
  have d0 := (unhide HA) w1 hA
  have hl1 := lt_of_cell d0
  have HA1 := hide hA
  clear hA hlook hlen c5 c6
  go_wp2
  go_region_law (refine step_call rfl 184 #[.tmp 53] #[9] rfl cf71 #[.string SN] rfl _ ((unhide H71) _) ?_; rintro e w2 ⟨rfl, hb⟩; have f0 : w2.cell? ⟨s, 5, none⟩ = some (.map (some nm)) := (hb.cell (p := ⟨s, 5, none⟩) hl1).trans d0; have hput := (unhide HPUT) w1 w2 (unhide HA1) (undrew hb); obtain ⟨w3, hrun, hC⟩ := hput; have HC := hide hC; clear hC hb; refine ⟨_, rfl, ?_⟩)
  all_goals
    go_wp2
    go_returns
    exact ⟨rfl, unhide HC⟩
/- a new name -/
def exportedG (G : R.Wd) (name : List UInt8) (kind : Int) : R.Wd := { G with names := G.names ++ [name], stands := G.stands ++ [(G.services.length : Int) + 1], services := G.services ++ [⟨kind, true, []⟩] }
theorem exported_wf {G : R.Wd} (h : R.Wf G) {name : List UInt8} {kind : Int} (hn : ¬ name ∈ G.names) (h6 : G.names.length < 6) (h255 : G.services.length < 255) (hk : 0 ≤ kind ∧ kind ≤ 2) : R.Wf (exportedG G name kind) := by
  refine ⟨h.cf, h.ncl, fun i c hc => ?_, h.fly, h.flys, by simp [exportedG]; omega, fun s hs => ?_, by simp [exportedG]; omega, by simp [exportedG, h.st], ?_, fun u hu => ?_⟩
  · have h0 := h.cl i c hc
    refine ⟨h0.lines, h0.life, fun u hu => ?_, h0.line⟩
    have := h0.bound u hu
    simp [exportedG]
    omega
  · rcases List.mem_append.1 hs with hs | hs
    · exact h.svk s hs
    · simp only [List.mem_singleton] at hs
      subst hs
      exact hk
  · show (G.names ++ [name]).Nodup
    rw [List.nodup_append]
    refine ⟨h.nd, by simp, fun a ha b hb e => ?_⟩
    simp only [List.mem_singleton] at hb
    subst hb
    exact hn (e ▸ ha)
  · rcases List.mem_append.1 hu with hu | hu
    · have := h.sts u hu
      simp [exportedG]
      omega
    · simp only [List.mem_singleton] at hu
      subst hu
      simp [exportedG]
      omega
theorem stand_none {G : R.Wd} {name : List UInt8} (hn : ¬ name ∈ G.names) : standOf G name = none := by
  unfold standOf R.entryP
  rw [List.findIdx?_eq_none_iff.2 (fun x hx => by simp; exact fun e => hn (e ▸ hx))]
  rfl
theorem stand_exported {G : R.Wd} (hst : G.stands.length = G.names.length) {name : List UInt8} {kind : Int} (hn : ¬ name ∈ G.names) (x : List UInt8) : (x = name → standOf (exportedG G name kind) x = some ((G.services.length : Int) + 1)) ∧ (¬ x = name → standOf (exportedG G name kind) x = standOf G x) := by
  unfold standOf R.entryP exportedG
  simp only [List.findIdx?_append]
  constructor
  · rintro rfl
    rw [List.findIdx?_eq_none_iff.2 (fun y hy => by simp; exact fun e => hn (e ▸ hy))]
    simp [List.findIdx?_cons, hst]
  · intro hx
    cases hf : G.names.findIdx? (· == x) with
    | some k =>
      have hk := (List.findIdx?_eq_some_iff_getElem.1 hf).1
      simp [List.getElem?_append_left (show k < G.stands.length by omega)]
    | none =>
      have : (name == x) = false := by simpa using fun e => hx e.symm
      simp [List.findIdx?_cons, this]
theorem kind_exported {G : R.Wd} {name : List UInt8} {kind : Int} {u : Int} (hu : 1 ≤ u ∧ u ≤ (G.services.length : Int)) : kindOf (exportedG G name kind) u = kindOf G u := by
  unfold kindOf exportedG
  simp only
  rw [List.getElem?_append_left (by omega)]


theorem Works.foot {w : World} {F : Foot} {l : List R.En} {b : Nat} {K : Value} {k : Int} {W : Value} (h : Works w F l b K k W) : F b := by
  cases h <;> assumption
theorem Works.wide {w : World} {F F' : Foot} {l : List R.En} {b : Nat} {K : Value} {k : Int} {W : Value} (h : Works w F l b K k W) (hF : ∀ k, F k → F' k) : Works w F' l b K k W := h.keep (Keeps.refl (fun _ => False) w) (fun _ _ _ _ _ _ _ q => q) hF
def newZ (kind : Int) (b : Nat) : R.Sv × MV := (⟨kind, true, []⟩, ⟨.iface (freshT kind) (ptr b), .slice none 0 0, b, .slice none 0 0⟩)
theorem snoc_get {α : Type} {l : List α} {i : Nat} {x y : α} (h : (l ++ [x])[i]? = some y) : l[i]? = some y ∨ (i = l.length ∧ y = x) := by
  rcases Nat.lt_trichotomy i l.length with q | q | q
  · rw [List.getElem?_append_left q] at h
    exact Or.inl h
  · subst q
    simp at h
    exact Or.inr ⟨rfl, h.symm⟩
  · rw [List.getElem?_append_right (by omega), List.getElem?_singleton, if_neg (by omega)] at h
    cases h
theorem SrvAt.begun {s n nm : Nat} {t : SP} {F : Foot} {c : R.Cf} {sv : List R.Sv} {lives : List Int} {seen : List R.Sn} {jobs : List R.Jb} {w w' : World} {kind : Int} {K' : Value} (h : SrvAt s n nm t F c sv lives seen jobs w) (hlt : ∀ k, F k → k < w.heap.size) (hb : Began w s (scells n nm t c lives seen) t.K t.zs.length (tab mcells t.zs) kind K' w') : SrvAt s n nm { t with K := K', zs := t.zs ++ [newZ kind w.heap.size] } (fun k => F k ∨ k = w.heap.size ∨ K'.ownBlock = some k) c (sv ++ [⟨kind, true, []⟩]) lives seen jobs w' := by
  obtain ⟨f1, f2, f3⟩ := h.foot
  obtain ⟨b1, b2, b3, b4, hk⟩ := hb
  have hav : AvT w F (fun k => k = s ∨ t.K.ownBlock = some k) := fun b cur t' z' _ ht hbl hE => by
    rcases hE with rfl | e
    · rw [h.bs] at hbl
      cases hbl
      cases ht
    · rcases id h.made.2 with ⟨q, _⟩ | ⟨g, cap, cur', q, _, hg, _⟩
      · rw [q] at e; cases e
      · rw [q] at e
        cases e
        rw [hg] at hbl
        cases hbl
        cases ht
  have alive : ∀ {i : Nat} {z : R.Sv × MV}, t.zs[i]? = some z → z.1.alive = true → z.2.sb < w.heap.size := fun hz ha => by
    have := (h.each _ (List.mem_of_getElem? hz)).wk
    rw [if_pos ha] at this
    exact hlt _ this.foot
  refine ⟨b1, ?_, ?_, fun z hz => ?_, fun i j z y hz hy hij k hk1 => ?_, fun i j z y hz hy hij ha1 ha2 => ?_, fun i r hr hne => ?_, h.inj, ?_, Or.inl f1, Or.inl f2, fun j hj => Or.inr (Or.inr hj)⟩
  · simp only [List.map_append, h.zs]
    rfl
  · simp only [List.length_append, List.length_singleton, tab_snoc]
    exact b2
  · rcases List.mem_append.1 hz with q | q
    · exact (h.each z q).keep hk hav (fun _ r => Or.inl r)
    · rw [List.mem_singleton.1 q]
      refine ⟨?_, ⟨[], rfl, ⟨rfl, Or.inl ⟨rfl, rfl⟩⟩, fun y hy => by cases hy⟩, fun j hj => by cases hj⟩
      rw [if_pos (show (newZ kind w.heap.size).1.alive = true from rfl)]
      exact b3.wide (fun k r => Or.inr (Or.inl r))
  · rcases snoc_get hz with q | ⟨q, rfl⟩
    · rcases snoc_get hy with r | ⟨r, rfl⟩
      · exact h.dns i j z y q r hij k hk1
      · intro e
        cases e
    · cases hk1
  · rcases snoc_get hz with q | ⟨q, rfl⟩
    · rcases snoc_get hy with r | ⟨r, rfl⟩
      · exact h.wks i j z y q r hij ha1 ha2
      · have := alive q ha1
        refine ⟨fun e => ?_, fun k _ e => by cases e⟩
        simp only [newZ] at e
        omega
    · rcases snoc_get hy with r | ⟨r, rfl⟩
      · have := alive r ha2
        refine ⟨fun e => ?_, fun k e => by cases e⟩
        simp only [newZ] at e
        omega
      · omega
  · obtain ⟨y, h1, h2, h3⟩ := h.ln i r hr hne
    refine ⟨y, hk.at h1 ?_, h2, Or.inl h3⟩
    rintro (e | e)
    · exact ne_tag h1 h.bs (by decide) e
    · exact row_tag h.made h1 (by decide) e
  · obtain ⟨a, b, hj⟩ := h.jobs
    refine ⟨a, b, hk.at hj ?_⟩
    rintro (e | e)
    · rw [e, h.bs] at hj
      cases hj
    · rcases id h.made.2 with ⟨q, _⟩ | ⟨g, cap, cur', q, _, hg, _⟩
      · rw [q] at e; cases e
      · rw [q] at e
        cases e
        rw [hg] at hj
        cases hj
/- a service begins -/
theorem LW.begun {p : Pl} {F : Foot} {G : R.Wd} {w : World} (h : LW p F G w) {kind : Int} (hk : 0 ≤ kind ∧ kind ≤ 2) (h255 : G.services.length < 255) :
    Calls Tryz.prog 183 #[ptr p.s, .int .i64 kind] w fun e w' => e = .returned (.int .i64 ((G.services.length : Int) + 1)) ∧ ∃ t F', LW { p with t := t } F' { G with services := G.services ++ [⟨kind, true, []⟩] } w' ∧ Went F F' w w' := by
  have hzl : p.t.zs.length = G.services.length := by rw [← h.srv.zs, List.length_map]
  obtain ⟨a, c, hK⟩ := slice_of h.srv.made
  have hm := h.srv.made
  rw [hK] at hm
  refine (began_any w p.s p.t.zs.length c (scells p.n p.nm p.t G.c G.lives G.seen) (tab mcells p.t.zs) a kind hk h.srv.bs (by rw [← hK]; rfl) hm (by omega)).mono ?_
  rintro e w' ⟨rfl, K', hb⟩
  rw [← hK] at hb
  refine ⟨by rw [hzl], { p.t with K := K', zs := p.t.zs ++ [newZ kind w.heap.size] }, fun k => F k ∨ k = w.heap.size ∨ K'.ownBlock = some k, ?_, ?_⟩
  · have hs := h.srv.begun h.lt hb
    have hE : SrvOnly w (fun k => k = p.s ∨ p.t.K.ownBlock = some k) := (SrvOnly.one h.srv.bs (by decide)).or (SrvOnly.row h.srv.made (by decide))
    refine h.srvTurn hs hb.keeps hE (fun _ q => Or.inl q) (fun k hk' => ?_) ?_ h.cold (fun i c hc u => ?_)
    · have hsz := hb.keeps.size
      rcases hk' with q | q | q
      · exact Nat.lt_of_lt_of_le (h.lt k q) hsz
      · have := hb.wk
        subst q
        cases this with
        | counter _ h2 _ => exact (Array.getElem?_eq_some_iff.1 h2).1
        | board _ h2 _ _ => exact (Array.getElem?_eq_some_iff.1 h2).1
        | desk _ _ _ _ h2 _ _ _ _ => exact (Array.getElem?_eq_some_iff.1 h2).1
      · exact (World.ownsRow.lt hb.row k q).2
    · refine h.wf.serve hk h255 h.wf.nm h.wf.st h.wf.nd (fun u hu => ?_)
      have := h.wf.sts u hu
      omega
    · unfold boundOf
      by_cases hu : u ∈ c.bound
      · rw [if_pos hu, if_pos hu]
        have := (h.wf.cl i c hc).bound u hu
        unfold kindOf
        simp only
        rw [List.getElem?_append_left (by omega)]
      · rw [if_neg hu, if_neg hu]
  · refine ⟨hb.keeps.mono (fun k _ q => ?_), fun k q => ?_⟩
    · rcases q with rfl | q
      · exact h.srv.foot.1
      · exact h.srv.foot.2.2 k q
    · rcases q with q | q | q
      · exact Or.inl q
      · exact Or.inr (by omega)
      · rcases hb.at' with e | ⟨j, e, hj⟩
        · exact Or.inl (h.srv.foot.2.2 k (e ▸ q))
        · rw [e] at q
          cases q
          exact Or.inr (by omega)
/- the names are turned -/
theorem LW.nameTurn {p : Pl} {F : Foot} {G : R.Wd} {w w' : World} (h : LW p F G w) {N : List (List UInt8)} {S : List Int} (hk : Keeps (fun k => k = p.nm) w w') (hm : Mp w' 9 p.nm keyS (standOf { G with names := N, stands := S }) N.length) (hwf : R.Wf { G with names := N, stands := S }) : LW p F { G with names := N, stands := S } w' ∧ Went F F w w' := by
  obtain ⟨hx, hn, hcs, hnm⟩ := h.foot
  obtain ⟨es, q, hq⟩ := h.names.block
  have hav : Avoid w F (fun k => k = p.nm) := Avoid.tags (fun b hb => Or.inr ⟨es, q, by subst hb; exact hq⟩)
  have hlen := fun (i : Nat) (c : R.Cl) (hc : G.clients[i]? = some c) => (List.getElem?_eq_some_iff.1 hc).1
  have at' : ∀ {b : Nat} {ys : Array Value} {t : TypeId} {f : Nat × Nat}, w.heap[b]? = some (.cells ys t f) → w'.heap[b]? = some (.cells ys t f) := fun hb => hk.at hb (ne_map hb hq)
  refine ⟨⟨hwf, h.cold, at' h.bx, ?_, ?_, h.srv.keep hk hav (fun _ r => r), hm, fun i c hc => at' (h.cl i c hc), fun i c hc => ?_, fun i c hc => (h.bound i c hc).keep hk (h.feet i (hlen i c hc)).2.2.2, h.foot, h.feet, h.inj, fun k hf => Nat.lt_of_lt_of_le (h.lt k hf) hk.size⟩, hk.mono (fun k _ e => by rw [e]; exact hnm), fun _ r => Or.inl r⟩
  · obtain ⟨cur, h1, h2⟩ := h.bcs
    exact ⟨cur, at' h1, h2⟩
  · obtain ⟨K, h1, h2, h3⟩ := h.bn
    exact ⟨K, at' h1, hk.row h2 (fun j hj e => row_tag_map h2 hq (e ▸ hj)), h3⟩
  · obtain ⟨xs, h1, h2, h3⟩ := h.ln i c hc
    exact ⟨xs, at' h1, h2, h3.avoid hk hav.sv (fun _ r => r)⟩
theorem LW.exported {p : Pl} {F : Foot} {G : R.Wd} {w : World} (h : LW p F G w) {name : List UInt8} {kind : Int} (hnm : R.namedP name = true) (hk : 0 ≤ kind ∧ kind ≤ 2) (hn : ¬ name ∈ G.names) (h6 : G.names.length < 6) (h255 : G.services.length < 255) :
    Calls Tryz.prog 106 #[ptr p.s, .string (str name), .int .i64 kind] w fun e w' => e = .returned (.tuple #[.int .i64 ((G.services.length : Int) + 1), .int .i64 0]) ∧ ∃ t F', LW { p with t := t } F' (exportedG G name kind) w' ∧ Went F F' w w' := by
  obtain ⟨a, c, hK⟩ := slice_of h.srv.made
  have hl8 : name.length ≤ 8 := by
    unfold R.namedP at hnm
    simp only [Bool.and_eq_true, decide_eq_true_eq] at hnm
    omega
  have hzl : p.t.zs.length = G.services.length := by rw [← h.srv.zs, List.length_map]
  have hsn := stand_none hn
  have hlook := look_str h.names (s := name) (by unfold maxLen; omega)
  rw [hsn] at hlook
  have hwf := exported_wf h.wf (name := name) (kind := kind) hn h6 h255 hk
  refine export_walk w p.s p.nm p.t.zs.length c G.names.length a name kind _ (fun w' => ∃ t F', LW { p with t := t } F' { G with services := G.services ++ [⟨kind, true, []⟩] } w' ∧ Went F F' w w') _ hnm hk (cell_of h.srv.bs 5 _ rfl) (cell_of h.srv.bs 6 _ (by rw [← hK]; rfl)) (by omega) h6 hlook (h.names.len Tryz.underlying159 3) (h.begun hk h255) ?_ ?_
  · rintro w' ⟨t, F', hL, _⟩
    exact cell_of hL.srv.bs 5 _ rfl
  · rintro w1 w2 ⟨t, F', hL, hW⟩ hb
    have hL2 := hL.below hb
    obtain ⟨w3, hrun, hm, htn⟩ := put_str hL2.names (by simp only; omega) (s := name) (by unfold maxLen; omega) (v := (G.services.length : Int) + 1) (by omega) (standOf (exportedG G name kind)) (stand_exported h.wf.st hn)
    refine ⟨w3, hrun, t, F', ?_⟩
    have hst : standOf { G with services := G.services ++ [⟨kind, true, []⟩] } name = none := hsn
    rw [hst] at hm
    have q := hL2.nameTurn (N := G.names ++ [name]) (S := G.stands ++ [(G.services.length : Int) + 1]) (turned_keeps htn) (by simpa [exportedG] using hm) hwf
    exact ⟨q.1, (hW.trans (Went.ofBelow F' hb)).trans q.2⟩
end Go.Proofs.YtblomippkddgiaaGreatDoor
