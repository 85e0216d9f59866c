/-
  Joined: Srv3 Imp.
-/
import Derived.Test.YthofebmiggodhaaDoorJ33
/-
  A world's Export of a new name.
-/
namespace Go.Proofs.YthofebmiggodhaaDoor
open Go.RowKit

/- the server alone is turned -/
theorem LW.server {p : Pl} {F : Foot} {G : R.Wd} {w w1 w2 w3 : World} (h : LW p F G w) {K : Value} {N : List (List UInt8)} {S : List Int} {SV : List R.Sv} (hK : w.heap[p.s]? = some (.cells #[.map (some p.nm), K] 114 (0, 0))) (hr : w.ownsRow 0 135 2 K G.services.length (tab mcells G.services)) (hf : ∀ j, K.ownBlock = some j → F j) (hp : SrvPost w p.s p.nm K SV w1) (hb : Below w1.heap.size w1 w2) (ht : Keeps (fun k => k = p.nm) w2 w3)
    (hmap : Mp w3 9 p.nm keyS (standOf { G with names := N, stands := S, services := SV }) N.length) (hwf : R.Wf { G with names := N, stands := S, services := SV }) (hkd : ∀ (i : Nat) (c : R.Cl), G.clients[i]? = some c → ∀ u ∈ c.bound, kindOf { G with names := N, stands := S, services := SV } u = kindOf G u) :
    ∃ F', LW p F' { G with names := N, stands := S, services := SV } w3 ∧ Went F F' w w3 := by
  obtain ⟨hx, hnn, hs, hcs, hnm⟩ := h.foot
  obtain ⟨⟨K', k1, k2, k3⟩, hk1⟩ := hp
  obtain ⟨es, q, hq⟩ := h.names.block
  have hkA : Keeps (fun k => k = p.s ∨ K.ownBlock = some k ∨ k = p.nm) w w3 :=
    ((hk1.mono (G := fun k => k = p.s ∨ K.ownBlock = some k ∨ k = p.nm) (fun k _ e => e.elim Or.inl (fun e => Or.inr (Or.inl e)))).trans (Keeps.ofBelow hb _)).trans (ht.mono (fun k _ e => Or.inr (Or.inr e)))
  have sz := hkA.size
  have at' : ∀ {b : Nat} {ys : Array Value} {t : TypeId} {f : Nat × Nat}, w.heap[b]? = some (.cells ys t f) → t ≠ 114 → t ≠ 135 → w3.heap[b]? = some (.cells ys t f) := fun hb h1 h2 => hkA.at hb (by
    rintro (e | e | e)
    · exact ne_tag hb hK h1 e
    · exact row_tag hr hb (fun q => h2 q.symm) e
    · exact ne_map hb hq e)
  have hsne : p.s ≠ p.nm := ne_map hK hq
  have k1' : w3.heap[p.s]? = some (.cells #[.map (some p.nm), K'] 114 (0, 0)) := ht.at ((hb.block _ (lt_of_block k1)).trans k1) hsne
  have k2' : w3.ownsRow 0 135 2 K' SV.length (tab mcells SV) := by
    refine ht.row (row_below' k2 hb) (fun j hj e => ?_)
    subst e
    rcases k3 with e | ⟨j, e, hj'⟩
    · exact row_tag_map hr hq (e.symm.trans hj)
    · rw [e] at hj
      cases hj
      have := h.lt _ hnm
      omega
  have hlen := fun (i : Nat) (c : R.Cl) (hc : G.clients[i]? = some c) => (List.getElem?_eq_some_iff.1 hc).1
  refine ⟨fun k => F k ∨ K'.ownBlock = some k, ⟨hwf, h.cold, at' h.bx (by decide) (by decide), ?_, ?_, ⟨K', k1', k2', fun j hj => Or.inr hj⟩, hmap, fun i c hc => at' (h.cl i c hc) (by decide) (by decide), fun i c hc => ?_, fun i c hc => ?_, ⟨Or.inl hx, Or.inl hnn, Or.inl hs, Or.inl hcs, Or.inl hnm⟩, fun i hi => ?_, h.inj, fun k hk' => ?_⟩, ?_⟩
  · obtain ⟨cur, h1, h2⟩ := h.bcs
    exact ⟨cur, at' h1 (by decide) (by decide), h2⟩
  · obtain ⟨Kn, h1, h2, h3⟩ := h.bn
    refine ⟨Kn, at' h1 (by decide) (by decide), hkA.row h2 (fun j hj => ?_), fun j hj => Or.inl (h3 j hj)⟩
    rcases h2.2 with ⟨rfl, _⟩ | ⟨g, cap, cur, rfl, _, hg, _⟩
    · cases hj
    · cases hj
      rintro (e | e | e)
      · exact ne_tag hg hK (by decide) e
      · exact row_tag hr hg (by decide) e
      · exact ne_map hg hq e
  · obtain ⟨xs, h1, h2⟩ := h.ln i c hc
    exact ⟨xs, at' h1 (by decide) (by decide), h2⟩
  · obtain ⟨es', q', hq'⟩ := (h.bound i c hc).block
    have hmb := (h.bound i c hc).keep hkA (by
      rintro (e | e | e)
      · exact (ne_map hK hq') e.symm
      · exact row_tag_map hr hq' e
      · exact (h.feet i (hlen i c hc)).2.2.2 e)
    refine hmb.congr (fun u => ?_)
    unfold boundOf
    by_cases hu : u ∈ c.bound
    · rw [if_pos hu, if_pos hu, hkd i c hc u hu]
    · rw [if_neg hu, if_neg hu]
  · obtain ⟨a1, a2, a3, a4⟩ := h.feet i hi
    exact ⟨Or.inl a1, Or.inl a2, Or.inl a3, a4⟩
  · rcases hk' with q | q
    · exact Nat.lt_of_lt_of_le (h.lt k q) sz
    · exact (World.ownsRow.lt k2' k q).2
  · refine ⟨hkA.mono (fun k _ q => ?_), fun k q => ?_⟩
    · rcases q with rfl | q | rfl
      · exact hs
      · exact hf k q
      · exact hnm
    · rcases q with q | q
      · exact Or.inl q
      · rcases k3 with e | ⟨j, e, hj⟩
        · exact Or.inl (hf k (e ▸ q))
        · rw [e] at q
          cases q
          exact Or.inr hj

/- a new name -/
def exportedG (G : R.Wd) (name : List UInt8) (kind : Int) : R.Wd := { G with names := G.names ++ [name], stands := G.stands ++ [(G.services.length : Int) + 1], services := G.services ++ [⟨kind, true, []⟩] }
theorem exported_wf {G : R.Wd} (h : R.Wf G) {name : List UInt8} {kind : Int} (hn : ¬ name ∈ G.names) (h6 : G.names.length < 6) (h255 : G.services.length < 255) (hk : 0 ≤ kind ∧ kind ≤ 2) : R.Wf (exportedG G name kind) := by
  refine ⟨h.cf, h.ncl, fun i c hc => ?_, h.fly, h.flys, by simp [exportedG]; omega, fun s hs => ?_, by simp [exportedG]; omega, by simp [exportedG, h.st], ?_, fun u hu => ?_⟩
  · have h0 := h.cl i c hc
    refine ⟨h0.lines, h0.life, fun u hu => ?_, h0.line⟩
    have := h0.bound u hu
    simp [exportedG]
    omega
  · rcases List.mem_append.1 hs with hs | hs
    · exact h.svk s hs
    · simp only [List.mem_singleton] at hs
      subst hs
      exact hk
  · show (G.names ++ [name]).Nodup
    rw [List.nodup_append]
    refine ⟨h.nd, by simp, fun a ha b hb e => ?_⟩
    simp only [List.mem_singleton] at hb
    subst hb
    exact hn (e ▸ ha)
  · rcases List.mem_append.1 hu with hu | hu
    · have := h.sts u hu
      simp [exportedG]
      omega
    · simp only [List.mem_singleton] at hu
      subst hu
      simp [exportedG]
      omega
theorem stand_none {G : R.Wd} {name : List UInt8} (hn : ¬ name ∈ G.names) : standOf G name = none := by
  unfold standOf R.entryP
  rw [List.findIdx?_eq_none_iff.2 (fun x hx => by simp; exact fun e => hn (e ▸ hx))]
  rfl
theorem stand_exported {G : R.Wd} (hst : G.stands.length = G.names.length) {name : List UInt8} {kind : Int} (hn : ¬ name ∈ G.names) (x : List UInt8) : (x = name → standOf (exportedG G name kind) x = some ((G.services.length : Int) + 1)) ∧ (¬ x = name → standOf (exportedG G name kind) x = standOf G x) := by
  unfold standOf R.entryP exportedG
  simp only [List.findIdx?_append]
  constructor
  · rintro rfl
    rw [List.findIdx?_eq_none_iff.2 (fun y hy => by simp; exact fun e => hn (e ▸ hy))]
    simp [List.findIdx?_cons, hst]
  · intro hx
    cases hf : G.names.findIdx? (· == x) with
    | some k =>
      have hk := (List.findIdx?_eq_some_iff_getElem.1 hf).1
      simp [List.getElem?_append_left (show k < G.stands.length by omega)]
    | none =>
      have : (name == x) = false := by simpa using fun e => hx e.symm
      simp [List.findIdx?_cons, this]
theorem kind_exported {G : R.Wd} {name : List UInt8} {kind : Int} {u : Int} (hu : 1 ≤ u ∧ u ≤ (G.services.length : Int)) : kindOf (exportedG G name kind) u = kindOf G u := by
  unfold kindOf exportedG
  simp only
  rw [List.getElem?_append_left (by omega)]

theorem LW.exported {p : Pl} {F : Foot} {G : R.Wd} {w : World} (h : LW p F G w) {name : List UInt8} {kind : Int} (hnm : R.namedP name = true) (hk : 0 ≤ kind ∧ kind ≤ 2) (hn : ¬ name ∈ G.names) (h6 : G.names.length < 6) (h255 : G.services.length < 255) :
    Calls Tryd.prog 51 #[ptr p.s, .string (str name), .int .i64 kind] w fun e w' => e = .returned (.tuple #[.int .i64 ((G.services.length : Int) + 1), .int .i64 0]) ∧ ∃ F', LW p F' (exportedG G name kind) w' ∧ Went F F' w w' := by
  obtain ⟨K, hK, hrow, hf⟩ := h.bs
  obtain ⟨a, c, rfl⟩ := slice_of hrow
  have hl8 : name.length ≤ 8 := by
    unfold R.namedP at hnm
    simp only [Bool.and_eq_true, decide_eq_true_eq] at hnm
    omega
  have hsn := stand_none hn
  have hlook := look_str h.names (s := name) (by unfold maxLen; omega)
  rw [hsn] at hlook
  have hwf := exported_wf h.wf (name := name) (kind := kind) hn h6 h255 hk
  refine export_walk w p.s p.nm G.services.length c G.names.length a name kind _ (SrvPost w p.s p.nm (.slice a G.services.length c) (G.services ++ [⟨kind, true, []⟩])) _ hnm hk (cell_of hK 0 _ rfl) (cell_of hK 1 _ rfl) h255 h6 hlook (h.names.len Tryd.underlying111 3) ?_ ?_ ?_
  · exact made_any w p.s p.nm a c kind G.services hK hrow (by omega)
  · rintro w' ⟨⟨K', k1, _⟩, _⟩
    exact cell_of k1 0 _ rfl
  · intro w1 w2 hA hb
    have hnm2 : Mp w2 9 p.nm keyS (standOf G) G.names.length := by
      obtain ⟨es, q, hq⟩ := h.names.block
      have h1 := h.names.keep hA.keeps (by
        rintro (e | e)
        · exact (ne_map hK hq) e.symm
        · exact row_tag_map hrow hq e)
      exact h1.keep (Keeps.ofBelow hb (fun _ => False)) (fun e => e)
    obtain ⟨w3, hrun, hm, htn⟩ := put_str hnm2 (by omega) (s := name) (by unfold maxLen; omega) (v := (G.services.length : Int) + 1) (by omega) (standOf (exportedG G name kind)) (stand_exported h.wf.st hn)
    refine ⟨w3, hrun, h.server hK hrow hf hA hb (turned_keeps htn) ?_ hwf (fun i c hc u hu => kind_exported ((h.wf.cl i c hc).bound u hu))⟩
    rw [hsn] at hm
    simpa [exportedG] using hm
end Go.Proofs.YthofebmiggodhaaDoor
/-
  The landed Import.
-/
namespace Go.Proofs.YthofebmiggodhaaDoor
open Go.RowKit

theorem dd_snoc (l : List Int) (u : Int) : dd (l ++ [u]) = if u ∈ dd l then dd l else dd l ++ [u] := by
  unfold dd
  rw [List.foldl_append]
  rfl
theorem snoc_ind {P : List Int → Prop} (h0 : P []) (hs : ∀ l a, P l → P (l ++ [a])) (l : List Int) : P l := by
  have h : ∀ r : List Int, P r.reverse := fun r => by
    induction r with
    | nil => exact h0
    | cons a r ih => rw [List.reverse_cons]; exact hs _ _ ih
  simpa using h l.reverse
theorem dd_mem (l : List Int) : ∀ u, u ∈ dd l ↔ u ∈ l := by
  refine snoc_ind (P := fun l => ∀ u, u ∈ dd l ↔ u ∈ l) ?_ ?_ l
  · simp [dd]
  · intro l a ih u
    rw [dd_snoc]
    split
    · rename_i h
      rw [ih u]
      simp only [List.mem_append, List.mem_singleton]
      constructor
      · exact Or.inl
      · rintro (q | rfl)
        · exact q
        · exact (ih u).1 h
    · simp [ih u]
theorem dd_nodup (l : List Int) : (dd l).Nodup := by
  refine snoc_ind (P := fun l => (dd l).Nodup) ?_ ?_ l
  · simp [dd]
  · intro l a ih
    rw [dd_snoc]
    split
    · exact ih
    · rename_i h
      rw [List.nodup_append]
      exact ⟨ih, by simp, fun x hx y hy e => by simp only [List.mem_singleton] at hy; subst hy; exact h (e ▸ hx)⟩
theorem fewN : ∀ (N : Nat) (l : List Int), l.Nodup → (∀ u ∈ l, 1 ≤ u ∧ u ≤ (N : Int)) → l.length ≤ N
  | 0, [], _, _ => Nat.le_refl _
  | 0, u :: l, _, h => by have := h u (by simp); omega
  | N + 1, l, hd, h => by
    have h1 := fewN N (l.erase ((N : Int) + 1)) (hd.erase _) (fun u hu => by
      have hm := List.mem_of_mem_erase hu
      have hne : u ≠ (N : Int) + 1 := fun e => by subst e; exact hd.not_mem_erase hu
      have := h u hm
      omega)
    have := List.length_erase_le (a := (N : Int) + 1) (l := l)
    by_cases hm : ((N : Int) + 1) ∈ l
    · rw [List.length_erase_of_mem hm] at h1
      omega
    · rw [List.erase_of_not_mem hm] at h1
      omega
theorem dd_few {l : List Int} {N : Nat} (h : ∀ u ∈ l, 1 ≤ u ∧ u ≤ (N : Int)) : (dd l).length ≤ N := fewN N (dd l) (dd_nodup l) (fun u hu => h u ((dd_mem l u).1 hu))

set_option maxRecDepth 100000 in
theorem service_any (w : World) (s nm g m c k : Nat) (h : w.heap[s]? = some (.cells #[.map (some nm), .slice (some ⟨g, 0, none⟩) m c] 114 (0, 0))) (hk : k < m) (hm : m ≤ 300) : Calls Tryd.prog 72 #[ptr s, .int .i64 ((k : Int) + 1)] w fun e w' => e = .returned (.pointer (some ⟨g, k * 2, none⟩)) ∧ w' = w := by
  have c1 : w.cell? ⟨s, 1, none⟩ = some (.slice (some ⟨g, 0, none⟩) m c) := cell_of h 1 _ rfl
  have e1 : IntKind.i64.wrap ((k : Int) + 1 - 1) = (k : Int) := by rw [IntKind.wrap_i64]; omega
  clear h
  go_enter Tryd.func72, Tryd.ntmps72
  go_wp2
  go_returns
  exact ⟨rfl, rfl⟩

set_option maxRecDepth 100000 in
set_option maxHeartbeats 1000000 in
theorem find_walk (w : World) (s nm g m c k : Nat) (S : ByteArray) (kind : Int) (h : w.heap[s]? = some (.cells #[.map (some nm), .slice (some ⟨g, 0, none⟩) m c] 114 (0, 0))) (hk : k < m) (hm : m ≤ 300) (hkd : w.cell? ⟨g, k * 2, none⟩ = some (.int .i64 kind))
    (hlook : (Instr.lookup 111 (.map (some nm)) (.string S) true).run Tryd.prog w = .ok (.tuple #[.int .i64 ((k : Int) + 1), .bool true]) w) :
    Calls Tryd.prog 52 #[ptr s, .string S] w fun e w' => e = .returned (.tuple #[.int .i64 ((k : Int) + 1), .int .i64 kind, .int .i64 0]) ∧ Below w.heap.size w w' := by
  have c0 : w.cell? ⟨s, 0, none⟩ = some (.map (some nm)) := cell_of h 0 _ rfl
  have H72 := hide (service_any w.drew s nm g m c k h hk hm)
  clear h
  go_enter Tryd.func52, Tryd.ntmps52
  go_wp2
  go_region_held3 (fun w' => w'.cell? ⟨g, k * 2, none⟩ = some (.int .i64 kind)) (go_keep) ((go_at_call 72; refine (unhide H72).mono ?_; rintro e w1 ⟨rfl, hw1⟩; rw [hw1]; clear hw1))
  go_wp2
  go_returns
  exact ⟨rfl, (Below.refl _ _).drew⟩
end Go.Proofs.YthofebmiggodhaaDoor
