/-
  Joined: SLine RInv2.
-/
import Derived.Test.YtblomippkddgiaaGreatDoorJ29
import Derived.Test.YtblomippkddgiaaGreatDoorJ24
/-
  A line that the landed server remembers.
-/
namespace Go.Proofs.YtblomippkddgiaaGreatDoor
open Go.RowKit

structure QAt (p : Pl) (G : R.Wd) (w : World) (i : Nat) (r : R.Sn) (y : SLn) : Prop where
  seen : G.seen[i]? = some r
  ne : r.seq ≠ 0
  blk : w.heap[p.t.ql i]? = some (.cells y.cells.toArray 147 (0, 0))
  rel : SnRel i (G.lives.getD (i / 3) 0) r y
theorem LW.q {p : Pl} {F : Foot} {G : R.Wd} {w : World} (h : LW p F G w) {i : Nat} {r : R.Sn} (hr : G.seen[i]? = some r) (hne : r.seq ≠ 0) : ∃ y, QAt p G w i r y ∧ F (p.t.ql i) := by
  obtain ⟨y, h1, h2, h3⟩ := h.srv.ln i r hr hne
  exact ⟨y, ⟨hr, hne, h1, h2⟩, h3⟩
structure YAt (w : World) (b : Nat) (y : SLn) : Prop where
  a0 : w.cell? ⟨b, 0, none⟩ = some (.int .i64 y.client)
  a1 : w.cell? ⟨b, 1, none⟩ = some (.int .i64 y.life)
  a2 : w.cell? ⟨b, 2, none⟩ = some (.int .i64 y.line)
  a3 : w.cell? ⟨b, 3, none⟩ = some (.int .i64 y.seq)
  a4 : w.cell? ⟨b, 4, none⟩ = some (.int .i64 y.uid)
  a5 : w.cell? ⟨b, 5, none⟩ = some (.int .i64 y.state)
  a6 : w.cell? ⟨b, 6, none⟩ = some (.string (str y.asked))
  a7 : w.cell? ⟨b, 7, none⟩ = some (.string (str y.answer))
  a8 : w.cell? ⟨b, 8, none⟩ = some (.int .i64 y.at')
  a9 : w.cell? ⟨b, 9, none⟩ = some (.int .i64 y.wait)
  a10 : w.cell? ⟨b, 10, none⟩ = some (.int .i64 y.tries)
theorem yAt {w : World} {b : Nat} {y : SLn} (h : w.heap[b]? = some (.cells y.cells.toArray 147 (0, 0))) : YAt w b y :=
  ⟨cell_list h rfl, cell_list h rfl, cell_list h rfl, cell_list h rfl, cell_list h rfl, cell_list h rfl, cell_list h rfl, cell_list h rfl, cell_list h rfl, cell_list h rfl, cell_list h rfl⟩

theorem qcell_set {t : SP} {seen : List R.Sn} {i : Nat} {r r' : R.Sn} (hr : seen[i]? = some r) (hne : r.seq ≠ 0) (hne' : r'.seq ≠ 0) (j : Nat) : qcell t (seen.set i r') j = qcell t seen j := by
  unfold qcell
  rw [List.getElem?_set]
  by_cases e : i = j
  · subst e
    rw [if_pos rfl, if_pos (List.getElem?_eq_some_iff.1 hr).1, hr]
    simp [hne, hne']
  · simp [e]
/- the block of one line is turned -/
theorem SrvAt.qturn {s n nm : Nat} {t : SP} {F : Foot} {c : R.Cf} {sv : List R.Sv} {lives : List Int} {seen : List R.Sn} {jobs : List R.Jb} {w w' : World} (h : SrvAt s n nm t F c sv lives seen jobs w) {i : Nat} {r r' : R.Sn} {cur : Array Value} {y' : SLn} (hr : seen[i]? = some r) (hne : r.seq ≠ 0) (hne' : r'.seq ≠ 0) (hb : w.heap[t.ql i]? = some (.cells cur 147 (0, 0))) (hk : Keeps (fun b => b = t.ql i) w w') (hb' : w'.heap[t.ql i]? = some (.cells y'.cells.toArray 147 (0, 0))) (hrel : SnRel i (lives.getD (i / 3) 0) r' y') : SrvAt s n nm t F c sv lives (seen.set i r') jobs w' := by
  obtain ⟨f1, f2, f3⟩ := h.foot
  have hav : AvT w F (fun b => b = t.ql i) := AvT.one hb (by decide)
  have hi := (List.getElem?_eq_some_iff.1 hr).1
  have hset : ∀ (j : Nat) (x : R.Sn), (seen.set i r')[j]? = some x → x.seq ≠ 0 → ∃ x0, seen[j]? = some x0 ∧ x0.seq ≠ 0 ∧ (j ≠ i → x0 = x) ∧ (j = i → x = r') := fun j x hj hx => by
    rw [List.getElem?_set] at hj
    by_cases e : i = j
    · subst e
      simp only [if_true, hi] at hj
      exact ⟨r, hr, hne, fun q => absurd rfl q, fun _ => (Option.some.inj hj).symm⟩
    · rw [if_neg e] at hj
      exact ⟨x, hj, hx, fun _ => rfl, fun q => absurd q.symm e⟩
  refine ⟨?_, h.zs, hk.row h.made (fun j hj => ?_), fun z hz => (h.each z hz).keep hk hav (fun _ q => q), h.dns, h.wks, fun j x hj hx => ?_, fun a b x x' ha hb hx hx' hab => ?_, ?_, f1, f2, f3⟩
  · have e : scells n nm t c lives (seen.set i r') = scells n nm t c lives seen := by
      unfold scells
      simp only [qcell_set hr hne hne']
    rw [e]
    exact hk.at h.bs (ne_tag h.bs hb (by decide))
  · rcases h.made.2 with ⟨hn, _⟩ | ⟨g, cap, cur', hn, _, hg, _⟩
    · rw [hn] at hj; cases hj
    · rw [hn] at hj
      cases hj
      exact ne_tag hg hb (by decide)
  · obtain ⟨x0, q1, q2, q3, q4⟩ := hset j x hj hx
    by_cases e : j = i
    · subst e
      obtain rfl := q4 rfl
      obtain ⟨_, _, _, hF⟩ := h.ln j x0 q1 q2
      exact ⟨y', hb', hrel, hF⟩
    · obtain rfl := q3 e
      obtain ⟨y, g1, g2, g3⟩ := h.ln j x0 q1 q2
      exact ⟨y, hk.at g1 (h.inj j i x0 r q1 hr q2 hne e), g2, g3⟩
  · obtain ⟨x0, q1, q2, _⟩ := hset a x ha hx
    obtain ⟨x1, q3, q4, _⟩ := hset b x' hb hx'
    exact h.inj a b x0 x1 q1 q3 q2 q4 hab
  · obtain ⟨a, b, hj⟩ := h.jobs
    refine ⟨a, b, hk.at hj (fun e => ?_)⟩
    rw [e, hb] at hj
    cases hj
theorem setSeen_wf {G : R.Wd} (h : R.Wf G) (i : Nat) (r : R.Sn) : R.Wf (R.setSeen G i r) := ⟨h.cf, h.ncl, fun j c hc => ⟨(h.cl j c hc).lines, (h.cl j c hc).life, (h.cl j c hc).bound, (h.cl j c hc).line⟩, h.fly, h.flys, h.sv, h.svk, h.nm, h.st, h.nd, h.sts⟩
theorem setSeen_ws {c : R.Cf} {lives : List Int} {seen : List R.Sn} {jobs : List R.Jb} (h : R.WsOk c lives seen jobs) {i : Nat} {r : R.Sn} (hr : R.SnOk (lives.getD (i / 3) 0) r) : R.WsOk c lives (seen.set i r) jobs := by
  refine ⟨h.ll, h.lv, by simpa using h.sl, fun j x hx => ?_, h.jl, h.jb⟩
  rw [List.getElem?_set] at hx
  by_cases e : i = j
  · rw [if_pos e] at hx
    split at hx
    · cases hx
      rw [← e]
      exact hr
    · cases hx
  · rw [if_neg e] at hx
    exact h.sn j x hx
theorem LW.qturn {p : Pl} {F : Foot} {G : R.Wd} {w w' : World} (h : LW p F G w) {i : Nat} {r r' : R.Sn} {y y' : SLn} (hq : QAt p G w i r y) (hne' : r'.seq ≠ 0) (hk : Keeps (fun b => b = p.t.ql i) w w') (hb' : w'.heap[p.t.ql i]? = some (.cells y'.cells.toArray 147 (0, 0))) (hrel : SnRel i (G.lives.getD (i / 3) 0) r' y') (hok : R.SnOk (G.lives.getD (i / 3) 0) r') : LW p F (R.setSeen G i r') w' ∧ QAt p (R.setSeen G i r') w' i r' y' ∧ Went F F w w' := by
  obtain ⟨hx, hn, hcs, hnm⟩ := h.foot
  have hb := hq.blk
  have hav : AvT w F (fun b => b = p.t.ql i) := AvT.one hb (by decide)
  obtain ⟨_, _, _, hFq⟩ := h.srv.ln i r hq.seen hq.ne
  have at' : ∀ {b : Nat} {ys : Array Value} {t : TypeId} {f : Nat × Nat}, w.heap[b]? = some (.cells ys t f) → t ≠ 147 → w'.heap[b]? = some (.cells ys t f) := fun hb1 h1 => hk.at hb1 (ne_tag hb1 hb h1)
  have map' : ∀ {α : Type} {k : TypeId} {b : Nat} {lit : α → Lit} {g : α → Option Int} {n : Nat}, Mp w k b lit g n → Mp w' k b lit g n := fun hm => by
    obtain ⟨es, q, hq⟩ := hm.block
    exact hm.keep hk (fun e => ne_map hb hq e.symm)
  refine ⟨⟨setSeen_wf h.wf i r', setSeen_ws h.cold hok, at' h.bx (by decide), ?_, ?_, h.srv.qturn hq.seen hq.ne hne' hb hk hb' hrel, map' h.names, fun j c hc => at' (h.cl j c hc) (by decide), fun j c hc => ?_, fun j c hc => map' (h.bound j c hc), h.foot, h.feet, h.inj, fun k hf => Nat.lt_of_lt_of_le (h.lt k hf) hk.size⟩, ⟨?_, hne', hb', hrel⟩, ⟨hk.mono (fun k _ e => by rw [e]; exact hFq), fun _ q => Or.inl q⟩⟩
  · obtain ⟨cur, h1, h2⟩ := h.bcs
    exact ⟨cur, at' h1 (by decide), h2⟩
  · obtain ⟨K, h1, h2, h3⟩ := h.bn
    refine ⟨K, at' h1 (by decide), hk.row h2 (fun j hj => ?_), h3⟩
    rcases h2.2 with ⟨rfl, _⟩ | ⟨g, cap, cur, rfl, _, hg, _⟩
    · cases hj
    · cases hj
      exact ne_tag hg hb (by decide)
  · obtain ⟨xs, h1, h2, h3⟩ := h.ln j c hc
    exact ⟨xs, at' h1 (by decide), h2, h3.avoid hk hav (fun _ q => q)⟩
  · simp [R.setSeen, (List.getElem?_eq_some_iff.1 hq.seen).1]
theorem QAt.below {p : Pl} {G : R.Wd} {w w' : World} {i : Nat} {r : R.Sn} {y : SLn} (h : QAt p G w i r y) (hb : Below w.heap.size w w') : QAt p G w' i r y := ⟨h.seen, h.ne, by rw [hb.block _ (Array.getElem?_eq_some_iff.1 h.blk).1]; exact h.blk, h.rel⟩
/- stores into a line -/
theorem y_store {w : World} {b j : Nat} {y y' : SLn} {v : Value} (h : w.heap[b]? = some (.cells y.cells.toArray 147 (0, 0))) (hv : y'.cells = y.cells.set j v) : (w.setCell ⟨b, j, none⟩ v).heap[b]? = some (.cells y'.cells.toArray 147 (0, 0)) := by
  rw [heap_store h, hv]
end Go.Proofs.YtblomippkddgiaaGreatDoor
/-
  What every world keeps: a new world, names, bonds, what flies, crashes.
-/
namespace Go.Proofs.YtblomippkddgiaaGreatDoor.R

theorem sn0_ok (life : Int) : SnOk life sn0 := ⟨fun _ => rfl, by simp [sn0], by simp [sn0], by simp [sn0], by simp [sn0], by simp [sn0], by simp [sn0]⟩
theorem ws0 (c : Cf) (h : okCf c) : WsOk c [0, 0, 0] (List.replicate 9 sn0) [] := by
  refine ⟨rfl, by simp, by simp, fun i r hr => ?_, ?_, by simp⟩
  · rw [List.getElem?_replicate] at hr
    split at hr
    · cases hr
      exact sn0_ok _
    · cases hr
  · unfold okCf at h
    simp
    omega
theorem ln0_ok (M : Bk) (sv : List Sv) (i : Nat) (life : Int) (b : List Int) (k : Nat) : LineOk M sv i life b k ln0 := ⟨by simp [ln0], by simp [ln0], by simp [ln0], by simp [ln0], by simp [ln0]⟩
theorem ln0_LnOk : LnOk ln0 := ⟨by simp [ln0], by simp [ln0]⟩
theorem cl0_line {life lines : Int} {k : Nat} {l : Ln} (h : (cl0 life lines).lines[k]? = some l) : l = ln0 := by
  simp only [cl0, List.getElem?_replicate] at h
  split at h
  · cases h; rfl
  · cases h
theorem Inv.new {c : Cf} {G : Wd} (h : newP c = some G) : Inv (fun _ => none) G := by
  unfold newP at h
  split at h
  · rename_i hc
    cases h
    have hcl : ∀ (i : Nat) (x : Cl), (List.replicate c.clients.toNat (cl0 1 c.lines))[i]? = some x → x = cl0 1 c.lines := fun i x hx => by
      rw [List.getElem?_replicate] at hx
      split at hx
      · cases hx; rfl
      · cases hx
    have hcc := hc
    unfold okCf at hcc
    refine ⟨⟨hc, by simp; omega, fun i x hx => ?_, by simp, by simp, by simp, by simp, by simp, by simp, by simp, by simp⟩, ws0 c hc, by simp, fun i x k l hx hl => ?_, by simp, fun i r hr hne => ?_, by simp, by simp, by simp, fun i x hx => ?_⟩
    · rw [hcl i x hx]
      exact ⟨by simp [cl0]; omega, by simp [cl0], by simp [cl0], fun k l hl => by rw [cl0_line hl]; exact ln0_LnOk⟩
    · rw [hcl i x hx] at hl
      rw [cl0_line hl]
      exact ln0_ok _ _ _ _ _ _
    · simp only [List.getElem?_replicate] at hr
      split at hr
      · cases hr
        exact absurd rfl hne
      · cases hr
    · rw [hcl i x hx]
      simp only [List.getD_eq_getElem?_getD]
      rcases i with _ | _ | _ | i <;> simp [cl0]
  · cases h

/- services turn: those that there are grow, what the server remembers is turned to void in part -/
theorem endP_serv (G : Wd) (uid : Int) (u : Nat) : (endP G uid).services[u]? = (G.services[u]?).map fun s => if (uid - 1).toNat = u then { s with alive := false } else s := by
  unfold endP
  generalize (uid - 1).toNat = n
  simp only [List.getElem?_modify]
  rfl
theorem Inv.end {M : Bk} {G : Wd} (h : Inv M G) (uid : Int) (hu : 1 ≤ uid) : Inv M (endP G uid) := by
  have hsv0 : ∀ (u : Nat) (s : Sv), G.services[u]? = some s → ∃ s', (endP G uid).services[u]? = some s' ∧ s'.kind = s.kind ∧ s'.log = s.log ∧ (s'.alive = true → s.alive = true) ∧ ((uid - 1).toNat ≠ u → s' = s) := fun u s hs => by
    refine ⟨if (uid - 1).toNat = u then { s with alive := false } else s, by rw [endP_serv, hs]; rfl, ?_⟩
    split
    · rename_i e
      exact ⟨rfl, rfl, (fun q => nomatch q), fun q => absurd e q⟩
    · exact ⟨rfl, rfl, fun q => q, fun _ => rfl⟩
  have hnn : ∀ u : Nat, G.services[u]? = none → (endP G uid).services[u]? = none := fun u hs => by rw [endP_serv, hs]; rfl
  have hg : Gr G.services (endP G uid).services := by
    refine ⟨by simp [endP], fun u s hs => ?_⟩
    obtain ⟨s', h1, h2, h3, _⟩ := hsv0 u s hs
    exact ⟨s', h1, h2, [], by simp [h3]⟩
  have hsv : ∀ (u : Nat) (s' : Sv), (endP G uid).services[u]? = some s' → ∃ s, G.services[u]? = some s ∧ s'.kind = s.kind ∧ s'.log = s.log ∧ (s'.alive = true → s.alive = true) := fun u s' hs => by
    cases h0 : G.services[u]? with
    | none => rw [hnn u h0] at hs; cases hs
    | some s =>
      obtain ⟨s2, h1, h2, h3, h4, _⟩ := hsv0 u s h0
      rw [hs] at h1
      cases h1
      exact ⟨s, rfl, h2, h3, h4⟩
  have hlog : ∀ u, logS (endP G uid).services u = logS G.services u := fun u => by
    unfold logS
    cases h0 : G.services[(u - 1).toNat]? with
    | none => rw [hnn _ h0]
    | some s =>
      obtain ⟨s2, h1, h2, h3, h4, _⟩ := hsv0 _ s h0
      rw [h1]
      exact h3
  have hal : ∀ u, u ≠ uid → 1 ≤ u → aliveS (endP G uid).services u = aliveS G.services u := fun u hne h1 => by
    unfold aliveS
    cases h0 : G.services[(u - 1).toNat]? with
    | none => rw [hnn _ h0]
    | some s =>
      obtain ⟨s2, q1, _, _, _, q5⟩ := hsv0 _ s h0
      rw [q1, q5 (by omega)]
  have hsn : ∀ (i : Nat) (r' : Sn), (endP G uid).seen[i]? = some r' → ∃ r, G.seen[i]? = some r ∧ r' = (if r.uid = uid ∧ r.state < 3 then { r with state := 4 } else r) := fun i r' hr => by
    simp only [endP, List.getElem?_map] at hr
    cases h0 : G.seen[i]? with
    | none => rw [h0] at hr; cases hr
    | some r =>
      rw [h0] at hr
      exact ⟨r, rfl, (Option.some.inj hr).symm⟩
  refine ⟨h.wf.ends uid, ⟨h.ws.ll, h.ws.lv, by simpa [endP] using h.ws.sl, fun i r' hr => ?_, h.ws.jl, h.ws.jb⟩, fun k d hd => ⟨(h.bk k d hd).1.grow hg, (h.bk k d hd).2⟩, fun i c k l hc hl => (h.ln i c k l hc hl).grow (Le.refl M) hg (fun _ q => q), fun f hf => (h.fl f hf).grow (Le.refl M) hg, fun i r' hr hne => ?_, fun u s' hs => ?_, fun u s' e hs ha he => ?_, h.jb, h.lv⟩
  · obtain ⟨r, h0, rfl⟩ := hsn i r' hr
    have q := h.ws.sn i r h0
    by_cases hv : r.uid = uid ∧ r.state < 3
    · rw [if_pos hv]
      have hs0 : r.seq ≠ 0 := fun e => by
        have := q.zero e
        rw [this] at hv
        have : sn0.uid = 0 := rfl
        omega
      have ht : r.timed = false := by
        cases e : r.timed with
        | false => rfl
        | true => have := (q.timed e).1; omega
      exact ⟨fun e => absurd e hs0, q.seq, fun _ => ⟨(q.some hs0).1, (q.some hs0).2.1, by simp⟩, by simp, by simp, by simp, by simp [ht]⟩
    · rw [if_neg hv]
      exact q
  · obtain ⟨r, h0, rfl⟩ := hsn i r' hr
    by_cases hv : r.uid = uid ∧ r.state < 3
    · rw [if_pos hv] at hne ⊢
      obtain ⟨d, q⟩ := h.sn i r h0 hne
      exact ⟨d, q.made, q.uid, by simp, by simp, by simp, by simp⟩
    · rw [if_neg hv] at hne ⊢
      obtain ⟨d, q⟩ := h.sn i r h0 hne
      refine ⟨d, q.made, q.uid, q.gath, q.wait, fun hs => ?_, fun hs => ?_⟩
      · obtain ⟨q1, q2⟩ := q.open' hs
        have hne2 : d.uid ≠ uid := fun e => hv ⟨by rw [q.uid]; exact e, by omega⟩
        have h1 : 1 ≤ d.uid := (h.bk _ d q.made).1.uid.1
        exact ⟨by rw [hal d.uid hne2 h1]; exact q1, by rw [hlog]; exact q2⟩
      · obtain ⟨e, he⟩ := q.ans hs
        exact ⟨e, he.grow hg⟩
  · obtain ⟨s, h0, h1, h2, _⟩ := hsv u s' hs
    have q := h.lg u s h0
    exact ⟨by rw [h2]; exact q.each, by rw [h2]; exact q.ord, by rw [h1, h2]; exact q.told⟩
  · obtain ⟨s, h0, h1, h2, h3⟩ := hsv u s' hs
    rw [h2] at he
    have q := h.fut u s e h0 (h3 ha) he
    rcases q with q | ⟨q1, q2⟩
    · exact Or.inl q
    · refine Or.inr ⟨q1, Int.le_trans q2 ?_⟩
      unfold snAt
      simp only [endP, List.getElem?_map]
      cases G.seen[3 * e.client.toNat + e.line.toNat]? with
      | none => simp
      | some r =>
        simp only [Option.map_some, Option.getD_some]
        split <;> simp
/- the registry, and a new service -/
theorem Inv.regist {M : Bk} {G : Wd} (h : Inv M G) {nm : List (List UInt8)} {st : List Int} (hw : Wf { G with names := nm, stands := st }) : Inv M { G with names := nm, stands := st } := ⟨hw, h.ws, h.bk, h.ln, h.fl, h.sn, h.lg, h.fut, h.jb, h.lv⟩
theorem Inv.serve {M : Bk} {G : Wd} (h : Inv M G) {kind : Int} (hw : Wf { G with services := G.services ++ [⟨kind, true, []⟩] }) : Inv M { G with services := G.services ++ [⟨kind, true, []⟩] } := by
  have hg : Gr G.services (G.services ++ [⟨kind, true, []⟩]) := ⟨by simp, fun u s hs => ⟨s, by rw [List.getElem?_append_left (List.getElem?_eq_some_iff.1 hs).1]; exact hs, rfl, [], by simp⟩⟩
  have hsv : ∀ (u : Nat) (s' : Sv), (G.services ++ [⟨kind, true, []⟩])[u]? = some s' → G.services[u]? = some s' ∨ s' = ⟨kind, true, []⟩ := fun u s' hs => by
    rcases Nat.lt_or_ge u G.services.length with hl | hl
    · rw [List.getElem?_append_left hl] at hs
      exact Or.inl hs
    · rw [List.getElem?_append_right hl] at hs
      cases hn : u - G.services.length with
      | zero => rw [hn] at hs; simp at hs; exact Or.inr hs.symm
      | succ n => rw [hn] at hs; simp at hs
  have hk : ∀ d : Cd, CdOk G.services d → logS (G.services ++ [⟨kind, true, []⟩]) d.uid = logS G.services d.uid ∧ aliveS (G.services ++ [⟨kind, true, []⟩]) d.uid = aliveS G.services d.uid := fun d hd => by
    have hu := hd.uid
    have : (d.uid - 1).toNat < G.services.length := by omega
    unfold logS aliveS
    rw [List.getElem?_append_left this]
    exact ⟨rfl, rfl⟩
  refine ⟨hw, h.ws, fun k d hd => ⟨(h.bk k d hd).1.grow hg, (h.bk k d hd).2⟩, fun i c k l hc hl => (h.ln i c k l hc hl).grow (Le.refl M) hg (fun _ q => q), fun f hf => (h.fl f hf).grow (Le.refl M) hg, fun i r hr hne => ?_, fun u s' hs => ?_, fun u s' e hs ha he => ?_, h.jb, h.lv⟩
  · obtain ⟨d, q⟩ := h.sn i r hr hne
    obtain ⟨k1, k2⟩ := hk d (h.bk _ d q.made).1
    refine ⟨d, q.made, q.uid, q.gath, q.wait, fun hs => ?_, fun hs => ?_⟩
    · obtain ⟨q1, q2⟩ := q.open' hs
      exact ⟨by rw [k2]; exact q1, by rw [k1]; exact q2⟩
    · obtain ⟨e, he⟩ := q.ans hs
      exact ⟨e, he.grow hg⟩
  · rcases hsv u s' hs with q | rfl
    · exact h.lg u s' q
    · exact ⟨by simp, by simp, by simp [Told]⟩
  · rcases hsv u s' hs with q | rfl
    · exact h.fut u s' e q ha he
    · cases he
theorem stand_in {G : Wd} (h : Wf G) {name : List UInt8} {k : Nat} (he : entryP G name = some k) : G.stands.getD k 0 ∈ G.stands := by
  have hk := (List.getElem?_eq_some_iff.1 (entry_get he)).1
  have hk2 : k < G.stands.length := by rw [h.st]; exact hk
  rw [List.getD_eq_getElem?_getD, List.getElem?_eq_getElem hk2]
  exact List.getElem_mem hk2
theorem Inv.export {M : Bk} {G : Wd} (h : Inv M G) (name : List UInt8) (kind : Int) : Inv M (exportP G name kind).2 := by
  have hw := h.wf.export name kind
  unfold exportP at hw ⊢
  split
  · exact h
  · rename_i h1
    rw [if_neg h1] at hw
    split
    · exact h
    · rename_i h2
      rw [if_neg h2] at hw
      split
      · rename_i he
        simp only [he] at hw
        split
        · exact h
        · rename_i h3
          rw [if_neg h3] at hw
          split
          · exact h
          · rename_i h4
            rw [if_neg h4] at hw
            have hw2 : Wf { G with services := G.services ++ [⟨kind, true, []⟩] } := h.wf.serve (nm := G.names) (st := G.stands) (by omega) (by have := h.wf.sv; omega) h.wf.nm h.wf.st h.wf.nd (fun u hu => by have := h.wf.sts u hu; omega)
            exact (h.serve hw2).regist hw
      · rename_i k he
        simp only [he] at hw
        split
        · exact h
        · rename_i h4
          rw [if_neg h4] at hw
          have hs := h.wf.sts _ (stand_in h.wf he)
          have hE := h.end (G.stands.getD k 0) hs.1
          have hl : (endP G (G.stands.getD k 0)).services.length = G.services.length := by simp [endP]
          have hw2 := hE.wf.serve (kind := kind) (nm := G.names) (st := G.stands) (by omega) (by have := h.wf.sv; rw [hl]; omega) h.wf.nm h.wf.st h.wf.nd (fun u hu => by have := h.wf.sts u hu; rw [hl]; omega)
          exact (hE.serve hw2).regist hw
theorem Inv.withdraw {M : Bk} {G : Wd} (h : Inv M G) (name : List UInt8) : Inv M (withdrawP G name).2 := by
  have hw := h.wf.withdraw name
  unfold withdrawP at hw ⊢
  split
  · exact h
  · rename_i k he
    simp only [he] at hw
    have hs := h.wf.sts _ (stand_in h.wf he)
    exact (h.end (G.stands.getD k 0) hs.1).regist hw
theorem Inv.imports {M : Bk} {G : Wd} (h : Inv M G) (client : Int) (name : List UInt8) : Inv M (importP G client name).2 := by
  have hw := h.wf.imports client name
  unfold importP at hw ⊢
  split
  · exact h
  · rename_i h1
    rw [if_neg h1] at hw
    split
    · exact h
    · rename_i k he
      simp only [he] at hw
      have hcl : ∀ (j : Nat) (c' : Cl), (G.clients.modify client.toNat fun c => { c with bound := c.bound ++ [G.stands.getD k 0] })[j]? = some c' → ∃ c, G.clients[j]? = some c ∧ c'.life = c.life ∧ c'.lines = c.lines ∧ ∀ u ∈ c.bound, u ∈ c'.bound := fun j c' hj => by
        rw [List.getElem?_modify] at hj
        cases h0 : G.clients[j]? with
        | none => rw [h0] at hj; cases hj
        | some c =>
          rw [h0] at hj
          have hj := Option.some.inj hj
          refine ⟨c, rfl, ?_⟩
          rw [← hj]
          split
          · exact ⟨rfl, rfl, fun u hu => List.mem_append_left _ hu⟩
          · exact ⟨rfl, rfl, fun u hu => hu⟩
      refine ⟨hw, h.ws, fun q d hq => ?_, fun i c' n l hc hl => ?_, h.fl, h.sn, h.lg, h.fut, h.jb, fun i c' hc => ?_⟩
      · obtain ⟨g1, a, ca, n, x, r1, r2, r3, r4, r5, r6, r7, r8, r9⟩ := h.bk q d hq
        refine ⟨g1, a, (if client.toNat = a then { ca with bound := ca.bound ++ [G.stands.getD k 0] } else ca), n, x, r1, ?_, r3, ?_, r5, ?_, r7, r8, ?_⟩
        · simp only [List.getElem?_modify, r2]
          rfl
        all_goals split <;> assumption
      · obtain ⟨c, q1, q2, q3, q4⟩ := hcl i c' hc
        rw [q3] at hl
        rw [q2]
        exact (h.ln i c n l q1 hl).grow (Le.refl M) (Gr.refl _) q4
      · obtain ⟨c, q1, q2, q3, q4⟩ := hcl i c' hc
        rw [q2]
        exact h.lv i c q1

/- what flies -/
theorem Inv.erase {M : Bk} {G : Wd} (h : Inv M G) (k : Nat) : Inv M { G with flying := G.flying.eraseIdx k } := by
  refine h.fly ⟨h.wf.cf, h.wf.ncl, fun j c hc => ⟨(h.wf.cl j c hc).lines, (h.wf.cl j c hc).life, (h.wf.cl j c hc).bound, (h.wf.cl j c hc).line⟩, ?_, fun f hf => h.wf.flys f (List.mem_of_mem_eraseIdx hf), h.wf.sv, h.wf.svk, h.wf.nm, h.wf.st, h.wf.nd, h.wf.sts⟩ (fun f hf => h.fl f (List.mem_of_mem_eraseIdx hf))
  have := List.length_eraseIdx_le (l := G.flying) (i := k)
  have := h.wf.fly
  simp only
  omega
theorem Inv.drop {M : Bk} {G : Wd} (h : Inv M G) (i : Int) : Inv M (dropP G i).2 := by
  unfold dropP
  split
  · exact h
  · exact h.erase _
theorem Inv.copy {M : Bk} {G : Wd} (h : Inv M G) (i : Int) : Inv M (copyP G i).2 := by
  unfold copyP
  split
  · exact h
  · split
    · exact h
    · split
      · exact h
      · rename_i f hf
        have hm := List.mem_of_getElem? hf
        refine h.fly ⟨h.wf.cf, h.wf.ncl, fun j c hc => ⟨(h.wf.cl j c hc).lines, (h.wf.cl j c hc).life, (h.wf.cl j c hc).bound, (h.wf.cl j c hc).line⟩, ?_, fun g hg => ?_, h.wf.sv, h.wf.svk, h.wf.nm, h.wf.st, h.wf.nd, h.wf.sts⟩ (fun g hg => ?_)
        · simp only [List.length_append, List.length_singleton]
          omega
        · rcases List.mem_append.1 hg with q | q
          · exact h.wf.flys g q
          · rw [List.mem_singleton.1 q]
            exact h.wf.flys f hm
        · rcases List.mem_append.1 hg with q | q
          · exact h.fl g q
          · rw [List.mem_singleton.1 q]
            exact h.fl f hm
theorem xor_ne (a : UInt8) {n : Int} (h : 1 ≤ n ∧ n ≤ 255) : a ^^^ b8 n ≠ a := fun e => by
  have h1 : b8 n = 0 := by
    have := congrArg (fun x => a ^^^ x) e
    simpa [← UInt8.xor_assoc] using this
  have := b8_val (n := n) (by omega) h.2
  rw [h1] at this
  simp at this
  omega
theorem Inv.bend {M : Bk} {G : Wd} (h : Inv M G) (i at' by' : Int) : Inv M (bendP G i at' by').2 := by
  unfold bendP
  split
  · exact h
  · split
    · exact h
    · rename_i f hf
      have hm := List.mem_of_getElem? hf
      split
      · exact h
      · rename_i hr
        split
        · exact h
        · rename_i hb
          have hfo := h.fl f hm
          unfold FlOk at hfo
          rw [if_neg hb] at hfo
          obtain ⟨p, h1, h2, h3⟩ := hfo
          have hat : at'.toNat < f.s.length := by omega
          refine h.fly ⟨h.wf.cf, h.wf.ncl, fun j c hc => ⟨(h.wf.cl j c hc).lines, (h.wf.cl j c hc).life, (h.wf.cl j c hc).bound, (h.wf.cl j c hc).line⟩, ?_, fun g hg => ?_, h.wf.sv, h.wf.svk, h.wf.nm, h.wf.st, h.wf.nd, h.wf.sts⟩ (fun g hg => ?_)
          · rw [List.length_set]
            exact h.wf.fly
          · rcases List.mem_or_eq_of_mem_set hg with q | q
            · exact h.wf.flys g q
            · rw [q]
              simpa using h.wf.flys f hm
          · rcases List.mem_or_eq_of_mem_set hg with q | q
            · exact h.fl g q
            · rw [q]
              unfold FlOk
              rw [if_pos rfl]
              simp only
              rw [h2] at hat ⊢
              refine seal_turned p at'.toNat _ hat ?_
              rw [List.getElem?_eq_getElem hat, List.getD_eq_getElem?_getD, List.getElem?_eq_getElem hat]
              intro e
              exact xor_ne _ (by omega) (Option.some.inj e).symm

/- crashes -/
theorem Inv.crash {M : Bk} {G : Wd} (h : Inv M G) (host : Int) : Inv M (crashP G host).2 := by
  unfold crashP
  split
  · have hg : Gr G.services (G.services.map fun s => { s with alive := false }) := ⟨by simp, fun u s hs => ⟨{ s with alive := false }, by simp [hs], rfl, [], by simp⟩⟩
    have hsv : ∀ (u : Nat) (s' : Sv), (G.services.map fun s => { s with alive := false })[u]? = some s' → ∃ s, G.services[u]? = some s ∧ s' = { s with alive := false } := fun u s' hs => by
      rw [List.getElem?_map] at hs
      cases h0 : G.services[u]? with
      | none => rw [h0] at hs; cases hs
      | some s => rw [h0] at hs; exact ⟨s, rfl, (Option.some.inj hs).symm⟩
    refine ⟨⟨h.wf.cf, h.wf.ncl, fun i c hc => ⟨(h.wf.cl i c hc).lines, (h.wf.cl i c hc).life, fun u hu => by simpa using (h.wf.cl i c hc).bound u hu, (h.wf.cl i c hc).line⟩, h.wf.fly, h.wf.flys, by simpa using h.wf.sv, fun s hs => ?_, h.wf.nm, h.wf.st, h.wf.nd, fun u hu => by simpa using h.wf.sts u hu⟩, ws0 G.c h.wf.cf, fun k d hd => ⟨(h.bk k d hd).1.grow hg, (h.bk k d hd).2⟩, fun i c k l hc hl => (h.ln i c k l hc hl).grow (Le.refl M) hg (fun _ q => q), fun f hf => (h.fl f hf).grow (Le.refl M) hg, fun i r hr hne => ?_, fun u s' hs => ?_, fun u s' e hs ha he => ?_, by simp, fun i c hc => ?_⟩
    · obtain ⟨s0, h0, rfl⟩ := List.mem_map.1 hs
      exact h.wf.svk s0 h0
    · simp only [List.getElem?_replicate] at hr
      split at hr
      · cases hr
        exact absurd rfl hne
      · cases hr
    · obtain ⟨s, h0, rfl⟩ := hsv u s' hs
      have q := h.lg u s h0
      exact ⟨q.each, q.ord, q.told⟩
    · obtain ⟨s, h0, rfl⟩ := hsv u s' hs
      cases ha
    · have := (h.wf.cl i c hc).life
      simp only [List.getD_eq_getElem?_getD]
      rcases i with _ | _ | _ | i <;> simp <;> omega
  · split
    · exact h
    · rename_i h1 h2
      obtain ⟨n, rfl⟩ : ∃ n : Nat, host = (n : Int) := ⟨host.toNat, by omega⟩
      have hn : n < G.clients.length := by omega
      have hcn : G.clients[n]? = some G.clients[n] := List.getElem?_eq_getElem hn
      split
      · exact h
      · rename_i h3
        rw [lifeP_some hcn] at h3 ⊢
        have hcw := h.wf.cl n _ hcn
        have hcl : ∀ (j : Nat) (c' : Cl), (G.clients.set (n : Int).toNat (cl0 (G.clients[n].life + 1) G.c.lines))[j]? = some c' → (j = n ∧ c' = cl0 (G.clients[n].life + 1) G.c.lines) ∨ (j ≠ n ∧ G.clients[j]? = some c') := fun j c' hj => by
          rw [List.getElem?_set, Int.toNat_natCast] at hj
          by_cases e : n = j
          · subst e
            simp [hn] at hj
            exact Or.inl ⟨rfl, hj.symm⟩
          · simp [e] at hj
            exact Or.inr ⟨fun q => e q.symm, hj⟩
        have hcf := h.wf.cf
        unfold okCf at hcf
        refine ⟨⟨h.wf.cf, by simpa using h.wf.ncl, fun j c' hj => ?_, h.wf.fly, h.wf.flys, h.wf.sv, h.wf.svk, h.wf.nm, h.wf.st, h.wf.nd, h.wf.sts⟩, h.ws, fun q d hq => ?_, fun j c' k l hj hl => ?_, h.fl, h.sn, h.lg, h.fut, h.jb, fun j c' hj => ?_⟩
        · rcases hcl j c' hj with ⟨rfl, rfl⟩ | ⟨_, q⟩
          · have := hcw.life
            exact ⟨by simp [cl0]; omega, by simp [cl0]; omega, by simp [cl0], fun k l hl => by rw [cl0_line hl]; exact ln0_LnOk⟩
          · exact ⟨(h.wf.cl j c' q).lines, (h.wf.cl j c' q).life, (h.wf.cl j c' q).bound, (h.wf.cl j c' q).line⟩
        · obtain ⟨g1, a, ca, m, x, r1, r2, r3, r4, r5, r6, r7, r8, r9⟩ := h.bk q d hq
          refine ⟨g1, ?_⟩
          by_cases e : n = a
          · subst e
            rw [hcn] at r2
            cases r2
            have hml := (List.getElem?_eq_some_iff.1 r4).1
            have hln := hcw.lines
            refine ⟨n, cl0 (G.clients[n].life + 1) G.c.lines, m, ln0, r1, by simp [hn], r3, ?_, r5, by simp [cl0]; omega, r7, r8, fun e => ?_⟩
            · simp only [cl0, List.getElem?_replicate]
              rw [if_pos (by omega)]
            · simp [cl0] at e
              omega
          · refine ⟨a, ca, m, x, r1, ?_, r3, r4, r5, r6, r7, r8, r9⟩
            rw [List.getElem?_set, Int.toNat_natCast, if_neg e]
            exact r2
        · rcases hcl j c' hj with ⟨rfl, rfl⟩ | ⟨_, q⟩
          · rw [cl0_line hl]
            exact ln0_ok _ _ _ _ _ _
          · exact h.ln j c' k l q hl
        · rcases hcl j c' hj with ⟨rfl, rfl⟩ | ⟨_, q⟩
          · have := h.lv j _ hcn
            simp [cl0] at this ⊢
            omega
          · exact h.lv j c' q
end Go.Proofs.YtblomippkddgiaaGreatDoor.R
