/-
  Joined: RInv4 RInv5.
-/
import Derived.Test.YtblomippkddgiaaGreatDoorJ39
/-
  What every world keeps: what comes to the server, and its time.
-/
namespace Go.Proofs.YtblomippkddgiaaGreatDoor.R

theorem seenP_some {G : Wd} {i : Nat} {r : Sn} (h : G.seen[i]? = some r) : seenP G i = r := by simp [seenP, h]
theorem Inv.seen_at {M : Bk} {G : Wd} (h : Inv M G) {i : Nat} (hi : i < 9) : G.seen[i]? = some (seenP G i) := by
  have hl : i < G.seen.length := by rw [h.ws.sl]; exact hi
  rw [seenP_some (List.getElem?_eq_getElem hl)]
  exact List.getElem?_eq_getElem hl
theorem Inv.replied {M : Bk} {G : Wd} (h : Inv M G) {p : Pk} (hr : RightP p) {d : Cd} (hd : M (pkKey p) = some d) (hu : p.uid = d.uid) {kind k of' : Int} (hk : 1 ≤ kind ∧ kind ≤ 7) (ho : 1 ≤ of' ∧ of' ≤ 9) (hp : 0 ≤ k ∧ k < of') (hok : (kind = 2 ∧ of' = piecesP d.msg) ∨ kind = 4 ∨ (kind = 7 ∧ of' = 2)) : Inv M (replyP G p kind k of') := by
  obtain ⟨r1, r2, r3, r4, r5, r6, r7, r8, r9⟩ := hr
  unfold replyP
  refine h.sendP ⟨hk, r2, r3, r4, r5, r6, ho, by simp only; omega, ?_⟩ ⟨d, hd, hu, ?_⟩
  · show bodyOk _
    unfold bodyOk
    rw [if_neg (by simp only; omega)]
    rfl
  · rcases hok with ⟨rfl, rfl⟩ | rfl | ⟨rfl, rfl⟩
    · exact Or.inr (Or.inl ⟨rfl, rfl, rfl⟩)
    · exact Or.inr (Or.inr (Or.inr (Or.inl ⟨rfl, rfl⟩)))
    · exact Or.inr (Or.inr (Or.inr (Or.inr (Or.inr (Or.inr ⟨rfl, rfl, rfl⟩)))))

/- a piece of a result is sent -/
theorem piece_last {s : List UInt8} {k : Int} : 8 * k + 8 < (s.length : Int) ↔ k < piecesP s - 1 := by unfold piecesP; omega
theorem Inv.result_right {M : Bk} {G : Wd} (h : Inv M G) {i : Nat} (hi : i < 9) {r : Sn} (hr : G.seen[i]? = some r) (h3 : r.state = 3) :
    RightP ⟨5, ((i / 3 : Nat) : Int), (G.lives[i / 3]?).getD 0, ((i % 3 : Nat) : Int), r.seq, r.uid, r.at', piecesP r.result, false, pieceP r.result r.at'⟩ := by
  have hs := h.ws.sn i r hr
  have hne : r.seq ≠ 0 := fun e => by
    rw [hs.zero e] at h3
    cases h3
  obtain ⟨a1, a2, a3⟩ := hs.some hne
  obtain ⟨b1, b2, b3, b4⟩ := hs.ans h3
  have hq := hs.seq
  have hlf : ∀ x ∈ G.lives, 0 ≤ x ∧ x ≤ 255 := h.ws.lv
  have hlt : i / 3 < G.lives.length := by rw [h.ws.ll]; omega
  have hl1 := hlf _ (List.getElem_mem hlt)
  rw [List.getD_eq_getElem?_getD, List.getElem?_eq_getElem hlt] at a1
  rw [List.getElem?_eq_getElem hlt]
  simp only [Option.getD_some] at a1 ⊢
  have hp1 := pieces_pos b1
  have hp2 := pieces_le b2
  refine ⟨by simp, by simp only; omega, by simp only; omega, by simp only; omega, by simp only; omega, a2, by simp only; omega, by simp only; omega, ?_⟩
  show bodyOk _
  unfold bodyOk
  rw [if_pos (by simp)]
  exact piece_body b3
theorem Inv.sendResult {M : Bk} {G : Wd} (h : Inv M G) {i : Nat} (hi : i < 9) {r : Sn} (hr : G.seen[i]? = some r) (h3 : r.state = 3) : Inv M (sendResultP G i) := by
  have hrt := h.result_right hi hr h3
  have hs := h.ws.sn i r hr
  have hne : r.seq ≠ 0 := fun e => by
    rw [hs.zero e] at h3
    cases h3
  unfold sendResultP
  simp only
  rw [seenP_some hr]
  refine h.sendP hrt ?_
  obtain ⟨d, q⟩ := h.sn i r hr hne
  obtain ⟨e, he⟩ := q.ans h3
  have hm := q.made
  rw [List.getD_eq_getElem?_getD] at hm he
  exact ⟨d, hm, q.uid, Or.inr (Or.inr (Or.inr (Or.inr (Or.inl ⟨rfl, rfl, e, r.result, he, rfl, rfl⟩))))⟩
theorem SeenOk.same {M : Bk} {sv : List Sv} {k : Key} {r r' : Sn} {d : Cd} (h : SeenOk M sv k r d) (e1 : r'.uid = r.uid) (e2 : r'.state = r.state) (e3 : r'.message = r.message) (e4 : r'.pieces = r.pieces) (e5 : r'.result = r.result) : SeenOk M sv k r' d :=
  ⟨h.made, by rw [e1]; exact h.uid, by rw [e2, e3, e4]; exact h.gath, by rw [e2, e3]; exact h.wait, by rw [e2]; exact h.open', by rw [e2, e5]; exact h.ans⟩
theorem Inv.tell {M : Bk} {G : Wd} (h : Inv M G) {i : Nat} (hi : i < 9) {r : Sn} (hr : G.seen[i]? = some r) (h3 : r.state = 3) : Inv M (tellP G i) := by
  have h1 := h.sendResult hi hr h3
  have hs := h.ws.sn i r hr
  have hr1 : (sendResultP G i).seen[i]? = some r := by unfold sendResultP; rw [sendP_seen]; exact hr
  have hc1 : (sendResultP G i).c = G.c := by unfold sendResultP; rw [sendP_c']
  have hl1 : (sendResultP G i).lives = G.lives := by unfold sendResultP; rw [sendP_lives]
  unfold tellP
  simp only
  rw [seenP_some hr1]
  have hcf := h.wf.cf
  unfold okCf at hcf
  refine h1.setSeen hr1 (Int.le_refl _) ?_ (fun hne => ?_)
  · rw [hl1]
    refine ⟨fun e => ?_, hs.seq, hs.some, hs.gath, hs.wait, hs.ans, fun _ => ⟨h3, by simp only; omega, by simp only; omega⟩⟩
    have := hs.zero e
    rw [this] at h3
    cases h3
  · obtain ⟨d, q⟩ := h1.sn i r hr1 hne
    exact ⟨d, q.same rfl rfl rfl rfl rfl⟩

/- time at the server -/
theorem Inv.tickSeen {M : Bk} {G : Wd} (h : Inv M G) {i : Nat} (hi : i < 9) : Inv M (tickSeen G i) := by
  have hr := h.seen_at hi
  unfold R.tickSeen
  simp only
  generalize seenP G i = r at hr ⊢
  have hs := h.ws.sn i r hr
  have hcf := h.wf.cf
  unfold okCf at hcf
  split
  · exact h
  · rename_i ht
    have ht : r.timed = true := by simpa using ht
    obtain ⟨t1, t3, t4⟩ := hs.timed ht
    have hne : r.seq ≠ 0 := fun e => by
      rw [hs.zero e] at t1
      cases t1
    have z : ∀ {r' : Sn}, r'.seq = r.seq → (r'.seq = 0 → r' = sn0) := fun e q => absurd (e ▸ q) hne
    obtain ⟨d, q⟩ := h.sn i r hr hne
    split
    · rename_i h1
      exact h.setSeen hr (Int.le_refl _) ⟨z rfl, hs.seq, hs.some, hs.gath, hs.wait, hs.ans, fun _ => ⟨t1, by simp only; omega, t4⟩⟩ (fun _ => ⟨d, q.same rfl rfl rfl rfl rfl⟩)
    · split
      · exact h.setSeen hr (Int.le_refl _) ⟨z rfl, hs.seq, hs.some, hs.gath, hs.wait, hs.ans, by simp⟩ (fun _ => ⟨d, q.same rfl rfl rfl rfl rfl⟩)
      · rename_i h1 h2
        have h3 := h.setSeen (r' := { r with wait := G.c.retry, tries := r.tries - 1 }) hr (Int.le_refl _) ⟨z rfl, hs.seq, hs.some, hs.gath, hs.wait, hs.ans, fun _ => ⟨t1, by simp only; omega, by simp only; omega⟩⟩ (fun _ => ⟨d, q.same rfl rfl rfl rfl rfl⟩)
        exact h3.sendResult hi (r := { r with wait := G.c.retry, tries := r.tries - 1 }) (by simp [R.setSeen, (List.getElem?_eq_some_iff.1 hr).1]) t1
theorem tickLine_shape (G : Wd) (i k : Int) : (tickLine G i k).c = G.c ∧ (tickLine G i k).clients.length = G.clients.length := by
  unfold tickLine sendPieceP probeP
  simp only
  repeat' split
  all_goals first | exact ⟨rfl, rfl⟩ | (rw [sendP_c', sendP_clients']; simp [setLine]; done) | (simp [setLine]; done)
theorem Inv.tick {M : Bk} {G : Wd} (h : Inv M G) : Inv M (tickP G) := by
  have hlines : ∀ (i : Nat) (G : Wd), Inv M G → i < G.clients.length → ∀ n : Nat, (n : Int) ≤ G.c.lines → Inv M ((List.range n).foldl (fun w (k : Nat) => R.tickLine w (i : Int) (k : Int)) G) ∧ ((List.range n).foldl (fun w (k : Nat) => R.tickLine w (i : Int) (k : Int)) G).c = G.c ∧ ((List.range n).foldl (fun w (k : Nat) => R.tickLine w (i : Int) (k : Int)) G).clients.length = G.clients.length := by
    intro i G h hi n
    induction n with
    | zero => exact fun _ => ⟨h, rfl, rfl⟩
    | succ n ih =>
      intro hn
      obtain ⟨q1, q2, q3⟩ := ih (by omega)
      rw [List.range_succ, List.foldl_append]
      simp only [List.foldl_cons, List.foldl_nil]
      generalize (List.range n).foldl (fun w (k : Nat) => R.tickLine w (i : Int) (k : Int)) G = K at q1 q2 q3 ⊢
      have hi' : i < K.clients.length := by omega
      have hc := List.getElem?_eq_getElem hi'
      have hl := (q1.wf.cl i _ hc).lines
      have hn' : n < K.clients[i].lines.length := by rw [q2] at hl; omega
      obtain ⟨s1, s2⟩ := tickLine_shape K i n
      exact ⟨q1.tickLine ⟨hc, List.getElem?_eq_getElem hn'⟩, s1.trans q2, s2.trans q3⟩
  have hcl : ∀ n, n ≤ G.clients.length → Inv M ((List.range n).foldl (fun w (i : Nat) => (List.range w.c.lines.toNat).foldl (fun w (k : Nat) => R.tickLine w (i : Int) (k : Int)) w) G) ∧ ((List.range n).foldl (fun w (i : Nat) => (List.range w.c.lines.toNat).foldl (fun w (k : Nat) => R.tickLine w (i : Int) (k : Int)) w) G).clients.length = G.clients.length := by
    intro n
    induction n with
    | zero => exact fun _ => ⟨h, rfl⟩
    | succ n ih =>
      intro hn
      obtain ⟨q1, q2⟩ := ih (by omega)
      rw [List.range_succ, List.foldl_append]
      simp only [List.foldl_cons, List.foldl_nil]
      generalize (List.range n).foldl (fun w (i : Nat) => (List.range w.c.lines.toNat).foldl (fun w (k : Nat) => R.tickLine w (i : Int) (k : Int)) w) G = K at q1 q2 ⊢
      have hcf := q1.wf.cf
      unfold okCf at hcf
      obtain ⟨s1, s2, s3⟩ := hlines n K q1 (by omega) K.c.lines.toNat (by omega)
      exact ⟨s1, s3.trans q2⟩
  have hL : Inv M (tickLines G) := (hcl _ (Nat.le_refl _)).1
  have hS : ∀ n, n ≤ 9 → Inv M ((List.range n).foldl R.tickSeen (tickLines G)) := by
    intro n
    induction n with
    | zero => exact fun _ => hL
    | succ n ih =>
      intro hn
      rw [List.range_succ, List.foldl_append]
      exact (ih (by omega)).tickSeen (by omega)
  exact hS 9 (Nat.le_refl _)

/- a greater life -/
theorem Inv.lives {M : Bk} {G : Wd} (h : Inv M G) {p : Pk} (hr : RightP p) {d : Cd} (hd : M (pkKey p) = some d) : Inv M (livesP G p) := by
  unfold livesP
  split
  · rename_i hlt
    obtain ⟨_, i, c, k, l, r1, r2, r3, r4, r5, r6, r7, r8, r9⟩ := h.bk _ d hd
    simp only [pkKey] at r1 r5 r6
    obtain ⟨_, p2, p3, _⟩ := hr
    have hi3 : i < 3 := by omega
    rw [r1, Int.toNat_natCast] at hlt ⊢
    have hll := h.ws.ll
    have hsl := h.ws.sl
    have hg : ∀ j, (G.lives.set i p.life).getD j 0 = if j = i then p.life else G.lives.getD j 0 := fun j => by
      simp only [List.getD_eq_getElem?_getD, List.getElem?_set]
      by_cases e : i = j
      · subst e
        simp [hll, hi3]
      · have e2 : ¬ j = i := fun q => e q.symm
        simp [e, e2]
    have hset : ∀ (l : List Sn) (m j : Nat) (r : Sn), (l.set m sn0)[j]? = some r → (m = j ∧ r = sn0) ∨ (m ≠ j ∧ l[j]? = some r) := fun l m j r hj => by
      rw [List.getElem?_set] at hj
      by_cases e : m = j
      · rw [if_pos e] at hj
        split at hj
        · exact Or.inl ⟨e, (Option.some.inj hj).symm⟩
        · cases hj
      · rw [if_neg e] at hj
        exact Or.inr ⟨e, hj⟩
    have hsn : ∀ (j : Nat) (r : Sn), (((G.seen.set (3 * i) sn0).set (3 * i + 1) sn0).set (3 * i + 2) sn0)[j]? = some r → (j / 3 = i ∧ r = sn0) ∨ (j / 3 ≠ i ∧ G.seen[j]? = some r) := fun j r hj => by
      rcases hset _ _ j r hj with ⟨e, q⟩ | ⟨e2, hj⟩
      · exact Or.inl ⟨by omega, q⟩
      · rcases hset _ _ j r hj with ⟨e, q⟩ | ⟨e1, hj⟩
        · exact Or.inl ⟨by omega, q⟩
        · rcases hset _ _ j r hj with ⟨e, q⟩ | ⟨e0, hj⟩
          · exact Or.inl ⟨by omega, q⟩
          · exact Or.inr ⟨by omega, hj⟩
    refine ⟨⟨h.wf.cf, h.wf.ncl, fun j c hc => ⟨(h.wf.cl j c hc).lines, (h.wf.cl j c hc).life, (h.wf.cl j c hc).bound, (h.wf.cl j c hc).line⟩, h.wf.fly, h.wf.flys, h.wf.sv, h.wf.svk, h.wf.nm, h.wf.st, h.wf.nd, h.wf.sts⟩, ⟨by simpa using hll, fun x hx => ?_, by simpa using hsl, fun j r hj => ?_, h.ws.jl, h.ws.jb⟩, h.bk, h.ln, h.fl, fun j r hj hne => ?_, h.lg, fun u s e hs ha he => ?_, h.jb, fun j c' hj => ?_⟩
    · rcases List.mem_or_eq_of_mem_set hx with q | q
      · exact h.ws.lv x q
      · rw [q]
        omega
    · rcases hsn j r hj with ⟨_, rfl⟩ | ⟨q1, q2⟩
      · exact sn0_ok _
      · rw [hg, if_neg q1]
        exact h.ws.sn j r q2
    · rcases hsn j r hj with ⟨_, rfl⟩ | ⟨q1, q2⟩
      · exact absurd rfl hne
      · rw [hg, if_neg q1]
        exact h.sn j r q2 hne
    · have hen := (h.lg u s hs).each e he
      obtain ⟨de, _, hde, _⟩ := hen.some
      obtain ⟨_, a, ca, n, x, s1, s2, s3, s4, _⟩ := h.bk _ de hde
      simp only [enKey] at s1 s3
      have hw := h.wf.cl a ca s2
      have hn3 := (List.getElem?_eq_some_iff.1 s4).1
      have hcf := h.wf.cf
      unfold okCf at hcf
      have hnl := hw.lines
      unfold FutOk
      rw [s1, Int.toNat_natCast]
      simp only
      rw [hg]
      have hf := h.fut u s e hs ha he
      unfold FutOk at hf
      rw [s1, Int.toNat_natCast] at hf
      by_cases hai : a = i
      · subst hai
        rw [if_pos rfl]
        rcases hf with q | ⟨q, _⟩
        · exact Or.inl (by omega)
        · exact Or.inl (by omega)
      · rw [if_neg hai]
        rcases hf with q | ⟨q1, q2⟩
        · exact Or.inl q
        · refine Or.inr ⟨q1, ?_⟩
          unfold snAt at q2 ⊢
          have e3 : (3 * (a : Int).toNat + e.line.toNat) / 3 = a := by rw [s3]; omega
          simp only [List.getElem?_set]
          rw [if_neg (by omega), if_neg (by omega), if_neg (by omega)]
          exact q2
    · rw [hg]
      split
      · rename_i e
        subst e
        rw [r2] at hj
        cases hj
        exact r6
      · exact h.lv j c' hj
  · exact h
end Go.Proofs.YtblomippkddgiaaGreatDoor.R
/-
  What every world keeps: what the server is asked for.
-/
namespace Go.Proofs.YtblomippkddgiaaGreatDoor.R

theorem Inv.putJob {M : Bk} {G : Wd} (h : Inv M G) {js : List Jb} (hl : (js.length : Int) ≤ G.c.table) (hj : ∀ j ∈ js, ((0 ≤ j.client ∧ j.client ≤ 2) ∧ (0 ≤ j.line ∧ j.line ≤ 2)) ∧ ∃ d, M ⟨j.client, j.life, j.line, j.seq⟩ = some d ∧ j.uid = d.uid) : Inv M { G with jobs := js } :=
  ⟨⟨h.wf.cf, h.wf.ncl, fun j c hc => ⟨(h.wf.cl j c hc).lines, (h.wf.cl j c hc).life, (h.wf.cl j c hc).bound, (h.wf.cl j c hc).line⟩, h.wf.fly, h.wf.flys, h.wf.sv, h.wf.svk, h.wf.nm, h.wf.st, h.wf.nd, h.wf.sts⟩, ⟨h.ws.ll, h.ws.lv, h.ws.sl, h.ws.sn, hl, fun j q => (hj j q).1⟩, h.bk, h.ln, h.fl, h.sn, h.lg, h.fut, fun j q => (hj j q).2, h.lv⟩

/- the line that a packet speaks of -/
structure PkAt (M : Bk) (G : Wd) (p : Pk) (d : Cd) (i : Nat) : Prop where
  right : RightP p
  made : M (pkKey p) = some d
  uid : p.uid = d.uid
  life : p.life = G.lives.getD (i / 3) 0
  i : i = 3 * p.client.toNat + p.line.toNat
theorem PkAt.key {M : Bk} {G : Wd} {p : Pk} {d : Cd} {i : Nat} (h : PkAt M G p d i) : pkKey p = ⟨((i / 3 : Nat) : Int), G.lives.getD (i / 3) 0, ((i % 3 : Nat) : Int), p.seq⟩ := by
  obtain ⟨_, p2, _, p4, _⟩ := h.right
  have := h.i
  simp only [pkKey, Key.mk.injEq]
  exact ⟨by omega, h.life, by omega, trivial⟩
theorem PkAt.lt {M : Bk} {G : Wd} {p : Pk} {d : Cd} {i : Nat} (h : PkAt M G p d i) : i < 9 := by
  obtain ⟨_, p2, _, p4, _⟩ := h.right
  have := h.i
  omega
theorem PkAt.cong {M : Bk} {G G' : Wd} {p : Pk} {d : Cd} {i : Nat} (h : PkAt M G p d i) (e : G'.lives = G.lives) : PkAt M G' p d i := ⟨h.right, h.made, h.uid, by rw [e]; exact h.life, h.i⟩

theorem Inv.ack {M : Bk} {G : Wd} (h : Inv M G) {p : Pk} {d : Cd} {i : Nat} (ha : PkAt M G p d i) (ho : p.off = piecesP d.msg) : Inv M (ackP G p) := by
  obtain ⟨r1, r2, r3, r4, r5, r6, r7, r8, r9⟩ := ha.right
  unfold ackP
  split
  · exact h.replied ha.right ha.made ha.uid (by decide) r7 (by omega) (Or.inl ⟨rfl, ho⟩)
  · exact h
theorem Inv.gather {M : Bk} {G : Wd} (h : Inv M G) {p : Pk} {d : Cd} {i : Nat} (ha : PkAt M G p d i) (ho : p.off = piecesP d.msg) (hb : p.body = pieceP d.msg p.part) {r : Sn} (hr : G.seen[i]? = some r) (hs : r.seq = p.seq) (h1 : r.state = 1) : Inv M (gatherP G i p) := by
  have hsn := h.ws.sn i r hr
  obtain ⟨_, _, _, _, hq5, _, ho9, hpt, _⟩ := ha.right
  have hne : r.seq ≠ 0 := by omega
  obtain ⟨d', q⟩ := h.sn i r hr hne
  have hkey := ha.key
  rw [← hs] at hkey
  have hdd : d' = d := by
    have := q.made
    rw [← hkey, ha.made] at this
    exact (Option.some.inj this).symm
  subst hdd
  obtain ⟨g1, g2⟩ := q.gath h1
  obtain ⟨g3, g4, g5⟩ := hsn.gath h1
  have hml := msg_len (h.bk _ _ q.made).1
  obtain ⟨n, hn⟩ : ∃ n : Nat, r.pieces = (n : Int) := ⟨r.pieces.toNat, by omega⟩
  rw [hn, Int.toNat_natCast] at g1
  have hi := ha.lt
  unfold gatherP
  simp only
  rw [seenP_some hr]
  split
  · rename_i hf
    have hmsg : r.message ++ p.body = d'.msg.take (8 * (n + 1)) := by rw [g1, hb, hf, hn, take_piece]
    split
    · rename_i hlast
      have hall : r.message ++ p.body = d'.msg := by rw [hmsg, pieces_all (by rw [← ho]; omega)]
      split
      · exact h
      · rename_i hroom
        have h2 := h.setSeen (r' := { r with state := 2, message := r.message ++ p.body, pieces := r.pieces + 1 }) hr (Int.le_refl _) ⟨fun e => absurd e hne, hsn.seq, fun e => ⟨(hsn.some e).1, (hsn.some e).2.1, by simp⟩, by simp, by simp only [hall]; omega, by simp, fun ht => by have := (hsn.timed ht).1; omega⟩ (fun _ => ⟨d', q.made, q.uid, by simp, fun _ => hall, fun _ => q.open' (Or.inl h1), by simp⟩)
        have h3 := h2.putJob (js := G.jobs ++ [⟨p.client, p.line, p.life, p.seq, p.uid⟩]) (by simp only [List.length_append, List.length_singleton]; show _ ≤ G.c.table; omega) (fun j hj => by
          rcases List.mem_append.1 hj with hj | hj
          · exact ⟨h.ws.jb j hj, h.jb j hj⟩
          · rw [List.mem_singleton.1 hj]
            obtain ⟨_, p2, _, p4, _⟩ := ha.right
            exact ⟨⟨p2, p4⟩, d', ha.made, ha.uid⟩)
        exact h3.ack (ha.cong rfl) ho
    · rename_i hlast
      have hlt : ((n + 1 : Nat) : Int) < piecesP d'.msg := by omega
      have h8 := pieces_less hlt
      have h2 := h.setSeen (r' := { r with message := r.message ++ p.body, pieces := r.pieces + 1 }) hr (Int.le_refl _) ⟨fun e => absurd e hne, hsn.seq, hsn.some, fun _ => ?_, fun e => by simp only at e; omega, hsn.ans, hsn.timed⟩ (fun _ => ⟨d', q.made, q.uid, fun _ => ⟨?_, ?_⟩, fun e => by simp only at e; omega, q.open', q.ans⟩)
      · exact h2.ack (ha.cong rfl) ho
      · simp only
        rw [hmsg, List.length_take, Nat.min_eq_left (by omega)]
        omega
      · simp only
        rw [hmsg, hn]
        congr 1
      · simp only
        omega
  · exact h.ack ha ho
theorem Inv.known {M : Bk} {G : Wd} (h : Inv M G) {p : Pk} {d : Cd} {i : Nat} (ha : PkAt M G p d i) (hk : (p.kind = 1 ∧ p.off = piecesP d.msg ∧ p.body = pieceP d.msg p.part) ∨ p.kind = 3) {r : Sn} (hr : G.seen[i]? = some r) (hs : r.seq = p.seq) : Inv M (knownP G i p) := by
  obtain ⟨r1, r2, r3, r4, r5, r6, r7, r8, r9⟩ := ha.right
  unfold knownP
  simp only
  rw [seenP_some hr]
  split
  · rename_i h1
    split
    · rename_i hx
      rcases hk with ⟨_, ho, hb⟩ | q
      · exact h.gather ha ho hb hr hs h1
      · omega
    · exact h
  · split
    · exact h.replied ha.right ha.made ha.uid (by decide) (by decide) (by decide) (Or.inr (Or.inr ⟨rfl, rfl⟩))
    · split
      · exact h
      · split
        · rename_i h3
          exact h.tell ha.lt hr h3
        · split
          · exact h.replied ha.right ha.made ha.uid (by decide) (by decide) (by decide) (Or.inr (Or.inl rfl))
          · rcases hk with ⟨_, ho, hb⟩ | q
            · exact h.replied ha.right ha.made ha.uid (by decide) r7 (by omega) (Or.inl ⟨rfl, ho⟩)
            · contradiction
theorem alive_at {sv : List Sv} {u : Int} (h : aliveS sv u = true) : ∃ (n : Nat) (s : Sv), u = (n : Int) + 1 ∧ sv[n]? = some s ∧ s.alive = true := by
  unfold aliveS at h
  rw [Bool.and_eq_true, decide_eq_true_eq] at h
  cases ha : sv[(u - 1).toNat]? with
  | none => rw [ha] at h; simp at h
  | some s =>
    rw [ha] at h
    exact ⟨(u - 1).toNat, s, by omega, ha, by simpa using h.2⟩
theorem Inv.ask {M : Bk} {G : Wd} (h : Inv M G) {p : Pk} {d : Cd} {i : Nat} (ha : PkAt M G p d i) (hk : (p.kind = 1 ∧ p.off = piecesP d.msg ∧ p.body = pieceP d.msg p.part) ∨ p.kind = 3 ∨ p.kind = 6) : Inv M (askP G i p) := by
  have hr := h.seen_at ha.lt
  unfold askP
  simp only
  generalize seenP G i = r at hr ⊢
  have hsn := h.ws.sn i r hr
  obtain ⟨_, _, _, _, hq5, _, ho9, hpt, _⟩ := ha.right
  split
  · split
    · rename_i hx
      obtain ⟨x1, x2, x3, x4, x5⟩ := hx
      obtain ⟨b1, b2, b3, b4⟩ := hsn.ans x2
      have hne : r.seq ≠ 0 := by omega
      obtain ⟨d', q⟩ := h.sn i r hr hne
      have h2 := h.setSeen (r' := { r with at' := r.at' + 1 }) hr (Int.le_refl _) ⟨fun e => absurd e hne, hsn.seq, hsn.some, hsn.gath, hsn.wait, fun _ => ⟨b1, b2, by simp only; omega, by simp only; omega⟩, hsn.timed⟩ (fun _ => ⟨d', q.same rfl rfl rfl rfl rfl⟩)
      exact h2.tell ha.lt (r := { r with at' := r.at' + 1 }) (by simp [R.setSeen, (List.getElem?_eq_some_iff.1 hr).1]) x2
    · exact h
  · rename_i h6
    have hk' : (p.kind = 1 ∧ p.off = piecesP d.msg ∧ p.body = pieceP d.msg p.part) ∨ p.kind = 3 := by
      rcases hk with q | q | q
      · exact Or.inl q
      · exact Or.inr q
      · exact absurd q h6
    split
    · rename_i hs
      exact h.known ha hk' hr hs
    · split
      · exact h
      · split
        · exact h.replied ha.right ha.made ha.uid (by decide) (by decide) (by decide) (Or.inr (Or.inr ⟨rfl, rfl⟩))
        · rename_i hs hlt hal
          have hal : aliveS G.services p.uid = true := by simpa [aliveP, aliveS] using hal
          split
          · exact h
          · split
            · exact h.replied ha.right ha.made ha.uid (by decide) (by decide) (by decide) (Or.inr (Or.inr ⟨rfl, rfl⟩))
            · have hkey := ha.key
              have hcd := (h.bk _ d ha.made).1
              have hml := msg_len hcd
              have h255 := h.wf.sv
              obtain ⟨_, _, hlf, _, _, hu6, _⟩ := ha.right
              have h2 := h.setSeen (r' := { sn0 with seq := p.seq, uid := p.uid, state := 1 }) hr (by simp only; omega) ⟨fun e => by simp only at e; omega, by simp only; omega, fun _ => ⟨by rw [← ha.life]; exact hlf.1, hu6, by simp⟩, by simp [sn0], by simp, by simp, by simp [sn0]⟩ (fun _ => ⟨d, by rw [← hkey]; exact ha.made, ha.uid, fun _ => ⟨by simp [sn0], by simp only [sn0]; omega⟩, by simp, fun _ => ?_, by simp⟩)
              · exact h2.known (ha.cong rfl) hk' (r := { sn0 with seq := p.seq, uid := p.uid, state := 1 }) (by simp [R.setSeen, (List.getElem?_eq_some_iff.1 hr).1]) rfl
              · rw [← ha.uid]
                refine ⟨hal, fun e he hek => ?_⟩
                obtain ⟨n, s, a1, a2, a3⟩ := alive_at hal
                rw [a1, logS_mk a2] at he
                have hf := h.fut n s e a2 a3 he
                rw [← hkey] at hek
                simp only [enKey, pkKey, Key.mk.injEq] at hek
                obtain ⟨e1, e2, e3, e4⟩ := hek
                unfold FutOk snAt at hf
                rw [e1, e2, e3, e4, ← ha.i, hr] at hf
                have hl := ha.life
                obtain ⟨_, p2, _, p4, _⟩ := ha.right
                have hdiv : i / 3 = p.client.toNat := by have := ha.i; omega
                rw [hdiv] at hl
                simp only [Option.getD_some] at hf
                omega
theorem livesP_life {G : Wd} {p : Pk} (h : ¬ p.life < G.lives.getD p.client.toNat 0) (hl : p.client.toNat < G.lives.length) : (livesP G p).lives.getD p.client.toNat 0 = p.life := by
  unfold livesP
  split
  · simp [hl]
  · omega
theorem Inv.asked {M : Bk} {G : Wd} (h : Inv M G) {p : Pk} (hr : RightP p) (hp : PkOk M G.services (-1) p) : Inv M (askedP G p) := by
  obtain ⟨d, hd, hu, hk⟩ := hp
  obtain ⟨_, p2, _, p4, _⟩ := id hr
  have hne : (-1 : Int) ≠ p.client := by omega
  have hk' : (p.kind = 1 ∧ p.off = piecesP d.msg ∧ p.body = pieceP d.msg p.part) ∨ p.kind = 3 ∨ p.kind = 6 := by
    rcases hk with ⟨q1, _, q2, q3⟩ | ⟨_, q, _⟩ | ⟨q, _⟩ | ⟨_, q⟩ | ⟨_, q, _⟩ | ⟨q, _⟩ | ⟨_, q, _⟩
    · exact Or.inl ⟨q1, q2, q3⟩
    · exact absurd q hne
    · exact Or.inr (Or.inl q)
    · exact absurd q hne
    · exact absurd q hne
    · exact Or.inr (Or.inr q)
    · exact absurd q hne
  unfold askedP
  split
  · exact h
  · rename_i hx
    have h2 := h.lives hr hd
    refine h2.ask (d := d) ⟨hr, hd, hu, ?_, rfl⟩ hk'
    have hdiv : (3 * p.client.toNat + p.line.toNat) / 3 = p.client.toNat := by omega
    rw [hdiv, livesP_life hx (by rw [h.ws.ll]; omega)]
/- Deliver -/
theorem Inv.deliver {M : Bk} {G : Wd} (h : Inv M G) (i : Int) : Inv M (deliverP G i).2 := by
  unfold deliverP
  split
  · exact h
  · split
    · exact h
    · rename_i f hf
      have hI := h.erase i.toNat
      have hfo := h.fl f (List.mem_of_getElem? hf)
      unfold FlOk at hfo
      simp only
      split
      · exact hI
      · rename_i hb
        rw [if_neg hb] at hfo
        obtain ⟨p, q1, q2, q3⟩ := hfo
        rw [q2, readP_seal q1]
        simp only
        split
        · rename_i ht
          rw [ht] at q3
          exact hI.asked q1 q3
        · rename_i ht
          exact hI.heard q1 ht q3
end Go.Proofs.YtblomippkddgiaaGreatDoor.R
