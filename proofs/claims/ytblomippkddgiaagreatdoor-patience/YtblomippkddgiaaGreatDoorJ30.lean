/-
  Joined: RInv.
-/
import Derived.Test.YtblomippkddgiaaGreatDoorJ23
import Derived.Test.YtblomippkddgiaaGreatDoorJ27
import Derived.Test.YtblomippkddgiaaGreatDoorJ29
/-
  What every world keeps, the calls that were made being known: the packets that fly are those of calls that were made; what the server remembers, what a client has of a result, what the logs tell fits them.
-/
namespace Go.Proofs.YtblomippkddgiaaGreatDoor.R

/- a call that was made: who, in which life, on which line, which one there -/
structure Key where
  client : Int
  life : Int
  line : Int
  seq : Int
  deriving DecidableEq
/- of which service, which procedure, with what -/
structure Cd where
  uid : Int
  proc : Int
  arg : List It
  from' : ByteArray
  to : ByteArray
  bs : List UInt8
abbrev Bk := Key → Option Cd
def Cd.msg (d : Cd) : List UInt8 := two8 d.proc ++ d.bs
def pkKey (p : Pk) : Key := ⟨p.client, p.life, p.line, p.seq⟩
def enKey (e : En) : Key := ⟨e.client, e.life, e.line, e.seq⟩
def kindS (sv : List Sv) (u : Int) : Int := ((sv[(u - 1).toNat]?).map (·.kind)).getD 0
def logS (sv : List Sv) (u : Int) : List En := ((sv[(u - 1).toNat]?).map (·.log)).getD []
def aliveS (sv : List Sv) (u : Int) : Bool := decide (1 ≤ u) && ((sv[(u - 1).toNat]?).map (·.alive)).getD false

structure CdOk (sv : List Sv) (d : Cd) : Prop where
  uid : 1 ≤ d.uid ∧ d.uid ≤ (sv.length : Int)
  sig : sigP (kindS sv d.uid) d.proc = some (d.from', d.to)
  bs : bytesP d.from' d.arg = some d.bs
structure DoneIs (sv : List Sv) (k : Key) (d : Cd) (e : En) (rb : List UInt8) : Prop where
  mem : e ∈ logS sv d.uid
  key : enKey e = k
  bytes : bytesP d.to e.result = some rb
  pos : 1 ≤ rb.length
def PkOk (M : Bk) (sv : List Sv) (to : Int) (p : Pk) : Prop := ∃ d, M (pkKey p) = some d ∧ p.uid = d.uid ∧
  ((p.kind = 1 ∧ to = -1 ∧ p.off = piecesP d.msg ∧ p.body = pieceP d.msg p.part) ∨
   (p.kind = 2 ∧ to = p.client ∧ p.off = piecesP d.msg) ∨
   (p.kind = 3 ∧ to = -1) ∨
   (p.kind = 4 ∧ to = p.client) ∨
   (p.kind = 5 ∧ to = p.client ∧ ∃ e rb, DoneIs sv (pkKey p) d e rb ∧ p.off = piecesP rb ∧ p.body = pieceP rb p.part) ∨
   (p.kind = 6 ∧ to = -1) ∨
   (p.kind = 7 ∧ to = p.client ∧ p.off = 2))
def FlOk (M : Bk) (sv : List Sv) (f : Fl) : Prop := if f.bent = true then readP f.s = none else ∃ p, RightP p ∧ f.s = sealB p ∧ PkOk M sv f.to p
structure LineOk (M : Bk) (sv : List Sv) (i : Nat) (life : Int) (bound : List Int) (k : Nat) (l : Ln) : Prop where
  idle : l.state = 0 ↔ l.seq = 0
  made : 1 ≤ l.seq → ∃ d, M ⟨i, life, k, l.seq⟩ = some d
  way : l.state = 1 → ∃ d, M ⟨i, life, k, l.seq⟩ = some d ∧ l.uid = d.uid ∧ l.message = d.msg ∧ l.to = d.to ∧ d.uid ∈ bound ∧ (0 ≤ l.pieces ∧ (l.came.length : Int) = 8 * l.pieces) ∧ (0 < l.pieces → ∃ e rb, DoneIs sv ⟨i, life, k, l.seq⟩ d e rb ∧ l.came = rb.take (8 * l.pieces.toNat) ∧ 8 * l.pieces < (rb.length : Int))
  done : l.state = 2 → ∃ d e rb, M ⟨i, life, k, l.seq⟩ = some d ∧ DoneIs sv ⟨i, life, k, l.seq⟩ d e rb ∧ l.result = e.result
  none : l.state ≠ 2 → l.result = []
structure SeenOk (M : Bk) (sv : List Sv) (k : Key) (r : Sn) (d : Cd) : Prop where
  made : M k = some d
  uid : r.uid = d.uid
  gath : r.state = 1 → r.message = d.msg.take (8 * r.pieces.toNat) ∧ 8 * r.pieces < (d.msg.length : Int)
  wait : r.state = 2 → r.message = d.msg
  open' : r.state = 1 ∨ r.state = 2 → aliveS sv d.uid = true ∧ ∀ e ∈ logS sv d.uid, enKey e ≠ k
  ans : r.state = 3 → ∃ e, DoneIs sv k d e r.result
structure EnOk (M : Bk) (u : Int) (e : En) : Prop where
  some : ∃ d rb, M (enKey e) = some d ∧ d.uid = u ∧ e.proc = d.proc ∧ e.arg = d.arg ∧ bytesP d.to e.result = .some rb ∧ 1 ≤ rb.length
def Told (kind : Int) (l : List En) : Prop := ∀ i e, l[i]? = some e → e.result = doesP kind (l.take i) e.proc e.arg
def Before (a b : En) : Prop := a.client = b.client → a.life = b.life → a.line = b.line → a.seq < b.seq
structure LogOk (M : Bk) (u : Int) (s : Sv) : Prop where
  each : ∀ e ∈ s.log, EnOk M u e
  ord : s.log.Pairwise Before
  told : Told s.kind s.log
def snAt (seen : List Sn) (client line : Int) : Sn := (seen[3 * client.toNat + line.toNat]?).getD sn0
def FutOk (lives : List Int) (seen : List Sn) (e : En) : Prop := e.life < lives.getD e.client.toNat 0 ∨ (e.life = lives.getD e.client.toNat 0 ∧ e.seq ≤ (snAt seen e.client e.line).seq)
def InR (cl : List Cl) (k : Key) : Prop := ∃ (i : Nat) (c : Cl) (n : Nat) (l : Ln), k.client = i ∧ cl[i]? = some c ∧ k.line = n ∧ c.lines[n]? = some l ∧ 1 ≤ k.life ∧ k.life ≤ c.life ∧ 1 ≤ k.seq ∧ k.seq ≤ 999 ∧ (k.life = c.life → k.seq ≤ l.seq)

/- what the server remembers, by itself -/
structure SnOk (life : Int) (r : Sn) : Prop where
  zero : r.seq = 0 → r = sn0
  seq : 0 ≤ r.seq ∧ r.seq ≤ 999
  some : r.seq ≠ 0 → 1 ≤ life ∧ (1 ≤ r.uid ∧ r.uid ≤ 255) ∧ (1 ≤ r.state ∧ r.state ≤ 4)
  gath : r.state = 1 → (r.message.length : Int) = 8 * r.pieces ∧ 0 ≤ r.pieces ∧ r.pieces ≤ 8
  wait : r.state = 2 → 2 ≤ r.message.length ∧ r.message.length ≤ 72
  ans : r.state = 3 → 1 ≤ r.result.length ∧ r.result.length ≤ 72 ∧ 0 ≤ r.at' ∧ r.at' < piecesP r.result
  timed : r.timed = true → r.state = 3 ∧ (1 ≤ r.wait ∧ r.wait ≤ 8) ∧ (0 ≤ r.tries ∧ r.tries ≤ 6)
structure WsOk (c : Cf) (lives : List Int) (seen : List Sn) (jobs : List Jb) : Prop where
  ll : lives.length = 3
  lv : ∀ x ∈ lives, 0 ≤ x ∧ x ≤ 255
  sl : seen.length = 9
  sn : ∀ i r, seen[i]? = some r → SnOk (lives.getD (i / 3) 0) r
  jl : (jobs.length : Int) ≤ c.table
  jb : ∀ j ∈ jobs, (0 ≤ j.client ∧ j.client ≤ 2) ∧ (0 ≤ j.line ∧ j.line ≤ 2)

structure Inv (M : Bk) (G : Wd) : Prop where
  wf : Wf G
  ws : WsOk G.c G.lives G.seen G.jobs
  bk : ∀ k d, M k = some d → CdOk G.services d ∧ InR G.clients k
  ln : ∀ (i : Nat) (c : Cl) (k : Nat) (l : Ln), G.clients[i]? = some c → c.lines[k]? = some l → LineOk M G.services i c.life c.bound k l
  fl : ∀ f ∈ G.flying, FlOk M G.services f
  sn : ∀ (i : Nat) (r : Sn), G.seen[i]? = some r → r.seq ≠ 0 → ∃ d, SeenOk M G.services ⟨((i / 3 : Nat) : Int), G.lives.getD (i / 3) 0, ((i % 3 : Nat) : Int), r.seq⟩ r d
  lg : ∀ (u : Nat) (s : Sv), G.services[u]? = some s → LogOk M ((u : Int) + 1) s
  fut : ∀ (u : Nat) (s : Sv) (e : En), G.services[u]? = some s → s.alive = true → e ∈ s.log → FutOk G.lives G.seen e
  jb : ∀ j ∈ G.jobs, ∃ d, M ⟨j.client, j.life, j.line, j.seq⟩ = some d ∧ j.uid = d.uid
  lv : ∀ (i : Nat) (c : Cl), G.clients[i]? = some c → G.lives.getD i 0 ≤ c.life

/- services that were made since, logs that grew -/
structure Gr (a b : List Sv) : Prop where
  len : a.length ≤ b.length
  each : ∀ (u : Nat) (s : Sv), a[u]? = some s → ∃ s', b[u]? = some s' ∧ s'.kind = s.kind ∧ ∃ t, s'.log = s.log ++ t
theorem Gr.refl (a : List Sv) : Gr a a := ⟨Nat.le_refl _, fun u s h => ⟨s, h, rfl, [], by simp⟩⟩
theorem Gr.kind {a b : List Sv} (h : Gr a b) {u : Int} (hu : 1 ≤ u ∧ u ≤ (a.length : Int)) : kindS b u = kindS a u := by
  have hlt : (u - 1).toNat < a.length := by omega
  obtain ⟨s', h1, h2, _⟩ := h.each _ _ (List.getElem?_eq_getElem hlt)
  unfold kindS
  rw [h1, List.getElem?_eq_getElem hlt]
  simp [h2]
theorem Gr.log {a b : List Sv} (h : Gr a b) {u : Int} {e : En} (he : e ∈ logS a u) : e ∈ logS b u := by
  unfold logS at he ⊢
  cases ha : a[(u - 1).toNat]? with
  | none => rw [ha] at he; simp at he
  | some s =>
    rw [ha] at he
    obtain ⟨s', h1, _, t, h3⟩ := h.each _ _ ha
    rw [h1]
    simp at he ⊢
    rw [h3]
    exact List.mem_append_left _ he
theorem CdOk.grow {a b : List Sv} (h : Gr a b) {d : Cd} (hd : CdOk a d) : CdOk b d := by
  have := h.len
  have hu := hd.uid
  exact ⟨by omega, by rw [h.kind hu]; exact hd.sig, hd.bs⟩
theorem DoneIs.grow {a b : List Sv} (h : Gr a b) {k : Key} {d : Cd} {e : En} {rb : List UInt8} (hd : DoneIs a k d e rb) : DoneIs b k d e rb := ⟨h.log hd.mem, hd.key, hd.bytes, hd.pos⟩
/- calls that were made since -/
def Le (M N : Bk) : Prop := ∀ k d, M k = some d → N k = some d
theorem Le.refl (M : Bk) : Le M M := fun _ _ h => h
theorem PkOk.grow {M N : Bk} (hM : Le M N) {a b : List Sv} (h : Gr a b) {to : Int} {p : Pk} (hp : PkOk M a to p) : PkOk N b to p := by
  obtain ⟨d, h1, h2, h3⟩ := hp
  refine ⟨d, hM _ _ h1, h2, ?_⟩
  rcases h3 with q | q | q | q | ⟨q1, q2, e, rb, q3, q4⟩ | q | q
  · exact Or.inl q
  · exact Or.inr (Or.inl q)
  · exact Or.inr (Or.inr (Or.inl q))
  · exact Or.inr (Or.inr (Or.inr (Or.inl q)))
  · exact Or.inr (Or.inr (Or.inr (Or.inr (Or.inl ⟨q1, q2, e, rb, q3.grow h, q4⟩))))
  · exact Or.inr (Or.inr (Or.inr (Or.inr (Or.inr (Or.inl q)))))
  · exact Or.inr (Or.inr (Or.inr (Or.inr (Or.inr (Or.inr q)))))
theorem FlOk.grow {M N : Bk} (hM : Le M N) {a b : List Sv} (h : Gr a b) {f : Fl} (hp : FlOk M a f) : FlOk N b f := by
  unfold FlOk at hp ⊢
  split
  · rename_i hb
    rw [if_pos hb] at hp
    exact hp
  · rename_i hb
    rw [if_neg hb] at hp
    obtain ⟨p, h1, h2, h3⟩ := hp
    exact ⟨p, h1, h2, h3.grow hM h⟩
theorem LineOk.grow {M N : Bk} (hM : Le M N) {a b : List Sv} (h : Gr a b) {i k : Nat} {life : Int} {bound bound' : List Int} (hb : ∀ u ∈ bound, u ∈ bound') {l : Ln} (hl : LineOk M a i life bound k l) : LineOk N b i life bound' k l := by
  refine ⟨hl.idle, fun h1 => ?_, fun h1 => ?_, fun h1 => ?_, hl.none⟩
  · obtain ⟨d, hd⟩ := hl.made h1
    exact ⟨d, hM _ _ hd⟩
  · obtain ⟨d, q1, q2, q3, q4, q5, q6, q7⟩ := hl.way h1
    refine ⟨d, hM _ _ q1, q2, q3, q4, hb _ q5, q6, fun hp => ?_⟩
    obtain ⟨e, rb, r1, r2⟩ := q7 hp
    exact ⟨e, rb, r1.grow h, r2⟩
  · obtain ⟨d, e, rb, q1, q2, q3⟩ := hl.done h1
    exact ⟨d, e, rb, hM _ _ q1, q2.grow h, q3⟩
theorem EnOk.grow {M N : Bk} (hM : Le M N) {u : Int} {e : En} (h : EnOk M u e) : EnOk N u e := by
  obtain ⟨d, rb, h1, h2⟩ := h.some
  exact ⟨d, rb, hM _ _ h1, h2⟩
theorem LogOk.grow {M N : Bk} (hM : Le M N) {u : Int} {s : Sv} (h : LogOk M u s) : LogOk N u s := ⟨fun e he => (h.each e he).grow hM, h.ord, h.told⟩
theorem SeenOk.grow {M N : Bk} (hM : Le M N) {a : List Sv} {k : Key} {r : Sn} {d : Cd} (h : SeenOk M a k r d) : SeenOk N a k r d := ⟨hM _ _ h.made, h.uid, h.gath, h.wait, h.open', h.ans⟩

/- of one call there is one entry -/
theorem pair_unique {l : List En} (h : l.Pairwise Before) {a b : En} (ha : a ∈ l) (hb : b ∈ l) (e : enKey a = enKey b) : a = b := by
  induction l with
  | nil => cases ha
  | cons x l ih =>
    rw [List.pairwise_cons] at h
    have key : ∀ {y z : En}, enKey y = enKey z → y.client = z.client ∧ y.life = z.life ∧ y.line = z.line ∧ y.seq = z.seq := fun e => by
      simp only [enKey, Key.mk.injEq] at e
      exact e
    rcases List.mem_cons.1 ha with rfl | ha'
    · rcases List.mem_cons.1 hb with rfl | hb'
      · rfl
      · obtain ⟨k1, k2, k3, k4⟩ := key e
        have := h.1 b hb' k1 k2 k3
        omega
    · rcases List.mem_cons.1 hb with rfl | hb'
      · obtain ⟨k1, k2, k3, k4⟩ := key e
        have := h.1 a ha' k1.symm k2.symm k3.symm
        omega
      · exact ih h.2 ha' hb' 
theorem logS_at {sv : List Sv} {u : Int} {e : En} (h : e ∈ logS sv u) (hu : 1 ≤ u) : ∃ (n : Nat) (s : Sv), u = (n : Int) + 1 ∧ sv[n]? = some s ∧ e ∈ s.log := by
  unfold logS at h
  cases ha : sv[(u - 1).toNat]? with
  | none => rw [ha] at h; simp at h
  | some s =>
    rw [ha] at h
    exact ⟨(u - 1).toNat, s, by omega, ha, by simpa using h⟩
theorem logS_mk {sv : List Sv} {n : Nat} {s : Sv} (h : sv[n]? = some s) : logS sv ((n : Int) + 1) = s.log := by
  simp [logS, h]
theorem Inv.unique {M : Bk} {G : Wd} (h : Inv M G) {k : Key} {d : Cd} (hd : M k = some d) {e e' : En} {rb rb' : List UInt8} (h1 : DoneIs G.services k d e rb) (h2 : DoneIs G.services k d e' rb') : e' = e ∧ rb' = rb := by
  obtain ⟨n, s, q1, q2, q3⟩ := logS_at h1.mem (h.bk k d hd).1.uid.1
  have h2m := h2.mem
  rw [q1, logS_mk q2] at h2m
  have he := pair_unique (h.lg n s q2).ord h2m q3 (by rw [h1.key, h2.key])
  subst he
  refine ⟨rfl, ?_⟩
  have b1 := h1.bytes
  have b2 := h2.bytes
  rw [b1] at b2
  exact (Option.some.inj b2).symm

theorem bytesP_len {t : ByteArray} {v : List It} {bs : List UInt8} (h : bytesP t v = some bs) : bs.length ≤ 70 := by
  unfold bytesP at h
  split at h
  · rename_i h0
    cases h
    exact V.mRes_le h0
  · cases h
theorem bytesP_back {t : ByteArray} {v : List It} {bs : List UInt8} (h : bytesP t v = some bs) : V.uFull t bs = (0, v) := by
  unfold bytesP at h
  split at h
  · rename_i h0
    cases h
    exact V.uFull_back h0
  · cases h
theorem msg_len {sv : List Sv} {d : Cd} (h : CdOk sv d) : 2 ≤ d.msg.length ∧ d.msg.length ≤ 72 := by
  have := bytesP_len h.bs
  simp [Cd.msg, two8]
  omega

/- a packet is sent -/
theorem Inv.sendP {M : Bk} {G : Wd} (h : Inv M G) {to : Int} {p : Pk} (hr : RightP p) (hp : PkOk M G.services to p) : Inv M (sendP G to p) := by
  have hw := h.wf.sendP (to := to) hr
  unfold R.sendP at hw ⊢
  split
  · rename_i hl
    rw [if_pos hl] at hw
    refine ⟨hw, h.ws, h.bk, h.ln, fun f hf => ?_, h.sn, h.lg, h.fut, h.jb, h.lv⟩
    rcases List.mem_append.1 hf with q | q
    · exact h.fl f q
    · simp only [List.mem_singleton] at q
      subst q
      unfold FlOk
      rw [if_neg (by simp)]
      exact ⟨p, hr, rfl, hp⟩
  · exact h
/- what flies turns -/
theorem Inv.fly {M : Bk} {G : Wd} (h : Inv M G) {fl : List Fl} (hw : Wf { G with flying := fl }) (hf : ∀ f ∈ fl, FlOk M G.services f) : Inv M { G with flying := fl } := ⟨hw, h.ws, h.bk, h.ln, hf, h.sn, h.lg, h.fut, h.jb, h.lv⟩
/- a line turns; a call may be made there -/
theorem Inv.setLineN {M N : Bk} {G : Wd} (h : Inv M G) {i k : Nat} {c : Cl} {l l' : Ln} (hc : G.clients[i]? = some c) (hl : c.lines[k]? = some l) (hok : LnOk l') (hseq : l.seq ≤ l'.seq) (hN : Le M N) (hnew : ∀ q d, N q = some d → M q = some d ∨ (q = ⟨i, c.life, k, l'.seq⟩ ∧ CdOk G.services d ∧ 1 ≤ l'.seq)) (hlo : LineOk N G.services i c.life c.bound k l') : Inv N (setLine G i k l') := by
  refine ⟨h.wf.setLine hok, h.ws, fun q d hq => ?_, fun j c' n x hj hx => ?_, fun f hf => (h.fl f hf).grow hN (Gr.refl _), fun j r hr hne => ?_, fun u s hs => (h.lg u s hs).grow hN, h.fut, fun j hj => ?_, fun j c' hj => ?_⟩
  · rcases hnew q d hq with hq | ⟨rfl, h1, h2⟩
    · obtain ⟨h1, a, ca, n, x, r1, r2, r3, r4, r5, r6, r7, r8, r9⟩ := h.bk q d hq
      refine ⟨h1, a, (if i = a then { ca with lines := ca.lines.set k l' } else ca), n, (if i = a ∧ k = n then l' else x), r1, by rw [setLine_client, r2]; rfl, r3, ?_, r5, ?_, r7, r8, fun e => ?_⟩
      · by_cases hia : i = a
        · subst hia
          simp only [if_true, true_and]
          rw [List.getElem?_set]
          by_cases hkn : k = n
          · subst hkn
            simp [(List.getElem?_eq_some_iff.1 r4).1]
          · simp [hkn, r4]
        · simp [hia, r4]
      · split <;> exact r6
      · have e' : q.life = ca.life := by
          rw [e]
          split <;> rfl
        have := r9 e'
        by_cases hh : i = a ∧ k = n
        · obtain ⟨rfl, rfl⟩ := hh
          rw [hc] at r2
          cases r2
          rw [hl] at r4
          cases r4
          simp
          omega
        · rw [if_neg hh]
          exact this
    · have hcw := (h.wf.cl i c hc).life
      refine ⟨h1, i, { c with lines := c.lines.set k l' }, k, l', rfl, by rw [setLine_client, hc]; simp, rfl, by simp [(List.getElem?_eq_some_iff.1 hl).1], hcw.1, Int.le_refl _, h2, hok.seq.2, fun _ => Int.le_refl _⟩
  · rw [setLine_client] at hj
    cases h0 : G.clients[j]? with
    | none => rw [h0] at hj; cases hj
    | some c0 =>
      rw [h0] at hj
      simp only [Option.map_some, Option.some.injEq] at hj
      subst hj
      by_cases hij : i = j
      · subst hij
        rw [hc] at h0
        cases h0
        simp only [if_true] at hx ⊢
        rw [List.getElem?_set] at hx
        by_cases hkn : k = n
        · subst hkn
          simp only [if_true] at hx
          split at hx
          · cases hx
            exact hlo
          · cases hx
        · simp only [hkn, if_false] at hx
          exact (h.ln i c n x hc hx).grow hN (Gr.refl _) (fun _ q => q)
      · simp only [hij, if_false] at hx ⊢
        exact (h.ln j c0 n x h0 hx).grow hN (Gr.refl _) (fun _ q => q)
  · obtain ⟨d, hd⟩ := h.sn j r hr hne
    exact ⟨d, hd.grow hN⟩
  · obtain ⟨d, q1, q2⟩ := h.jb j hj
    exact ⟨d, hN _ _ q1, q2⟩
  · rw [setLine_client] at hj
    cases h0 : G.clients[j]? with
    | none => rw [h0] at hj; cases hj
    | some c0 =>
      rw [h0] at hj
      simp only [Option.map_some, Option.some.injEq] at hj
      subst hj
      have := h.lv j c0 h0
      split <;> exact this
theorem Inv.setLine {M : Bk} {G : Wd} (h : Inv M G) {i k : Nat} {c : Cl} {l l' : Ln} (hc : G.clients[i]? = some c) (hl : c.lines[k]? = some l) (hok : LnOk l') (hseq : l.seq ≤ l'.seq) (hlo : LineOk M G.services i c.life c.bound k l') : Inv M (setLine G i k l') :=
  h.setLineN hc hl hok hseq (Le.refl M) (fun _ _ q => Or.inl q) hlo
/- what the server remembers of a line turns -/
theorem Inv.setSeen {M : Bk} {G : Wd} (h : Inv M G) {i : Nat} {r r' : Sn} (hr : G.seen[i]? = some r) (hseq : r.seq ≤ r'.seq) (hok : SnOk (G.lives.getD (i / 3) 0) r') (hd : r'.seq ≠ 0 → ∃ d, SeenOk M G.services ⟨((i / 3 : Nat) : Int), G.lives.getD (i / 3) 0, ((i % 3 : Nat) : Int), r'.seq⟩ r' d) : Inv M (setSeen G i r') := by
  have hi := (List.getElem?_eq_some_iff.1 hr).1
  have hget : ∀ j x, (G.seen.set i r')[j]? = some x → (j = i ∧ x = r') ∨ (j ≠ i ∧ G.seen[j]? = some x) := fun j x hx => by
    rw [List.getElem?_set] at hx
    by_cases hij : i = j
    · subst hij
      simp [hi] at hx
      exact Or.inl ⟨rfl, hx.symm⟩
    · simp [hij] at hx
      exact Or.inr ⟨fun e => hij e.symm, hx⟩
  refine ⟨⟨h.wf.cf, h.wf.ncl, fun j c hc => ⟨(h.wf.cl j c hc).lines, (h.wf.cl j c hc).life, (h.wf.cl j c hc).bound, (h.wf.cl j c hc).line⟩, h.wf.fly, h.wf.flys, h.wf.sv, h.wf.svk, h.wf.nm, h.wf.st, h.wf.nd, h.wf.sts⟩, ⟨h.ws.ll, h.ws.lv, by simpa [R.setSeen] using h.ws.sl, fun j x hx => ?_, h.ws.jl, h.ws.jb⟩, h.bk, h.ln, h.fl, fun j x hx hne => ?_, h.lg, fun u s e hs ha he => ?_, h.jb, h.lv⟩
  · rcases hget j x hx with ⟨rfl, rfl⟩ | ⟨_, hx'⟩
    · exact hok
    · exact h.ws.sn j x hx'
  · rcases hget j x hx with ⟨rfl, rfl⟩ | ⟨_, hx'⟩
    · exact hd hne
    · exact h.sn j x hx' hne
  · rcases h.fut u s e hs ha he with q | ⟨q1, q2⟩
    · exact Or.inl q
    · refine Or.inr ⟨q1, Int.le_trans q2 ?_⟩
      unfold snAt
      show _ ≤ (((G.seen.set i r')[3 * e.client.toNat + e.line.toNat]?).getD sn0).seq
      rw [List.getElem?_set]
      by_cases hij : i = 3 * e.client.toNat + e.line.toNat
      · rw [← hij, hr]
        simp [hi]
        exact hseq
      · simp [hij]
end Go.Proofs.YtblomippkddgiaaGreatDoor.R
