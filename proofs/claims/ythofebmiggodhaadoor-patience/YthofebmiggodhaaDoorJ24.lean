/-
  Joined: LW Step.
-/
import Derived.Test.YthofebmiggodhaaDoorJ02
import Derived.Test.YthofebmiggodhaaDoorJ19
import Derived.Test.YthofebmiggodhaaDoorJ23
import Derived.Maps.Ext
import Derived.Test.YthofebmiggodhaaDoorJ22
import Derived.Handy
import Derived.Deep.RegionLaw
import Derived.Deep.RegionWith
/-
  A world of the landed code in memory, held against the document's.
-/
namespace Go.Proofs.YthofebmiggodhaaDoor
open Go.RowKit Go.Maps

/- a map with numbers in it -/
def Mp {α : Type} (w : World) (k : TypeId) (b : Nat) (lit : α → Lit) (g : α → Option Int) (n : Nat) : Prop :=
  ∃ D : DataW Unit, w.ownsMap Tryd.prog k (plainElem Tryd.prog 3) b n D ∧ Maps.size D = n ∧ ∀ a, Maps.has D (lit a) = (g a).isSome ∧ ∀ v, g a = some v → D.atKey (lit a) (.lit (.int .i64 0)) = .lit (.int .i64 v)

theorem Mp.keep {α : Type} {F : Foot} {w w' : World} {k : TypeId} {b : Nat} {lit : α → Lit} {g : α → Option Int} {n : Nat} (h : Mp w k b lit g n) (hk : Keeps F w w') (hb : ¬ F b) : Mp w' k b lit g n := by
  obtain ⟨D, h1, h2⟩ := h
  exact ⟨D, hk.map h1 hb, h2⟩
theorem Mp.lt {α : Type} {w : World} {k : TypeId} {b : Nat} {lit : α → Lit} {g : α → Option Int} {n : Nat} (h : Mp w k b lit g n) : b < w.heap.size := by
  obtain ⟨D, h1, _⟩ := h
  exact h1.lt
theorem Mp.block {α : Type} {w : World} {k : TypeId} {b : Nat} {lit : α → Lit} {g : α → Option Int} {n : Nat} (h : Mp w k b lit g n) : ∃ es cl, w.heap[b]? = some (.map es cl) := by
  obtain ⟨D, ⟨es, cl, hb, _⟩, _⟩ := h
  exact ⟨es, cl, hb⟩
theorem Mp.congr {α : Type} {w : World} {k : TypeId} {b : Nat} {lit : α → Lit} {g g' : α → Option Int} {n : Nat} (h : Mp w k b lit g n) (he : ∀ a, g' a = g a) : Mp w k b lit g' n := by
  obtain ⟨D, h1, h2, h3⟩ := h
  exact ⟨D, h1, h2, fun a => by rw [he a]; exact h3 a⟩

/- a line as the landed code keeps it -/
structure LLn where
  state : Int
  seq : Int
  uid : Int
  msg : List UInt8
  acked : Int
  wait : Int
  tries : Int
def LLn.cells (x : LLn) : List Value := [.int .i64 x.state, .int .i64 x.seq, .slice none 0 0, .int .i64 x.uid, .string (str x.msg), .int .i64 x.acked, .int .i64 x.wait, .int .i64 x.tries]
theorem LLn.len (x : LLn) : x.cells.length = 8 := rfl
structure LnRel (l : R.Ln) (x : LLn) : Prop where
  state : x.state = l.state
  seq : x.seq = l.seq
  res : l.result = []
  one : l.state = 1 → x.uid = l.uid ∧ x.msg = l.message ∧ x.acked = l.acked ∧ x.wait = l.wait ∧ x.tries = l.tries
structure LnsRel (ls : List R.Ln) (xs : List LLn) : Prop where
  len : xs.length = ls.length
  each : ∀ (k : Nat) (l : R.Ln) (x : LLn), ls[k]? = some l → xs[k]? = some x → LnRel l x
theorem LnsRel.get {ls : List R.Ln} {xs : List LLn} (h : LnsRel ls xs) {k : Nat} {l : R.Ln} (hl : ls[k]? = some l) : ∃ x, xs[k]? = some x ∧ LnRel l x := by
  have hk := (List.getElem?_eq_some_iff.1 hl).1
  obtain ⟨x, hx⟩ : ∃ x, xs[k]? = some x := ⟨xs[k]'(by rw [h.len]; exact hk), List.getElem?_eq_getElem _⟩
  exact ⟨x, hx, h.each k l x hl hx⟩
theorem LnsRel.set {ls : List R.Ln} {xs : List LLn} (h : LnsRel ls xs) {k : Nat} {l : R.Ln} {x : LLn} (hr : LnRel l x) : LnsRel (ls.set k l) (xs.set k x) := by
  refine ⟨by simpa using h.len, fun j a b ha hb => ?_⟩
  rw [List.getElem?_set] at ha hb
  have hl := h.len
  by_cases hj : k = j
  · subst hj
    simp only [if_true] at ha hb
    split at ha
    · cases ha
      split at hb
      · cases hb; exact hr
      · cases hb
    · cases ha
  · simp only [hj, if_false] at ha hb
    exact h.each j a b ha hb

def fcells (f : R.Fl) : List Value := [.int .i64 f.to, .string (str f.s), .bool f.bent]
theorem fcells_len (f : R.Fl) : (fcells f).length = 3 := rfl
def mcells (s : R.Sv) : List Value := [.int .i64 s.kind, .bool s.alive]
theorem mcells_len (s : R.Sv) : (mcells s).length = 2 := rfl

/- where the parts of a world lie -/
structure Pl where
  x : Nat
  n : Nat
  s : Nat
  cs : Nat
  cap : Nat
  nm : Nat
  cb : Nat → Nat
  lb : Nat → Nat
  bm : Nat → Nat
abbrev ptr (b : Nat) : Value := .pointer (some ⟨b, 0, none⟩)
abbrev keyS (l : List UInt8) : Lit := .string l
abbrev keyI (u : Int) : Lit := .int .i64 u
def standOf (G : R.Wd) (s : List UInt8) : Option Int := (R.entryP G s).map fun k => G.stands.getD k 0
def kindOf (G : R.Wd) (u : Int) : Int := ((G.services[(u - 1).toNat]?).map (·.kind)).getD 0
def boundOf (G : R.Wd) (c : R.Cl) (u : Int) : Option Int := if u ∈ c.bound then some (kindOf G u) else none
/- the different ones of a list -/
def dd (l : List Int) : List Int := l.foldl (fun acc u => if u ∈ acc then acc else acc ++ [u]) []

abbrev xcells (p : Pl) (n : Nat) : Array Value := #[ptr p.n, ptr p.s, .slice (some ⟨p.cs, 0, none⟩) n p.cap]
abbrev ccells (p : Pl) (G : R.Wd) (i : Nat) (c : R.Cl) : Array Value := #[.int .i64 (i : Int), .int .i64 c.life, .map (some (p.bm i)), .slice (some ⟨p.lb i, 0, none⟩) c.lines.length c.lines.length, .int .i64 G.c.retry, .int .i64 G.c.tries, ptr p.n]

structure LW (p : Pl) (F : Foot) (G : R.Wd) (w : World) : Prop where
  wf : R.Wf G
  cold : G.lives = [0, 0, 0] ∧ G.seen = List.replicate 9 R.sn0 ∧ G.jobs = []
  bx : w.heap[p.x]? = some (.cells (xcells p G.clients.length) 66 (0, 0))
  bcs : ∃ cur : Array Value, w.heap[p.cs]? = some (.cells cur 71 (0, 0)) ∧ ∀ i, i < G.clients.length → cur[i]? = some (ptr (p.cb i))
  bn : ∃ K, w.heap[p.n]? = some (.cells #[K] 79 (0, 0)) ∧ w.ownsRow 0 91 3 K G.flying.length (tab fcells G.flying) ∧ ∀ j, K.ownBlock = some j → F j
  bs : ∃ K, w.heap[p.s]? = some (.cells #[.map (some p.nm), K] 114 (0, 0)) ∧ w.ownsRow 0 135 2 K G.services.length (tab mcells G.services) ∧ ∀ j, K.ownBlock = some j → F j
  names : Mp w 9 p.nm keyS (standOf G) G.names.length
  cl : ∀ (i : Nat) (c : R.Cl), G.clients[i]? = some c → w.heap[p.cb i]? = some (.cells (ccells p G i c) 103 (0, 0))
  ln : ∀ (i : Nat) (c : R.Cl), G.clients[i]? = some c → ∃ xs, w.heap[p.lb i]? = some (.cells (tab LLn.cells xs).toArray 108 (0, 0)) ∧ LnsRel c.lines xs
  bound : ∀ (i : Nat) (c : R.Cl), G.clients[i]? = some c → Mp w 3 (p.bm i) keyI (boundOf G c) (dd c.bound).length
  foot : F p.x ∧ F p.n ∧ F p.s ∧ F p.cs ∧ F p.nm
  feet : ∀ i, i < G.clients.length → F (p.cb i) ∧ F (p.lb i) ∧ F (p.bm i) ∧ p.bm i ≠ p.nm
  inj : ∀ i j, i < G.clients.length → j < G.clients.length → i ≠ j → p.lb i ≠ p.lb j ∧ p.bm i ≠ p.bm j
  lt : ∀ k, F k → k < w.heap.size

/- what happens elsewhere does not touch a world -/
theorem LW.elsewhere {p : Pl} {F E : Foot} {G : R.Wd} {w w' : World} (h : LW p F G w) (hk : Keeps E w w') (ha : ∀ k, F k → ¬ E k) : LW p F G w' := by
  obtain ⟨hx, hn, hs, hcs, hnm⟩ := h.foot
  have hlen := fun (i : Nat) (c : R.Cl) (hc : G.clients[i]? = some c) => (List.getElem?_eq_some_iff.1 hc).1
  refine ⟨h.wf, h.cold, hk.at h.bx (ha _ hx), ?_, ?_, ?_, h.names.keep hk (ha _ hnm), fun i c hc => hk.at (h.cl i c hc) (ha _ (h.feet i (hlen i c hc)).1), fun i c hc => ?_, fun i c hc => (h.bound i c hc).keep hk (ha _ (h.feet i (hlen i c hc)).2.2.1), h.foot, h.feet, h.inj, fun k hf => Nat.lt_of_lt_of_le (h.lt k hf) hk.size⟩
  · obtain ⟨cur, h1, h2⟩ := h.bcs
    exact ⟨cur, hk.at h1 (ha _ hcs), h2⟩
  · obtain ⟨K, h1, h2, h3⟩ := h.bn
    exact ⟨K, hk.at h1 (ha _ hn), hk.row h2 (fun j hj => ha j (h3 j hj)), h3⟩
  · obtain ⟨K, h1, h2, h3⟩ := h.bs
    exact ⟨K, hk.at h1 (ha _ hs), hk.row h2 (fun j hj => ha j (h3 j hj)), h3⟩
  · obtain ⟨xs, h1, h2⟩ := h.ln i c hc
    exact ⟨xs, hk.at h1 (ha _ (h.feet i (hlen i c hc)).2.1), h2⟩
theorem LW.below {p : Pl} {F : Foot} {G : R.Wd} {w w' : World} (h : LW p F G w) (hb : Below w.heap.size w w') : LW p F G w' := h.elsewhere (Keeps.ofBelow hb (fun _ => False)) (fun _ _ h => h)

/- one line is turned -/
theorem LW.turn {p : Pl} {F : Foot} {G : R.Wd} {w w' : World} (h : LW p F G w) {i k : Nat} {c : R.Cl} {xs : List LLn} {l' : R.Ln} {x' : LLn} (hc : G.clients[i]? = some c) (hL : w.heap[p.lb i]? = some (.cells (tab LLn.cells xs).toArray 108 (0, 0))) (hr : LnsRel c.lines xs)
    (hk : Keeps (fun b => b = p.lb i) w w') (hL' : w'.heap[p.lb i]? = some (.cells (tab LLn.cells (xs.set k x')).toArray 108 (0, 0))) (hl' : R.LnOk l') (hx' : LnRel l' x') : LW p F (R.setLine G i k l') w' := by
  obtain ⟨hx, hn, hs, hcs, hnm⟩ := h.foot
  have hi := (List.getElem?_eq_some_iff.1 hc).1
  have hclen : (R.setLine G i k l').clients.length = G.clients.length := by simp [R.setLine]
  have hcl : ∀ j c', (R.setLine G i k l').clients[j]? = some c' → ∃ c0, G.clients[j]? = some c0 ∧ c' = (if i = j then { c0 with lines := c0.lines.set k l' } else c0) := fun j c' hj => by
    rw [R.setLine_client] at hj
    cases h0 : G.clients[j]? with
    | none => rw [h0] at hj; cases hj
    | some c0 => rw [h0] at hj; exact ⟨c0, rfl, (Option.some.inj hj).symm⟩
  have at' : ∀ {b : Nat} {o : Obj}, w.heap[b]? = some o → b ≠ p.lb i → w'.heap[b]? = some o := fun hb hne => hk.at hb hne
  refine ⟨h.wf.setLine hl', h.cold, ?_, ?_, ?_, ?_, ?_, fun j c' hj => ?_, fun j c' hj => ?_, fun j c' hj => ?_, h.foot, ?_, ?_, fun k hf => Nat.lt_of_lt_of_le (h.lt k hf) hk.size⟩
  · rw [hclen]
    exact at' h.bx (ne_tag h.bx hL (by decide))
  · obtain ⟨cur, h1, h2⟩ := h.bcs
    rw [hclen]
    exact ⟨cur, at' h1 (ne_tag h1 hL (by decide)), h2⟩
  · obtain ⟨K, h1, h2, h3⟩ := h.bn
    refine ⟨K, at' h1 (ne_tag h1 hL (by decide)), hk.row h2 (fun j hj => ?_), h3⟩
    rcases h2.2 with ⟨rfl, _⟩ | ⟨g, cap, cur, rfl, _, hg, _⟩
    · cases hj
    · cases hj
      exact ne_tag hg hL (by decide)
  · obtain ⟨K, h1, h2, h3⟩ := h.bs
    refine ⟨K, at' h1 (ne_tag h1 hL (by decide)), hk.row h2 (fun j hj => ?_), h3⟩
    rcases h2.2 with ⟨rfl, _⟩ | ⟨g, cap, cur, rfl, _, hg, _⟩
    · cases hj
    · cases hj
      exact ne_tag hg hL (by decide)
  · obtain ⟨es, q, hq⟩ := h.names.block
    exact h.names.keep hk (ne_map hL hq).symm
  · obtain ⟨c0, h0, rfl⟩ := hcl j c' hj
    have := at' (h.cl j c0 h0) (ne_tag (h.cl j c0 h0) hL (by decide))
    rw [this]
    split <;> simp [R.setLine]
  · obtain ⟨c0, h0, rfl⟩ := hcl j c' hj
    by_cases hij : i = j
    · subst hij
      obtain rfl := Option.some.inj (hc.symm.trans h0)
      simp only [if_true]
      exact ⟨_, hL', hr.set hx'⟩
    · obtain ⟨ys, h1, h2⟩ := h.ln j c0 h0
      simp only [hij, if_false]
      exact ⟨ys, at' h1 ((h.inj j i (List.getElem?_eq_some_iff.1 h0).1 hi (fun e => hij e.symm)).1), h2⟩
  · obtain ⟨c0, h0, rfl⟩ := hcl j c' hj
    obtain ⟨es, q, hq⟩ := (h.bound j c0 h0).block
    have := (h.bound j c0 h0).keep hk (ne_map hL hq).symm
    split <;> exact this
  · rw [hclen]; exact h.feet
  · rw [hclen]; exact h.inj
end Go.Proofs.YthofebmiggodhaaDoor
/-
  A call of a Go function inside a region that draws its order.
-/
namespace Go.Proofs.YthofebmiggodhaaDoor
open Go.RowKit

set_option maxRecDepth 100000 in
theorem step_call {ops : Array Oper} {o : Oper} {a : Act} {w : World} {K : Act → World → Prop} {Q : Exit → Act → World → Prop} {E : Prop}
    (hgd : o.guard = none) (f : Nat) (xs : Array Operand) (ts : Array TypeId) (ho : o.op = .call { callee := .value (.func f), args := xs, argTypes := ts }) (hcf : ∀ args w, (callFunc f args).run Tryd.prog w = .ok (.enter f args) w)
    (vs : Array Value) (hv0 : xs.toList.map a.eval = vs.toList) (R : Ending → World → Prop) (hC : Calls Tryd.prog f vs w R) (hR : ∀ e w', R e w' → ∃ v, e = .returned v ∧ K (a.put o.dst v) w') :
    if Region.wanted o (yielded ops a.tmps) = true then Oper.wp Tryd.prog o a w K Q else E := by
  have hw : Region.wanted o (yielded ops a.tmps) = true := by simp [Region.wanted, hgd]
  rw [if_pos hw]
  have hv : xs.map a.eval = vs := by
    apply Array.ext'
    simpa using hv0
  clear hv0
  subst hv
  unfold Oper.wp
  simp only [execOp, ho, resolve, invoke, Sem.run_bind]
  generalize Array.map a.eval xs = vs at hC ⊢
  have hC2 : Calls Tryd.prog f vs w (fun e w' => ∃ v, e = .returned v ∧ K (a.put o.dst v) w') := hC.mono hR
  clear hC hR
  simp [Deferred.ofValue, Act.eval, hcf, go_sem]
  refine hC2.mono ?_
  rintro e w' ⟨v, rfl, hk⟩
  exact hk
set_option maxRecDepth 100000 in
theorem cf94 : ∀ args w, (callFunc 94 args).run Tryd.prog w = .ok (.enter 94 args) w := fun _ _ => rfl
theorem undrew {a b : World} (h : Below a.drew.heap.size a.drew b) : Below a.heap.size a b := ⟨h.os, h.tape, h.output, h.size, h.block⟩
end Go.Proofs.YthofebmiggodhaaDoor
