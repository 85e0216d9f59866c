/-
  Joined: LSrv Wire2 Fields.
-/
import Derived.Test.YtblomippkddgiaaGreatDoorJ22
import Derived.Test.YtblomippkddgiaaGreatDoorJ30
import Derived.Test.YtblomippkddgiaaGreatDoorJ01
/-
  The landed server in memory: its services with their states and logs, what it remembers, its queue of jobs.
-/
namespace Go.Proofs.YtblomippkddgiaaGreatDoor
open Go.RowKit

abbrev ptr (b : Nat) : Value := .pointer (some ⟨b, 0, none⟩)
/- what hangs at a service: what works, the list of what it has done; the block of its state, the row of its posts -/
structure MV where
  wk : Value
  dn : Value
  sb : Nat
  bk : Value
def mcells (z : R.Sv × MV) : List Value := [.int .i64 z.1.kind, z.2.wk, z.2.dn]
theorem mcells_len (z : R.Sv × MV) : (mcells z).length = 3 := rfl
def ecells (z : R.En × Value × Value) : List Value := [.int .i64 z.1.client, .int .i64 z.1.life, .int .i64 z.1.line, .int .i64 z.1.seq, .int .i64 z.1.proc, z.2.1, z.2.2]
theorem ecells_len (z : R.En × Value × Value) : (ecells z).length = 7 := rfl
def strs (l : List ByteArray) : List Value := l.map fun s => Value.string s
/- what works, in the state behind the calls of a log -/
inductive Works (w : World) (F : Foot) (l : List R.En) (b : Nat) (K : Value) : Int → Value → Prop
  | counter (hF : F b) (hb : w.heap[b]? = some (.cells #[.int .u16 (R.countedP l 0)] 330 (0, 0))) (hK : K = .slice none 0 0) : Works w F l b K 0 (.iface 328 (ptr b))
  | board (hF : F b) (hb : w.heap[b]? = some (.cells #[K] 333 (0, 0))) (hK : w.ownsRow 0 9 1 K (R.postedP l).length (strs (R.postedP l))) (hKF : ∀ j, K.ownBlock = some j → F j) : Works w F l b K 1 (.iface 331 (ptr b))
  | desk (d0 d1 d2 : Value) (hF : F b) (hb : w.heap[b]? = some (.cells #[d0, d1, d2] 337 (0, 0))) (hK : K = .slice none 0 0) (h0 : DrAt w F d0 (R.laidP l 0 [])) (h1 : DrAt w F d1 (R.laidP l 1 [])) (h2 : DrAt w F d2 (R.laidP l 2 [])) : Works w F l b K 2 (.iface 334 (ptr b))
structure SvAt (w : World) (F : Foot) (z : R.Sv × MV) : Prop where
  wk : if z.1.alive = true then Works w F z.1.log z.2.sb z.2.bk z.1.kind z.2.wk else z.2.wk = .nilIface
  log : ∃ es : List (R.En × Value × Value), es.map (·.1) = z.1.log ∧ w.ownsRow 0 98 7 z.2.dn es.length (tab ecells es) ∧ ∀ y ∈ es, ItAt w F y.2.1 y.1.arg ∧ ItAt w F y.2.2 y.1.result
  own : ∀ j, z.2.dn.ownBlock = some j → F j

/- a line as the landed server keeps it -/
structure SLn where
  client : Int
  life : Int
  line : Int
  seq : Int
  uid : Int
  state : Int
  asked : List UInt8
  answer : List UInt8
  at' : Int
  wait : Int
  tries : Int
def SLn.cells (y : SLn) : List Value := [.int .i64 y.client, .int .i64 y.life, .int .i64 y.line, .int .i64 y.seq, .int .i64 y.uid, .int .i64 y.state, .string (str y.asked), .string (str y.answer), .int .i64 y.at', .int .i64 y.wait, .int .i64 y.tries]
structure SnRel (i : Nat) (life : Int) (r : R.Sn) (y : SLn) : Prop where
  client : y.client = ((i / 3 : Nat) : Int)
  life : y.life = life
  line : y.line = ((i % 3 : Nat) : Int)
  seq : y.seq = r.seq
  uid : y.uid = r.uid
  state : y.state = r.state - 1
  asked : r.state = 1 ∨ r.state = 2 → y.asked = r.message
  ans : r.state = 3 → y.answer = r.result ∧ y.at' = r.at'
  wait : y.wait = if r.timed = true then r.wait else 0
  tries : r.timed = true → y.tries = r.tries
def jval (j : R.Jb) : Value := .agg #[.int .i64 j.client, .int .i64 j.life, .int .i64 j.line, .int .i64 j.seq, .int .i64 j.uid]

/- where the parts of a server lie -/
structure SP where
  K : Value
  zs : List (R.Sv × MV)
  ql : Nat → Nat
  jc : Nat
/- the pointer to a line that is remembered -/
def qcell (t : SP) (seen : List R.Sn) (i : Nat) : Value := if ((seen[i]?).getD R.sn0).seq = 0 then .pointer none else ptr (t.ql i)
def scells (n nm : Nat) (t : SP) (c : R.Cf) (lives : List Int) (seen : List R.Sn) : List Value :=
  [.int .i64 c.clients, .int .i64 c.lines, .int .i64 c.retry, .int .i64 c.tries, .int .i64 c.table, .map (some nm), t.K, .int .i64 (lives.getD 0 0), .int .i64 (lives.getD 1 0), .int .i64 (lives.getD 2 0),
   qcell t seen 0, qcell t seen 1, qcell t seen 2, qcell t seen 3, qcell t seen 4, qcell t seen 5, qcell t seen 6, qcell t seen 7, qcell t seen 8, .chan (some t.jc), ptr n]

structure SrvAt (s n nm : Nat) (t : SP) (F : Foot) (c : R.Cf) (sv : List R.Sv) (lives : List Int) (seen : List R.Sn) (jobs : List R.Jb) (w : World) : Prop where
  bs : w.heap[s]? = some (.cells (scells n nm t c lives seen).toArray 167 (0, 0))
  zs : t.zs.map (·.1) = sv
  made : w.ownsRow 0 213 3 t.K t.zs.length (tab mcells t.zs)
  each : ∀ z ∈ t.zs, SvAt w F z
  dns : ∀ (i j : Nat) (z y : R.Sv × MV), t.zs[i]? = some z → t.zs[j]? = some y → i ≠ j → ∀ k, z.2.dn.ownBlock = some k → y.2.dn.ownBlock ≠ some k
  wks : ∀ (i j : Nat) (z y : R.Sv × MV), t.zs[i]? = some z → t.zs[j]? = some y → i ≠ j → z.1.alive = true → y.1.alive = true → z.2.sb ≠ y.2.sb ∧ ∀ k, z.2.bk.ownBlock = some k → y.2.bk.ownBlock ≠ some k
  ln : ∀ (i : Nat) (r : R.Sn), seen[i]? = some r → r.seq ≠ 0 → ∃ y : SLn, w.heap[t.ql i]? = some (.cells y.cells.toArray 147 (0, 0)) ∧ SnRel i (lives.getD (i / 3) 0) r y ∧ F (t.ql i)
  inj : ∀ (i j : Nat) (r r' : R.Sn), seen[i]? = some r → seen[j]? = some r' → r.seq ≠ 0 → r'.seq ≠ 0 → i ≠ j → t.ql i ≠ t.ql j
  jobs : ∃ a b : Nat, w.heap[t.jc]? = some (.chan c.table.toNat (jobs.map jval).toArray false a b false)
  foot : F s ∧ F t.jc ∧ ∀ j, t.K.ownBlock = some j → F j

/- the types of a server's blocks -/
def srvTag (t : TypeId) : Bool := t == 167 || t == 213 || t == 98 || t == 106 || t == 147 || t == 330 || t == 333 || t == 337 || t == 9
/- none of a server's blocks is turned -/
structure Avoid (w : World) (F E : Foot) : Prop where
  cells : ∀ b cur t z, F b → srvTag t = true → w.heap[b]? = some (.cells cur t z) → ¬ E b
  chan : ∀ b cap buf cl a r tm, F b → w.heap[b]? = some (.chan cap buf cl a r tm) → ¬ E b
theorem Avoid.apart {w : World} {F E : Foot} (h : ∀ k, F k → ¬ E k) : Avoid w F E := ⟨fun b _ _ _ hF _ _ => h b hF, fun b _ _ _ _ _ _ hF _ => h b hF⟩
/- blocks of another type -/
theorem Avoid.tags {w : World} {F E : Foot} (h : ∀ b, E b → (∃ cur t z, w.heap[b]? = some (.cells cur t z) ∧ srvTag t = false) ∨ ∃ es cl, w.heap[b]? = some (.map es cl)) : Avoid w F E := by
  refine ⟨fun b cur t z _ ht hb hE => ?_, fun b cap buf cl a r tm _ hb hE => ?_⟩
  · rcases h b hE with ⟨cur', t', z', h1, h2⟩ | ⟨es, cl, h1⟩
    · rw [hb] at h1
      cases h1
      rw [ht] at h2
      cases h2
    · rw [hb] at h1
      cases h1
  · rcases h b hE with ⟨cur', t', z', h1, h2⟩ | ⟨es, cl, h1⟩
    · rw [hb] at h1
      cases h1
    · rw [hb] at h1
      cases h1
theorem Avoid.one {w : World} {F : Foot} {b : Nat} {cur : Array Value} {t : TypeId} {z : Nat × Nat} (h : w.heap[b]? = some (.cells cur t z)) (ht : srvTag t = false) : Avoid w F (fun k => k = b) := Avoid.tags (fun k hk => Or.inl ⟨cur, t, z, by subst hk; exact h, ht⟩)
/- the types of the blocks of services and of items -/
def svTag (t : TypeId) : Bool := t == 98 || t == 106 || t == 330 || t == 333 || t == 337 || t == 9
def AvT (w : World) (F E : Foot) : Prop := ∀ b cur t z, F b → svTag t = true → w.heap[b]? = some (.cells cur t z) → ¬ E b
theorem svTag_srv {t : TypeId} (h : svTag t = true) : srvTag t = true := by
  simp only [svTag, Bool.or_eq_true, beq_iff_eq] at h
  rcases h with ((((h | h) | h) | h) | h) | h <;> rw [h] <;> rfl
theorem Avoid.sv {w : World} {F E : Foot} (h : Avoid w F E) : AvT w F E := fun b cur t z hF ht hb => h.cells b cur t z hF (svTag_srv ht) hb
theorem AvT.tags {w : World} {F E : Foot} (h : ∀ b, E b → (∃ cur t z, w.heap[b]? = some (.cells cur t z) ∧ svTag t = false) ∨ (∃ es cl, w.heap[b]? = some (.map es cl)) ∨ ∃ cap buf cl a r tm, w.heap[b]? = some (.chan cap buf cl a r tm)) : AvT w F E := by
  intro b cur t z _ ht hb hE
  rcases h b hE with ⟨cur', t', z', h1, h2⟩ | ⟨es, cl, h1⟩ | ⟨cap, buf, cl, a, r, tm, h1⟩
  · rw [hb] at h1
    cases h1
    rw [ht] at h2
    cases h2
  · rw [hb] at h1
    cases h1
  · rw [hb] at h1
    cases h1
theorem AvT.one {w : World} {F : Foot} {b : Nat} {cur : Array Value} {t : TypeId} {z : Nat × Nat} (h : w.heap[b]? = some (.cells cur t z)) (ht : svTag t = false) : AvT w F (fun k => k = b) := AvT.tags (fun k hk => Or.inl ⟨cur, t, z, by subst hk; exact h, ht⟩)
theorem trow_keep {w w' : World} {F E : Foot} {B n size : Nat} {e : TypeId} {v : Value} {xs : List Value} (hr : w.ownsRow B e size v n xs) (hk : Keeps E w w') (ha : AvT w F E) (he : svTag e = true) (hF : ∀ j, v.ownBlock = some j → F j) : w'.ownsRow B e size v n xs := by
  refine hk.row hr (fun j hj => ?_)
  rcases hr.2 with ⟨rfl, _⟩ | ⟨g, cap, cur, rfl, _, hg, _⟩
  · cases hj
  · cases hj
    exact ha g cur e _ (hF g rfl) he hg
theorem srow_keep {w w' : World} {F E : Foot} {B n size : Nat} {e : TypeId} {v : Value} {xs : List Value} (hr : w.ownsRow B e size v n xs) (hk : Keeps E w w') (ha : Avoid w F E) (he : srvTag e = true) (hF : ∀ j, v.ownBlock = some j → F j) : w'.ownsRow B e size v n xs := by
  refine hk.row hr (fun j hj => ?_)
  rcases hr.2 with ⟨rfl, _⟩ | ⟨g, cap, cur, rfl, _, hg, _⟩
  · cases hj
  · cases hj
    exact ha.cells g cur e _ (hF g rfl) he hg
theorem ItAt.avoid {w w' : World} {F E F' : Foot} {V : Value} {l : List R.It} (h : ItAt w F V l) (hk : Keeps E w w') (ha : AvT w F E) (hF : ∀ k, F k → F' k) : ItAt w' F' V l := h.keep hk (fun b cur hb hc => ha b cur 106 (0, 0) hb rfl hc) hF
theorem DrAt.avoid {w w' : World} {F E F' : Foot} {V : Value} {l : List R.It} (h : DrAt w F V l) (hk : Keeps E w w') (ha : AvT w F E) (hF : ∀ k, F k → F' k) : DrAt w' F' V l := h.keep hk (fun b cur hb hc => ha b cur 106 (0, 0) hb rfl hc) hF
theorem Works.keep {w w' : World} {F E F' : Foot} {l : List R.En} {b : Nat} {K : Value} {k : Int} {W : Value} (h : Works w F l b K k W) (hk : Keeps E w w') (ha : AvT w F E) (hF : ∀ k, F k → F' k) : Works w' F' l b K k W := by
  cases h with
  | counter h1 h2 h3 => exact .counter (hF _ h1) (hk.at h2 (ha b _ _ _ h1 rfl h2)) h3
  | board h1 h2 h3 h4 => exact .board (hF _ h1) (hk.at h2 (ha b _ _ _ h1 rfl h2)) (trow_keep h3 hk ha rfl h4) (fun j hj => hF _ (h4 j hj))
  | desk d0 d1 d2 h1 h2 h0 h3 h4 h5 => exact .desk d0 d1 d2 (hF _ h1) (hk.at h2 (ha b _ _ _ h1 rfl h2)) h0 (h3.avoid hk ha hF) (h4.avoid hk ha hF) (h5.avoid hk ha hF)
theorem SvAt.keep {w w' : World} {F E F' : Foot} {z : R.Sv × MV} (h : SvAt w F z) (hk : Keeps E w w') (ha : AvT w F E) (hF : ∀ k, F k → F' k) : SvAt w' F' z := by
  refine ⟨?_, ?_, fun j hj => hF _ (h.own j hj)⟩
  · have hw := h.wk
    split
    · rename_i e
      rw [if_pos e] at hw
      exact hw.keep hk ha hF
    · rename_i e
      rw [if_neg e] at hw
      exact hw
  · obtain ⟨es, h1, h2, h3⟩ := h.log
    exact ⟨es, h1, trow_keep h2 hk ha rfl h.own, fun y hy => ⟨(h3 y hy).1.avoid hk ha hF, (h3 y hy).2.avoid hk ha hF⟩⟩
theorem SrvAt.keep {s n nm : Nat} {t : SP} {F E F' : Foot} {c : R.Cf} {sv : List R.Sv} {lives : List Int} {seen : List R.Sn} {jobs : List R.Jb} {w w' : World} (h : SrvAt s n nm t F c sv lives seen jobs w) (hk : Keeps E w w') (ha : Avoid w F E) (hF : ∀ k, F k → F' k) : SrvAt s n nm t F' c sv lives seen jobs w' := by
  obtain ⟨f1, f2, f3⟩ := h.foot
  refine ⟨hk.at h.bs (ha.cells s _ _ _ f1 rfl h.bs), h.zs, srow_keep h.made hk ha rfl f3, fun z hz => (h.each z hz).keep hk ha.sv hF, h.dns, h.wks, fun i r hr hne => ?_, h.inj, ?_, hF _ f1, hF _ f2, fun j hj => hF _ (f3 j hj)⟩
  · obtain ⟨y, h1, h2, h3⟩ := h.ln i r hr hne
    exact ⟨y, hk.at h1 (ha.cells _ _ _ _ h3 rfl h1), h2, hF _ h3⟩
  · obtain ⟨a, b, hj⟩ := h.jobs
    exact ⟨a, b, hk.at hj (ha.chan _ _ _ _ _ _ _ f2 hj)⟩
end Go.Proofs.YtblomippkddgiaaGreatDoor
/-
  The landed code's reader of a packet: its fields.
-/
namespace Go.Proofs.YtblomippkddgiaaGreatDoor
open Go.RowKit

theorem or_two (a c : Nat) (ha : a < 256) (hc : c < 256) : bits .or .i64 ((a : Int) * 256) (c : Int) = (a : Int) * 256 + (c : Int) := by
  have e : a * 256 ||| c = a * 256 + c := by
    have h := Nat.two_pow_add_eq_or_of_lt (i := 8) (b := c) (by omega) a
    rw [show 2 ^ 8 * a = a * 256 by omega] at h
    exact h.symm
  have e0 : (a : Int) * 256 = ((a * 256 : Nat) : Int) := by omega
  rw [e0]
  have n1 : (BitVec.ofInt 64 ((a * 256 : Nat) : Int)).toNat = a * 256 := by
    rw [BitVec.ofInt_natCast, BitVec.toNat_ofNat]
    omega
  have n2 : (BitVec.ofInt 64 (c : Int)).toNat = c := by
    rw [BitVec.ofInt_natCast, BitVec.toNat_ofNat]
    omega
  show IntKind.i64.wrap ((BitVec.ofInt 64 ((a * 256 : Nat) : Int) ||| BitVec.ofInt 64 (c : Int)).toNat : Int) = _
  rw [BitVec.toNat_or, n1, n2, e, IntKind.wrap_i64]
  omega

def twoP (b : Nat) (l : List UInt8) (w : World) (e : Ending) (w' : World) : Prop := Only b w w' ∧ ((l.length < 2 ∧ e = gaveUp 7 0) ∨ ∃ a c r, l = a :: c :: r ∧ e = .returned (.int .i64 (num2 a c)) ∧ Rd w' b r)
set_option maxRecDepth 100000 in
set_option maxHeartbeats 1000000 in
theorem two_any (b : Nat) (l : List UInt8) (w : World) (h : Rd w b l) (hl : l.length ≤ 9223372036854775807) : Calls Tryz.prog 114 #[.pointer (some ⟨b, 0, none⟩)] w (twoP b l w) := by
  have H1 := hide (byte_any b l w h hl)
  have H2 := hide (fun (r : List UInt8) (w : World) (h : Rd w b r) (hl : r.length ≤ 9223372036854775807) => byte_any b r w h hl)
  clear h
  go_enter Tryz.func114, Tryz.ntmps114
  go_wp2_with fail
  refine (unhide H1).mono ?_
  rintro e w1 ⟨hk1, ⟨rfl, rfl⟩ | ⟨a, r, rfl, rfl, hr1⟩⟩
  · go_wp2
    exact ⟨rfl, hk1, Or.inl ⟨by simp, rfl⟩⟩
  · have H3 := hide ((unhide H2) r w1 hr1 (by simp at hl; omega))
    clear H2 hr1
    have ha := a.toNat_lt
    have hw : wrap64 ((a.toNat : Int) * 256) = (a.toNat : Int) * 256 := by unfold wrap64; omega
    go_wp2_with fail
    refine (unhide H3).mono ?_
    rintro e w2 ⟨hk2, ⟨rfl, rfl⟩ | ⟨c, r, rfl, rfl, hr2⟩⟩
    · go_wp2
      exact ⟨rfl, hk1.trans hk2, Or.inl ⟨by simp, rfl⟩⟩
    · have hc := c.toNat_lt
      have ho := or_two a.toNat c.toNat (by omega) (by omega)
      have HR := hide hr2
      clear hr2
      go_wp2
      go_ret
      exact ⟨hk1.trans hk2, Or.inr ⟨a, c, r, rfl, rfl, unhide HR⟩⟩

/- End: nothing may be left -/
set_option maxRecDepth 100000 in
set_option maxHeartbeats 1000000 in
theorem end_any (b : Nat) (l : List UInt8) (w : World) (h : Rd w b l) (hl : l.length ≤ 9223372036854775807) : Calls Tryz.prog 69 #[.pointer (some ⟨b, 0, none⟩)] w fun e w' => w' = w ∧ e = if l = [] then .returned (.tuple #[]) else gaveUp 7 0 := by
  have H := hide (refuse_any b l w h)
  have h1 := h.left
  have hsz := str_size l
  by_cases h0 : l = []
  · subst h0
    clear h
    go_enter Tryz.func69, Tryz.ntmps69
    go_wp2
    go_end0
    exact ⟨rfl, rfl⟩
  · have hp := List.length_pos_iff.2 h0
    rw [if_neg h0]
    have hgt : (0 : Int) < ((str l).size : Int) := by omega
    generalize str l = S at *
    clear h h0
    go_enter Tryz.func69, Tryz.ntmps69
    go_wp2_with fail
    refine (unhide H).mono ?_
    rintro e w1 ⟨rfl, rfl⟩
    go_wp2
    exact ⟨rfl, rfl, rfl⟩

/- Please: a byte 0 or 1 -/
def flagP (b : Nat) (l : List UInt8) (w : World) (e : Ending) (w' : World) : Prop := Only b w w' ∧ (((∀ f r, l = f :: r → ¬ f.toNat ≤ 1) ∧ e = gaveUp 7 0) ∨ ∃ f r, l = f :: r ∧ f.toNat ≤ 1 ∧ e = .returned (.bool ((f.toNat : Int) == 1)) ∧ Rd w' b r)
set_option maxRecDepth 100000 in
set_option maxHeartbeats 1000000 in
theorem flag_any (b : Nat) (l : List UInt8) (w : World) (h : Rd w b l) (hl : l.length ≤ 9223372036854775807) : Calls Tryz.prog 115 #[.pointer (some ⟨b, 0, none⟩)] w (flagP b l w) := by
  have H1 := hide (byte_any b l w h hl)
  have H2 := hide (fun (r : List UInt8) (w : World) (h : Rd w b r) => refuse_any b r w h)
  clear h
  go_enter Tryz.func115, Tryz.ntmps115
  go_wp2_with fail
  refine (unhide H1).mono ?_
  rintro e w1 ⟨hk1, ⟨rfl, rfl⟩ | ⟨a, r, rfl, rfl, hr1⟩⟩
  · go_wp2
    exact ⟨rfl, hk1, Or.inl ⟨fun f r h => (by cases h), rfl⟩⟩
  · by_cases h1 : (1 : Int) < (a.toNat : Int)
    · have H3 := hide ((unhide H2) r w1 hr1)
      clear H2 hr1
      go_wp2_with fail
      refine (unhide H3).mono ?_
      rintro e w2 ⟨rfl, rfl⟩
      go_wp2
      refine ⟨rfl, hk1, Or.inl ⟨fun f r h => ?_, rfl⟩⟩
      cases h
      omega
    · have HR := hide hr1
      clear hr1 H2
      go_wp2
      go_ret
      exact ⟨hk1, Or.inr ⟨a, r, rfl, by omega, rfl, unhide HR⟩⟩

/- the length, and as many bytes -/
def bodyP (b : Nat) (l : List UInt8) (w : World) (e : Ending) (w' : World) : Prop := Only b w w' ∧ (((∀ L r, l = L :: r → ¬ L.toNat ≤ r.length) ∧ e = gaveUp 7 0) ∨ ∃ L r, l = L :: r ∧ L.toNat ≤ r.length ∧ e = .returned (.string (str (r.take L.toNat))) ∧ Rd w' b (r.drop L.toNat))
set_option maxRecDepth 100000 in
set_option maxHeartbeats 1000000 in
theorem body_any (b : Nat) (l : List UInt8) (w : World) (h : Rd w b l) (hl : l.length ≤ 9223372036854775807) : Calls Tryz.prog 116 #[.pointer (some ⟨b, 0, none⟩)] w (bodyP b l w) := by
  have H1 := hide (byte_any b l w h hl)
  clear h
  go_enter Tryz.func116, Tryz.ntmps116
  go_wp2_with fail
  refine (unhide H1).mono ?_
  rintro e w1 ⟨hk1, ⟨rfl, rfl⟩ | ⟨L, r, rfl, rfl, hr1⟩⟩
  · go_wp2
    exact ⟨rfl, hk1, Or.inl ⟨fun f r h => (by cases h), rfl⟩⟩
  · have hL := L.toNat_lt
    have hrl : r.length ≤ 9223372036854775807 := by simp at hl; omega
    by_cases h1 : L.toNat ≤ r.length
    · have H2 := hide (take_ok b r L.toNat w1 hr1 h1 hrl)
      have hset := hr1.set (r.drop L.toNat)
      have H3 := hide (clone_any (r.take L.toNat) (w1.setCell ⟨b, 0, none⟩ (.string (str (r.drop L.toNat)))) (by rw [List.length_take]; omega))
      have HO := hide (Only.set b 0 w1 (.string (str (r.drop L.toNat))))
      have HS := hide hset
      have hsl := hset.lt
      clear hset hr1
      generalize hA : str (r.take L.toNat) = A at *
      generalize hB : w1.setCell ⟨b, 0, none⟩ (.string (str (r.drop L.toNat))) = W at *
      go_wp2_with fail
      refine (unhide H2).mono ?_
      rintro e w2 ⟨rfl, rfl⟩
      go_wp2_with fail
      refine (unhide H3).mono ?_
      rintro e w3 ⟨rfl, hb3⟩
      go_wp2
      go_ret
      refine ⟨(hk1.trans (unhide HO)).trans (Only.of_below hb3 (by omega)), Or.inr ⟨L, r, rfl, h1, by rw [hA]; rfl, (unhide HS).below hb3 hsl⟩⟩
    · have H2 := hide (take_no b r L.toNat w1 hr1 h1)
      clear hr1
      go_wp2_with fail
      refine (unhide H2).mono ?_
      rintro e w2 ⟨rfl, rfl⟩
      go_wp2
      refine ⟨rfl, hk1, Or.inl ⟨fun f r h => ?_, rfl⟩⟩
      cases h
      exact h1

end Go.Proofs.YtblomippkddgiaaGreatDoor
/-
  The landed code's reader of a packet: all its fields, in their order.
-/
namespace Go.Proofs.YtblomippkddgiaaGreatDoor
open Go.RowKit

abbrev pv (p : Pk) : Value := .agg #[.int .i64 p.kind, .int .i64 p.client, .int .i64 p.life, .int .i64 p.line, .int .i64 p.seq, .int .i64 p.uid, .int .i64 p.part, .int .i64 p.off, .bool p.please, .string (str p.body)]
abbrev zeroP : Value := .agg #[.int .i64 0, .int .i64 0, .int .i64 0, .int .i64 0, .int .i64 0, .int .i64 0, .int .i64 0, .int .i64 0, .bool false, .string ⟨#[]⟩]
abbrev zeroCells : Array Value := #[.int .i64 0, .int .i64 0, .int .i64 0, .int .i64 0, .int .i64 0, .int .i64 0, .int .i64 0, .int .i64 0, .bool false, .string ⟨#[]⟩]

/- the reader's state: b lies in W, l is left; of w nothing has turned but b -/
structure St (b : Nat) (w W : World) (l : List UInt8) : Prop where
  only : Only b w W
  rd : Rd W b l
  len : l.length ≤ 9223372036854775807
theorem byte_st {b : Nat} {w W : World} {l : List UInt8} (h : St b w W l) : Calls Tryz.prog 113 #[.pointer (some ⟨b, 0, none⟩)] W fun e W' => (l = [] ∧ e = gaveUp 7 0 ∧ Only b w W') ∨ ∃ c r, l = c :: r ∧ e = .returned (.int .i64 (c.toNat : Int)) ∧ St b w W' r := by
  refine (byte_any b l W h.rd h.len).mono ?_
  rintro e w1 ⟨hk1, ⟨h1, h2⟩ | ⟨a, r, h1, h2, hr1⟩⟩
  · exact Or.inl ⟨h1, h2, h.only.trans hk1⟩
  · refine Or.inr ⟨a, r, h1, h2, h.only.trans hk1, hr1, ?_⟩
    have := h.len
    rw [h1, List.length_cons] at this
    omega
theorem two_st {b : Nat} {w W : World} {l : List UInt8} (h : St b w W l) : Calls Tryz.prog 114 #[.pointer (some ⟨b, 0, none⟩)] W fun e W' => (l.length < 2 ∧ e = gaveUp 7 0 ∧ Only b w W') ∨ ∃ a c r, l = a :: c :: r ∧ e = .returned (.int .i64 (num2 a c)) ∧ St b w W' r := by
  refine (two_any b l W h.rd h.len).mono ?_
  rintro e w1 ⟨hk1, ⟨h1, h2⟩ | ⟨a, c, r, h1, h2, hr1⟩⟩
  · exact Or.inl ⟨h1, h2, h.only.trans hk1⟩
  · refine Or.inr ⟨a, c, r, h1, h2, h.only.trans hk1, hr1, ?_⟩
    have := h.len
    rw [h1, List.length_cons, List.length_cons] at this
    omega
theorem flag_st {b : Nat} {w W : World} {l : List UInt8} (h : St b w W l) : Calls Tryz.prog 115 #[.pointer (some ⟨b, 0, none⟩)] W fun e W' => ((∀ f r, l = f :: r → ¬ f.toNat ≤ 1) ∧ e = gaveUp 7 0 ∧ Only b w W') ∨ ∃ f r, l = f :: r ∧ Hid (f.toNat ≤ 1) ∧ e = .returned (.bool ((f.toNat : Int) == 1)) ∧ St b w W' r := by
  refine (flag_any b l W h.rd h.len).mono ?_
  rintro e w1 ⟨hk1, ⟨h1, h2⟩ | ⟨a, r, h1, h3, h2, hr1⟩⟩
  · exact Or.inl ⟨h1, h2, h.only.trans hk1⟩
  · refine Or.inr ⟨a, r, h1, h3, h2, h.only.trans hk1, hr1, ?_⟩
    have := h.len
    rw [h1, List.length_cons] at this
    omega
theorem body_st {b : Nat} {w W : World} {l : List UInt8} (h : St b w W l) : Calls Tryz.prog 116 #[.pointer (some ⟨b, 0, none⟩)] W fun e W' => ((∀ L r, l = L :: r → ¬ L.toNat ≤ r.length) ∧ e = gaveUp 7 0 ∧ Only b w W') ∨ ∃ L r, l = L :: r ∧ Hid (L.toNat ≤ r.length) ∧ e = .returned (.string (str (r.take L.toNat))) ∧ St b w W' (r.drop L.toNat) := by
  refine (body_any b l W h.rd h.len).mono ?_
  rintro e w1 ⟨hk1, ⟨h1, h2⟩ | ⟨a, r, h1, h3, h2, hr1⟩⟩
  · exact Or.inl ⟨h1, h2, h.only.trans hk1⟩
  · refine Or.inr ⟨a, r, h1, h3, h2, h.only.trans hk1, hr1, ?_⟩
    have := h.len
    rw [h1, List.length_cons] at this
    rw [List.length_drop]
    omega

theorem cell_of {w : World} {s : Nat} {xs : Array Value} {t : TypeId} (h : w.heap[s]? = some (.cells xs t (0, 0))) (o : Nat) (v : Value) (hv : xs[o]? = some v) : w.cell? ⟨s, o, none⟩ = some v := by
  simp [World.cell?, h, hv]
theorem thaw_of {w : World} {s : Nat} {xs : Array Value} {t : TypeId} (h : w.heap[s]? = some (.cells xs t (0, 0))) (o : Nat) : w.frozen? ⟨s, o, none⟩ = false := by
  simp [World.frozen?, h]
theorem Only.put {b s o : Nat} {w w1 : World} (h : Only b w w1) (hs : w.heap.size ≤ s) (hb : b < s) (x : Value) : Only b w (w1.setCell ⟨s, o, none⟩ x) :=
  ⟨h.below.setCell (by simp; omega) _, by simpa using h.size, fun k hk hkb => (Below.heap_setCell _ _ _ _ (by simp; omega)).trans (h.block k hk hkb)⟩
theorem Rd.other {w : World} {b s o : Nat} {l : List UInt8} (h : Rd w b l) (hb : b < s) (x : Value) : Rd (w.setCell ⟨s, o, none⟩ x) b l := by
  unfold Rd at h ⊢
  rw [Below.heap_setCell _ _ _ _ (by simp; omega)]
  exact h

abbrev set10 (w : World) (s : Nat) (x0 x1 x2 x3 x4 x5 x6 x7 x8 x9 : Value) : World := (((((((((w.setCell ⟨s, 0, none⟩ x0).setCell ⟨s, 1, none⟩ x1).setCell ⟨s, 2, none⟩ x2).setCell ⟨s, 3, none⟩ x3).setCell ⟨s, 4, none⟩ x4).setCell ⟨s, 5, none⟩ x5).setCell ⟨s, 6, none⟩ x6).setCell ⟨s, 7, none⟩ x7).setCell ⟨s, 8, none⟩ x8).setCell ⟨s, 9, none⟩ x9
theorem only10 {b s : Nat} {w w1 : World} (h : Only b w w1) (hs : w.heap.size ≤ s) (hb : b < s) (x0 x1 x2 x3 x4 x5 x6 x7 x8 x9 : Value) : Only b w (set10 w1 s x0 x1 x2 x3 x4 x5 x6 x7 x8 x9) :=
  (((((((((h.put hs hb _).put hs hb _).put hs hb _).put hs hb _).put hs hb _).put hs hb _).put hs hb _).put hs hb _).put hs hb _).put hs hb _
theorem rd10 {w : World} {b s : Nat} {l : List UInt8} (h : Rd w b l) (hb : b < s) (x0 x1 x2 x3 x4 x5 x6 x7 x8 x9 : Value) : Rd (set10 w s x0 x1 x2 x3 x4 x5 x6 x7 x8 x9) b l :=
  (((((((((h.other hb _).other hb _).other hb _).other hb _).other hb _).other hb _).other hb _).other hb _).other hb _).other hb _

def fieldsPost (b : Nat) (l : List UInt8) (w : World) (e : Ending) (w' : World) : Prop := Only b w w' ∧ ((fieldsP l = none ∧ e = gaveUp 7 0) ∨ ∃ p r, fieldsP l = some (p, r) ∧ e = .returned (pv p) ∧ Rd w' b r)

theorem few (l : List UInt8) (h : l.length < 11) : fieldsP l = none := by
  unfold fieldsP
  split
  · simp only [List.length_cons] at h
    omega
  · rfl
theorem few9 {k c li ln s1 s2 u pa o : UInt8} {l : List UInt8} (h : ∀ f r, l = f :: r → ¬ f.toNat ≤ 1) : fieldsP (k :: c :: li :: ln :: s1 :: s2 :: u :: pa :: o :: l) = none := by
  unfold fieldsP
  split
  · rename_i he
    simp only [List.cons.injEq] at he
    obtain ⟨_, _, _, _, _, _, _, _, _, he⟩ := he
    rw [if_neg (fun hh => h _ _ he hh.1)]
  · rfl
theorem few10 {k c li ln s1 s2 u pa o f : UInt8} {l : List UInt8} (h : ∀ L r, l = L :: r → ¬ L.toNat ≤ r.length) : fieldsP (k :: c :: li :: ln :: s1 :: s2 :: u :: pa :: o :: f :: l) = none := by
  unfold fieldsP
  split
  · rename_i he
    simp only [List.cons.injEq] at he
    obtain ⟨_, _, _, _, _, _, _, _, _, _, he⟩ := he
    rw [if_neg (fun hh => h _ _ he hh.2)]
  · rfl
theorem all11 {k c li ln s1 s2 u pa o f L : UInt8} {r : List UInt8} (h1 : f.toNat ≤ 1) (h2 : L.toNat ≤ r.length) : fieldsP (k :: c :: li :: ln :: s1 :: s2 :: u :: pa :: o :: f :: L :: r) = some (⟨k.toNat, c.toNat, li.toNat, ln.toNat, num2 s1 s2, u.toNat, pa.toNat, o.toNat, (f.toNat : Int) == 1, r.take L.toNat⟩, r.drop L.toNat) := by
  show (if f.toNat ≤ 1 ∧ L.toNat ≤ r.length then _ else _) = _
  rw [if_pos ⟨h1, h2⟩]

set_option maxRecDepth 100000 in
set_option maxHeartbeats 4000000 in
theorem fields_any (b : Nat) (l : List UInt8) (w : World) (h : Rd w b l) (hl : l.length ≤ 9223372036854775807) : Calls Tryz.prog 66 #[.pointer (some ⟨b, 0, none⟩)] w (fieldsPost b l w) := by
  have hbl := h.lt
  have hB0 : Only b w ((w.alloc (.cells zeroCells 41)).drew) := ⟨((Below.refl _ _).alloc (by omega) _).drew, by simp, fun k hk _ => Below.heap_alloc _ _ _ hk⟩
  have h0 : Rd ((w.alloc (.cells zeroCells 41)).drew) b l := by
    unfold Rd at h ⊢
    show (w.alloc _).heap[b]? = _
    rw [Below.heap_alloc _ _ _ hbl]
    exact h
  obtain ⟨W, hW⟩ : ∃ W, W = (w.alloc (.cells zeroCells 41)).drew := ⟨_, rfl⟩
  have hz0 : W.heap[w.heap.size]? = some (.cells zeroCells 41 (0, 0)) := by
    rw [hW]
    show (w.heap.push _)[w.heap.size]? = _
    rw [Array.getElem?_push_size]
  have hst : St b W W l := ⟨Only.refl _ _, hW ▸ h0, hl⟩
  rw [← hW] at hB0
  have hWs : w.heap.size < W.heap.size := lt_of_block hz0
  clear h h0 hl
  go_enter Tryz.func66, Tryz.ntmps66
  go_wp2
  go_region_with (first
    | (go_at_call 113; refine (byte_st (by rw [← hW]; exact hst)).mono ?_; rintro e w1 (⟨rfl, rfl, hbw⟩ | ⟨c, r, rfl, rfl, hst⟩); (exact ⟨rfl, hB0.trans hbw, Or.inl ⟨few _ (by simp), rfl⟩⟩))
    | (go_at_call 113; refine (byte_st (by assumption)).mono ?_; rintro e w1 (⟨rfl, rfl, hbw⟩ | ⟨c, r, rfl, rfl, hst⟩); (exact ⟨rfl, hB0.trans hbw, Or.inl ⟨few _ (by simp), rfl⟩⟩))
    | (go_at_call 114; refine (two_st (by assumption)).mono ?_; rintro e w1 (⟨hlt, rfl, hbw⟩ | ⟨c, d, r, rfl, rfl, hst⟩); (exact ⟨rfl, hB0.trans hbw, Or.inl ⟨few _ (by simp only [List.length_cons]; omega), rfl⟩⟩))
    | (go_at_call 115; refine (flag_st (by assumption)).mono ?_; rintro e w1 (⟨hlt, rfl, hbw⟩ | ⟨f, r, rfl, hf1, rfl, hst⟩); (exact ⟨rfl, hB0.trans hbw, Or.inl ⟨few9 hlt, rfl⟩⟩))
    | (go_at_call 116; refine (body_st (by assumption)).mono ?_; rintro e w1 (⟨hlt, rfl, hbw⟩ | ⟨L, r, rfl, hL1, rfl, hst⟩); (exact ⟨rfl, hB0.trans hbw, Or.inl ⟨few10 hlt, rfl⟩⟩); have hzz := (hst.only.block _ hWs (by omega)).trans hz0; have c0 := cell_of hzz 0 _ rfl; have c1 := cell_of hzz 1 _ rfl; have c2 := cell_of hzz 2 _ rfl; have c3 := cell_of hzz 3 _ rfl; have c4 := cell_of hzz 4 _ rfl; have c5 := cell_of hzz 5 _ rfl; have c6 := cell_of hzz 6 _ rfl; have c7 := cell_of hzz 7 _ rfl; have c8 := cell_of hzz 8 _ rfl; have c9 := cell_of hzz 9 _ rfl; have cz := thaw_of hzz; clear hzz))
  have FO := hide (hB0.trans hst.only)
  have FR := hide hst.rd
  clear hst
  go_wp2
  refine bodyPost_ret (v := pv ⟨_, _, _, _, _, _, _, _, _, _⟩) (by simp [results, Tryz.results66, go_sem, c0, c1, c2, c3, c4, c5, c6, c7, c8, c9]) rfl ⟨only10 (unhide FO) (Nat.le_refl _) hbl _ _ _ _ _ _ _ _ _ _, Or.inr ⟨_, _, all11 (unhide hf1) (unhide hL1), rfl, rd10 (unhide FR) hbl _ _ _ _ _ _ _ _ _ _⟩⟩
end Go.Proofs.YtblomippkddgiaaGreatDoor
