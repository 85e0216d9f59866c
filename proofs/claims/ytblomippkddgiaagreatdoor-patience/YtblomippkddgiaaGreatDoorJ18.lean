/-
  Joined: RWorld LItem RGood VReads.
-/
import Derived.Test.YtblomippkddgiaaGreatDoorJ00
import Derived.Test.YtblomippkddgiaaGreatDoorJ17
import Derived.Test.YtblomippkddgiaaGreatDoorJ01
import Derived.Test.YtblomippkddgiaaGreatDoorJ15
import Derived.Lib.BufferWrite
import Derived.Lib.UnsafeStr
import Derived.Laws.MakeOwn
/-
  A world as the document's answer keeps it, with no program in sight: its names, its services, what flies, its clients and their lines, what the server remembers, its jobs; and each call on it.
-/
namespace Go.Proofs.YtblomippkddgiaaGreatDoor.R

abbrev It := Int × ByteArray
structure Cf where
  clients : Int
  lines : Int
  retry : Int
  tries : Int
  table : Int
structure En where
  client : Int
  life : Int
  line : Int
  seq : Int
  proc : Int
  arg : List It
  result : List It
structure Fl where
  to : Int
  s : List UInt8
  bent : Bool
structure Sv where
  kind : Int
  alive : Bool
  log : List En
structure Ln where
  seq : Int
  state : Int
  result : List It
  uid : Int
  to : ByteArray
  message : List UInt8
  acked : Int
  came : List UInt8
  pieces : Int
  wait : Int
  tries : Int
structure Cl where
  life : Int
  bound : List Int
  lines : List Ln
structure Sn where
  seq : Int
  uid : Int
  message : List UInt8
  pieces : Int
  state : Int
  result : List UInt8
  at' : Int
  timed : Bool
  wait : Int
  tries : Int
structure Jb where
  client : Int
  line : Int
  life : Int
  seq : Int
  uid : Int
structure Wd where
  c : Cf
  names : List (List UInt8)
  stands : List Int
  services : List Sv
  flying : List Fl
  clients : List Cl
  lives : List Int
  seen : List Sn
  jobs : List Jb

def ln0 : Ln := ⟨0, 0, [], 0, ⟨#[]⟩, [], 0, [], 0, 0, 0⟩
def sn0 : Sn := ⟨0, 0, [], 0, 0, [], 0, false, 0, 0⟩
def cl0 (life : Int) (lines : Int) : Cl := ⟨life, [], List.replicate lines.toNat ln0⟩

/- P9 -/
def okCf (c : Cf) : Prop := (1 ≤ c.clients ∧ c.clients ≤ 3) ∧ (1 ≤ c.lines ∧ c.lines ≤ 3) ∧ (1 ≤ c.retry ∧ c.retry ≤ 8) ∧ (1 ≤ c.tries ∧ c.tries ≤ 6) ∧ (1 ≤ c.table ∧ c.table ≤ 9)
instance (c : Cf) : Decidable (okCf c) := by unfold okCf; infer_instance
def newP (c : Cf) : Option Wd := if okCf c then some ⟨c, [], [], [], [], List.replicate c.clients.toNat (cl0 1 c.lines), [0, 0, 0], List.replicate 9 sn0, []⟩ else none

/- P10 -/
def namedP (s : List UInt8) : Bool := decide (1 ≤ s.length) && decide (s.length ≤ 8) && s.all fun b => decide (97 ≤ b.toNat) && decide (b.toNat ≤ 122)
def entryP (w : Wd) (name : List UInt8) : Option Nat := w.names.findIdx? (· == name)
def endP (w : Wd) (uid : Int) : Wd :=
  { w with
    services := w.services.modify (uid - 1).toNat fun s => { s with alive := false }
    seen := w.seen.map fun r => if r.uid = uid ∧ r.state < 3 then { r with state := 4 } else r }
/- the answers: the number, the error (the document's numbers) -/
def exportP (w : Wd) (name : List UInt8) (kind : Int) : (Int × Int) × Wd :=
  if namedP name = false then ((0, 10), w)
  else if kind < 0 ∨ 2 < kind then ((0, 9), w)
  else match entryP w name with
    | none =>
      if w.names.length = 6 then ((0, 12), w)
      else if w.services.length = 255 then ((0, 11), w)
      else (((w.services.length : Int) + 1, 0), { w with names := w.names ++ [name], stands := w.stands ++ [(w.services.length : Int) + 1], services := w.services ++ [⟨kind, true, []⟩] })
    | some k =>
      if w.services.length = 255 then ((0, 11), w)
      else
        let w1 := endP w (w.stands.getD k 0)
        (((w.services.length : Int) + 1, 0), { w1 with stands := w1.stands.set k ((w.services.length : Int) + 1), services := w1.services ++ [⟨kind, true, []⟩] })
def withdrawP (w : Wd) (name : List UInt8) : Int × Wd := match entryP w name with
  | none => (10, w)
  | some k =>
    let w1 := endP w (w.stands.getD k 0)
    (0, { w1 with names := w1.names.eraseIdx k, stands := w1.stands.eraseIdx k })
def importP (w : Wd) (client : Int) (name : List UInt8) : (Int × Int × Int) × Wd :=
  if client < 0 ∨ (w.clients.length : Int) ≤ client then ((0, 0, 13), w)
  else match entryP w name with
    | none => ((0, 0, 10), w)
    | some k =>
      let uid := w.stands.getD k 0
      ((uid, ((w.services[(uid - 1).toNat]?).map (·.kind)).getD 0, 0), { w with clients := w.clients.modify client.toNat fun c => { c with bound := c.bound ++ [uid] } })

/- P12: sending -/
def piecesP (s : List UInt8) : Int := (((s.length + 7) / 8 : Nat) : Int)
def pieceP (s : List UInt8) (k : Int) : List UInt8 := (s.drop (8 * k.toNat)).take 8
def sendP (w : Wd) (to : Int) (p : Pk) : Wd := if w.flying.length < 40 then { w with flying := w.flying ++ [⟨to, sealB p, false⟩] } else w
def lineP (w : Wd) (client line : Int) : Ln := ((w.clients[client.toNat]?).bind fun c => c.lines[line.toNat]?).getD ln0
def lifeP (w : Wd) (client : Int) : Int := ((w.clients[client.toNat]?).map (·.life)).getD 0
def setLine (w : Wd) (client line : Int) (l : Ln) : Wd := { w with clients := w.clients.modify client.toNat fun c => { c with lines := c.lines.set line.toNat l } }
def sendPieceP (w : Wd) (client line : Int) (again : Bool) : Wd :=
  let l := lineP w client line
  sendP w (-1) ⟨1, client, lifeP w client, line, l.seq, l.uid, l.acked, piecesP l.message, again || decide (l.acked < piecesP l.message - 1), pieceP l.message l.acked⟩
def probeP (w : Wd) (client line : Int) : Wd :=
  let l := lineP w client line
  sendP w (-1) ⟨3, client, lifeP w client, line, l.seq, l.uid, 0, 1, true, []⟩

/- P6 -/
def txt (l : List UInt8) : ByteArray := ⟨l.toArray⟩
def sigP (kind proc : Int) : Option (ByteArray × ByteArray) :=
  if kind = 0 ∧ proc = 0 then some (txt [105], txt [99])
  else if kind = 0 ∧ proc = 1 then some (txt [98], txt [99])
  else if kind = 1 ∧ proc = 0 then some (txt [115], txt [99])
  else if kind = 1 ∧ proc = 1 then some (txt [99], txt [113, 52, 115])
  else if kind = 2 ∧ proc = 0 then some (txt [114, 40, 101, 51, 113, 51, 105, 41], txt [117, 40, 98, 113, 51, 105, 41])
  else none

/- P11; a value's bytes, or none -/
def bytesP (t : ByteArray) (v : List It) : Option (List UInt8) := if (V.mRes t v).1 = 0 then some (V.mRes t v).2 else none
def callP (w : Wd) (client line uid proc : Int) (arg : List It) : (Int × Int) × Wd :=
  if client < 0 ∨ (w.clients.length : Int) ≤ client then ((0, 13), w)
  else if line < 0 ∨ w.c.lines ≤ line then ((0, 14), w)
  else if ¬ uid ∈ ((w.clients[client.toNat]?).map (·.bound)).getD [] then ((0, 15), w)
  else match sigP (((w.services[(uid - 1).toNat]?).map (·.kind)).getD 0) proc with
    | none => ((0, 16), w)
    | some (from', to) => match bytesP from' arg with
      | none => ((0, 4), w)
      | some bs =>
        let l := lineP w client line
        if l.state = 1 then ((0, 17), w)
        else if l.seq = 999 then ((0, 11), w)
        else ((l.seq + 1, 0), sendPieceP (setLine w client line ⟨l.seq + 1, 1, [], uid, to, two8 proc ++ bs, 0, [], 0, w.c.retry, w.c.tries⟩) client line false)
def statusP (w : Wd) (client line : Int) : Int × Int × List It × Int :=
  if client < 0 ∨ (w.clients.length : Int) ≤ client then (0, 0, [], 13)
  else if line < 0 ∨ w.c.lines ≤ line then (0, 0, [], 14)
  else ((lineP w client line).state, (lineP w client line).seq, (lineP w client line).result, 0)

/- P12, P17: time -/
def tickLine (w : Wd) (client line : Int) : Wd :=
  let l := lineP w client line
  if l.state ≠ 1 then w
  else if 1 < l.wait then setLine w client line { l with wait := l.wait - 1 }
  else if l.tries = 0 then setLine w client line { l with wait := l.wait - 1, state := 3 }
  else
    let w1 := setLine w client line { l with wait := w.c.retry, tries := l.tries - 1 }
    if 8 * l.acked < (l.message.length : Int) then sendPieceP w1 client line true else probeP w1 client line
def seenP (w : Wd) (i : Nat) : Sn := (w.seen[i]?).getD sn0
def setSeen (w : Wd) (i : Nat) (r : Sn) : Wd := { w with seen := w.seen.set i r }
def sendResultP (w : Wd) (i : Nat) : Wd :=
  let r := seenP w i
  sendP w ((i / 3 : Nat) : Int) ⟨5, ((i / 3 : Nat) : Int), (w.lives[i / 3]?).getD 0, ((i % 3 : Nat) : Int), r.seq, r.uid, r.at', piecesP r.result, false, pieceP r.result r.at'⟩
def tickSeen (w : Wd) (i : Nat) : Wd :=
  let r := seenP w i
  if r.timed = false then w
  else if 1 < r.wait then setSeen w i { r with wait := r.wait - 1 }
  else if r.tries = 0 then setSeen w i { r with wait := r.wait - 1, timed := false }
  else sendResultP (setSeen w i { r with wait := w.c.retry, tries := r.tries - 1 }) i
def tickLines (w : Wd) : Wd := (List.range w.clients.length).foldl (fun w (i : Nat) => (List.range w.c.lines.toNat).foldl (fun w (k : Nat) => tickLine w (i : Int) (k : Int)) w) w
def tickP (w : Wd) : Wd := (List.range 9).foldl tickSeen (tickLines w)

/- P13: what flies -/
def off (w : Wd) (i : Int) : Prop := i < 0 ∨ (w.flying.length : Int) ≤ i
instance (w : Wd) (i : Int) : Decidable (off w i) := by unfold off; infer_instance
def showP (w : Wd) (i : Int) : Int × List UInt8 × Int := if off w i then (0, [], 9) else match w.flying[i.toNat]? with
  | none => (0, [], 9)
  | some f => (f.to, f.s, 0)
def dropP (w : Wd) (i : Int) : Int × Wd := if off w i then (9, w) else (0, { w with flying := w.flying.eraseIdx i.toNat })
def copyP (w : Wd) (i : Int) : Int × Wd := if off w i then (9, w) else if 40 ≤ w.flying.length then (12, w) else match w.flying[i.toNat]? with
  | none => (9, w)
  | some f => (0, { w with flying := w.flying ++ [f] })
def bendP (w : Wd) (i at' by' : Int) : Int × Wd := if off w i then (9, w) else match w.flying[i.toNat]? with
  | none => (9, w)
  | some f =>
    if at' < 0 ∨ (f.s.length : Int) ≤ at' ∨ by' < 1 ∨ 255 < by' then (9, w)
    else if f.bent = true then (18, w)
    else (0, { w with flying := w.flying.set i.toNat ⟨f.to, f.s.set at'.toNat ((f.s.getD at'.toNat 0) ^^^ b8 by'), true⟩ })

end Go.Proofs.YtblomippkddgiaaGreatDoor.R
/-
  Items in memory that nobody writes into any more: results, arguments, what lies in drawers.
-/
namespace Go.Proofs.YtblomippkddgiaaGreatDoor
open Go.RowKit

def ItAt (w : World) (F : Foot) (V : Value) (l : List R.It) : Prop := (l = [] ∧ V = .slice none 0 0) ∨ ∃ b off cap cur, l ≠ [] ∧ V = .slice (some ⟨b, off, none⟩) l.length cap ∧ l.length ≤ cap ∧ F b ∧ w.heap[b]? = some (.cells cur 106 (0, 0)) ∧ ∀ j x, l[j]? = some x → cur[off + j * 2]? = some (.int .i64 x.1) ∧ cur[off + j * 2 + 1]? = some (.string x.2)
theorem ItAt.items {w : World} {F : Foot} {V : Value} {l : List R.It} (h : ItAt w F V l) : Go.Proofs.YtblomippkddgiaaGreatDoor.V.Items w V l := by
  rcases h with ⟨rfl, rfl⟩ | ⟨b, off, cap, cur, _, h1, h2, h3, h4, h5⟩
  · exact ⟨none, 0, rfl, Nat.le_refl _, Or.inl rfl⟩
  · refine ⟨_, cap, h1, h2, Or.inr ⟨b, off, rfl, (Array.getElem?_eq_some_iff.1 h4).1, fun j x hx => ?_⟩⟩
    obtain ⟨r1, r2⟩ := h5 j x hx
    exact ⟨by simp [World.cell?, h4, r1], by simp [World.cell?, h4, r2]⟩
theorem ItAt.nil (w : World) (F : Foot) : ItAt w F (.slice none 0 0) [] := Or.inl ⟨rfl, rfl⟩
/- no block of items is turned -/
theorem ItAt.keep {w w' : World} {F E F' : Foot} {V : Value} {l : List R.It} (h : ItAt w F V l) (hk : Keeps E w w') (hE : ∀ b cur, F b → w.heap[b]? = some (.cells cur 106 (0, 0)) → ¬ E b) (hF : ∀ k, F k → F' k) : ItAt w' F' V l := by
  rcases h with h | ⟨b, off, cap, cur, h0, h1, h2, h3, h4, h5⟩
  · exact Or.inl h
  · exact Or.inr ⟨b, off, cap, cur, h0, h1, h2, hF _ h3, hk.at h4 (hE b cur h3 h4), h5⟩
/- a drawer may be empty in any way -/
def DrAt (w : World) (F : Foot) (V : Value) (l : List R.It) : Prop := (l = [] ∧ ∃ a, V = .slice a 0 0) ∨ ItAt w F V l
theorem DrAt.keep {w w' : World} {F E F' : Foot} {V : Value} {l : List R.It} (h : DrAt w F V l) (hk : Keeps E w w') (hE : ∀ b cur, F b → w.heap[b]? = some (.cells cur 106 (0, 0)) → ¬ E b) (hF : ∀ k, F k → F' k) : DrAt w' F' V l := by
  rcases h with h | h
  · exact Or.inl h
  · exact Or.inr (h.keep hk hE hF)
end Go.Proofs.YtblomippkddgiaaGreatDoor
/-
  What every world keeps, and that the calls keep it.
-/
namespace Go.Proofs.YtblomippkddgiaaGreatDoor.R

structure LnOk (l : Ln) : Prop where
  seq : 0 ≤ l.seq ∧ l.seq ≤ 999
  one : l.state = 1 → 1 ≤ l.seq ∧ (1 ≤ l.uid ∧ l.uid ≤ 255) ∧ (1 ≤ l.message.length ∧ l.message.length ≤ 72) ∧ (0 ≤ l.acked ∧ l.acked ≤ piecesP l.message) ∧ (1 ≤ l.wait ∧ l.wait ≤ 8) ∧ (0 ≤ l.tries ∧ l.tries ≤ 6)

structure ClOk (G : Wd) (c : Cl) : Prop where
  lines : (c.lines.length : Int) = G.c.lines
  life : 1 ≤ c.life ∧ c.life ≤ 255
  bound : ∀ u ∈ c.bound, 1 ≤ u ∧ u ≤ (G.services.length : Int)
  line : ∀ (k : Nat) (l : Ln), c.lines[k]? = some l → LnOk l

structure Wf (G : Wd) : Prop where
  cf : okCf G.c
  ncl : (G.clients.length : Int) = G.c.clients
  cl : ∀ (i : Nat) (c : Cl), G.clients[i]? = some c → ClOk G c
  fly : G.flying.length ≤ 40
  flys : ∀ f ∈ G.flying, f.s.length ≤ 21
  sv : G.services.length ≤ 255
  svk : ∀ s ∈ G.services, 0 ≤ s.kind ∧ s.kind ≤ 2
  nm : G.names.length ≤ 6
  st : G.stands.length = G.names.length
  nd : G.names.Nodup
  sts : ∀ u ∈ G.stands, 1 ≤ u ∧ u ≤ (G.services.length : Int)

theorem lineP_some {G : Wd} {i k : Nat} {c : Cl} {l : Ln} (hc : G.clients[i]? = some c) (hl : c.lines[k]? = some l) : lineP G i k = l := by
  simp [lineP, hc, hl]
theorem lifeP_some {G : Wd} {i : Nat} {c : Cl} (hc : G.clients[i]? = some c) : lifeP G i = c.life := by
  simp [lifeP, hc]
theorem setLine_c (G : Wd) (i k : Int) (l : Ln) : (setLine G i k l).c = G.c := rfl
theorem setLine_flying (G : Wd) (i k : Int) (l : Ln) : (setLine G i k l).flying = G.flying := rfl
theorem setLine_services (G : Wd) (i k : Int) (l : Ln) : (setLine G i k l).services = G.services := rfl
theorem setLine_client {G : Wd} {i k : Nat} {l : Ln} {j : Nat} : (setLine G i k l).clients[j]? = (G.clients[j]?).map fun c => if i = j then { c with lines := c.lines.set k l } else c := by
  simp only [setLine, Int.toNat_natCast, List.getElem?_modify]
  by_cases h : i = j
  · simp [h]
  · simp [h]
theorem setLine_lineP {G : Wd} {i k : Nat} {c : Cl} {l l' : Ln} (hc : G.clients[i]? = some c) (hl : c.lines[k]? = some l) : lineP (setLine G i k l') i k = l' := by
  have h1 : (setLine G i k l').clients[i]? = some { c with lines := c.lines.set k l' } := by rw [setLine_client, hc]; simp
  exact lineP_some h1 (by simp [(List.getElem?_eq_some_iff.1 hl).1])
theorem setLine_lifeP {G : Wd} {i k : Nat} {l' : Ln} {j : Nat} : lifeP (setLine G i k l') j = lifeP G j := by
  unfold lifeP
  simp only [Int.toNat_natCast]
  rw [setLine_client]
  cases G.clients[j]? with
  | none => rfl
  | some c => by_cases h : i = j <;> simp [h]

theorem Wf.setLine {G : Wd} (h : Wf G) {i k : Nat} {l' : Ln} (hl : LnOk l') : Wf (setLine G i k l') := by
  refine ⟨h.cf, by simpa [R.setLine] using h.ncl, fun j c hc => ?_, h.fly, h.flys, h.sv, h.svk, h.nm, h.st, h.nd, h.sts⟩
  rw [setLine_client] at hc
  cases hj : G.clients[j]? with
  | none => rw [hj] at hc; cases hc
  | some c0 =>
    rw [hj] at hc
    have h0 := h.cl j c0 hj
    simp only [Option.map_some, Option.some.injEq] at hc
    subst hc
    split
    · refine ⟨by simpa [R.setLine] using h0.lines, h0.life, h0.bound, fun m x hx => ?_⟩
      simp only [List.getElem?_set] at hx
      split at hx
      · split at hx
        · cases hx; exact hl
        · cases hx
      · exact h0.line m x hx
    · exact ⟨h0.lines, h0.life, h0.bound, h0.line⟩

theorem seal_le {p : Pk} (h : RightP p) : (sealB p).length ≤ 21 := by
  have := body_le h
  simp [sealB, headB, nums, two8]
  omega
theorem Wf.sendP {G : Wd} (h : Wf G) {to : Int} {p : Pk} (hr : RightP p) : Wf (sendP G to p) := by
  unfold R.sendP
  split
  · rename_i hl
    refine ⟨h.cf, h.ncl, fun j c hc => ?_, by simp; omega, fun f hf => ?_, h.sv, h.svk, h.nm, h.st, h.nd, h.sts⟩
    · have h0 := h.cl j c hc
      exact ⟨h0.lines, h0.life, h0.bound, h0.line⟩
    · rcases List.mem_append.1 hf with hf | hf
      · exact h.flys f hf
      · simp only [List.mem_singleton] at hf
        subst hf
        exact seal_le hr
  · exact h

/- the pieces of a message -/
theorem pieces_pos {s : List UInt8} (h : 1 ≤ s.length) : 1 ≤ piecesP s := by unfold piecesP; omega
theorem pieces_le {s : List UInt8} (h : s.length ≤ 72) : piecesP s ≤ 9 := by unfold piecesP; omega
theorem piece_length {s : List UInt8} {k : Int} : (pieceP s k).length = min 8 (s.length - 8 * k.toNat) := by simp [pieceP]
theorem piece_body {s : List UInt8} {k : Int} (h0 : 0 ≤ k) : if k < piecesP s - 1 then (pieceP s k).length = 8 else (pieceP s k).length ≤ 8 := by
  rw [piece_length]
  unfold piecesP at *
  split <;> omega
theorem acked_iff {s : List UInt8} {a : Int} : 8 * a < (s.length : Int) ↔ a < piecesP s := by unfold piecesP; omega

/- a line's call, as it is sent -/
def callPk (G : Wd) (i k : Nat) (l : Ln) (again : Bool) : Pk := ⟨1, i, lifeP G i, k, l.seq, l.uid, l.acked, piecesP l.message, again || decide (l.acked < piecesP l.message - 1), pieceP l.message l.acked⟩
def probePk (G : Wd) (i k : Nat) (l : Ln) : Pk := ⟨3, i, lifeP G i, k, l.seq, l.uid, 0, 1, true, []⟩
theorem call_right {G : Wd} (h : Wf G) {i k : Nat} {c : Cl} {l : Ln} (hc : G.clients[i]? = some c) (hl : c.lines[k]? = some l) (h1 : l.state = 1) (ha : l.acked < piecesP l.message) (again : Bool) : RightP (callPk G i k l again) := by
  have hi := (List.getElem?_eq_some_iff.1 hc).1
  have hk := (List.getElem?_eq_some_iff.1 hl).1
  have h0 := h.cl i c hc
  obtain ⟨q1, q2, q3, q4, q5, q6⟩ := (h0.line k l hl).one h1
  have hs := (h0.line k l hl).seq
  have hn := h.ncl
  have hcf := h.cf
  have hln := h0.lines
  have hlf := h0.life
  have hp := pieces_le q3.2
  have hb := piece_body (s := l.message) q4.1
  have e := lifeP_some hc
  unfold okCf at hcf
  refine ⟨by simp [callPk], by simp [callPk]; omega, by simp only [callPk, e]; omega, by simp [callPk]; omega, by simp [callPk]; omega, by simp [callPk]; omega, by simp [callPk]; omega, by simp [callPk]; omega, ?_⟩
  show bodyOk (callPk G i k l again)
  unfold bodyOk
  rw [if_pos (show (callPk G i k l again).kind = 1 ∨ (callPk G i k l again).kind = 5 from Or.inl rfl)]
  exact hb
theorem probe_right {G : Wd} (h : Wf G) {i k : Nat} {c : Cl} {l : Ln} (hc : G.clients[i]? = some c) (hl : c.lines[k]? = some l) (h1 : l.state = 1) : RightP (probePk G i k l) := by
  have hi := (List.getElem?_eq_some_iff.1 hc).1
  have hk := (List.getElem?_eq_some_iff.1 hl).1
  have h0 := h.cl i c hc
  obtain ⟨q1, q2, q3, q4, q5, q6⟩ := (h0.line k l hl).one h1
  have hs := (h0.line k l hl).seq
  have hn := h.ncl
  have hcf := h.cf
  have hln := h0.lines
  have hlf := h0.life
  have e := lifeP_some hc
  unfold okCf at hcf
  refine ⟨by simp [probePk], by simp [probePk]; omega, by simp only [probePk, e]; omega, by simp [probePk]; omega, by simp [probePk]; omega, by simp [probePk]; omega, by simp [probePk], by simp [probePk], ?_⟩
  simp [bodyOk, probePk]
theorem sendPieceP_eq {G : Wd} {i k : Nat} {l : Ln} (hl : lineP G i k = l) (again : Bool) : sendPieceP G i k again = sendP G (-1) (callPk G i k l again) := by
  unfold sendPieceP
  rw [hl]
  rfl
theorem probeP_eq {G : Wd} {i k : Nat} {l : Ln} (hl : lineP G i k = l) : probeP G i k = sendP G (-1) (probePk G i k l) := by
  unfold probeP
  rw [hl]
  rfl
end Go.Proofs.YtblomippkddgiaaGreatDoor.R
/-
  The landed code's reader of bytes: bytes taken, a number of two bytes, a copy of a string.
-/
namespace Go.Proofs.YtblomippkddgiaaGreatDoor.V
open Go.RowKit

abbrev str (l : List UInt8) : ByteArray := ⟨l.toArray⟩
theorem str_size (l : List UInt8) : (str l).size = l.length := by simp [ByteArray.size]
theorem str_extract (l : List UInt8) (a b : Nat) : (str l).extract a b = str ((l.drop a).take (b - a)) := by
  apply ByteArray.ext
  simp [ByteArray.data_extract, List.extract_eq_take_drop]

theorem run_copied (w : World) (l : List UInt8) (M : Array Value) (hM : M.size = l.length) :
    (Builtin.copy_ #[199, 9] 3 #[.slice (some ⟨w.heap.size, 0, none⟩) l.length l.length, .string (str l)]).run Tryz.prog (w.alloc (.cells M 5)) = .ok (goInt l.length) ((w.alloc (.cells M 5)).setRow w.heap.size (u8s l).toArray) := by
  have h := Lib.run_copy_row_string (P := Tryz.prog) (w.alloc (.cells M 5)) 199 9 3 5 w.heap.size 0 l.length l.length (str l) M 5 Tryz.underlying199 (by kernel_rfl) (heap_alloc_new w _) (by rw [str_size]; exact Nat.le_refl _) (by rw [str_size]; omega)
  rw [str_size] at h
  have e : M.toList.drop (0 + l.length) = [] := List.drop_of_length_le (by rw [Array.length_toList]; omega)
  have e2 : M.toList.take 0 ++ Lib.byteCells (str l).data.toList ++ M.toList.drop (0 + l.length) = u8s l := by
    rw [e, List.take_zero, List.nil_append, List.append_nil]
    rfl
  rw [e2] at h
  exact h

theorem below_laid (w : World) (M : Array Value) (Y : Array Value) (n : Nat) : Below w.heap.size w (((w.alloc (.cells M 5)).setRow w.heap.size Y).freeze ⟨w.heap.size, 0, none⟩ n) := by
  refine Lib.below_freeze (p := ⟨w.heap.size, 0, none⟩) ?_ (Nat.le_refl _) _
  exact ((Below.refl w.heap.size w).alloc (Nat.le_refl _) _).trans ⟨rfl, rfl, rfl, by simp [World.setRow], fun k hk => setRow_other _ _ _ _ (by omega)⟩

theorem run_shared (w : World) (l : List UInt8) (M : Array Value) (h0 : l ≠ []) (hl : l.length ≤ 1000) :
    (Builtin.unsafeString_ #[338, 3] 9 #[.pointer (some ⟨w.heap.size, 0, none⟩), .int .i64 l.length]).run Tryz.prog ((w.alloc (.cells M 5)).setRow w.heap.size (u8s l).toArray) = .ok (.string (str l)) (((w.alloc (.cells M 5)).setRow w.heap.size (u8s l).toArray).freeze ⟨w.heap.size, 0, none⟩ l.length) := by
  have hg := setRow_heap (w.alloc (.cells M 5)) w.heap.size M (u8s l).toArray 5 (0, 0) (heap_alloc_new w _)
  have hsz : (u8s l).toArray.size = l.length := by simp [u8s]
  refine Lib.run_unsafeString_row (P := Tryz.prog) _ 338 3 9 5 Tryz.underlying338 (by kernel_rfl) w.heap.size l.length ?_ l h0 (Nat.le_refl _) (by omega) fun j x hx => ?_
  · unfold World.shape?
    rw [hg]
    simp [u8s]
  · refine Lib.cells_of_row hg l.length j _ ?_
    rw [List.toList_toArray, List.take_of_length_le (by simp [u8s])]
    unfold u8s
    rw [List.getElem?_map, hx]
    rfl

set_option maxRecDepth 100000 in
set_option maxHeartbeats 1000000 in
theorem clone_low (l : List UInt8) (w : World) (hl : l.length ≤ 1000) : Calls Tryz.prog 229 #[.string (str l)] w fun e w' => e = .returned (.string (str l)) ∧ Below w.heap.size w w' := by
  have hsz := str_size l
  by_cases h0 : l = []
  · subst h0
    go_enter Tryz.func229, Tryz.ntmps229
    go_wp2
    go_ret
    exact ⟨rfl, Below.refl _ _⟩
  · obtain ⟨i0, hi, hz0, hz1, hz2⟩ := info_parts info5
    have hpos : 0 < l.length := List.length_pos_iff.2 h0
    obtain ⟨M, hM⟩ : ∃ M, M = madeCells (Value.int .u8 0).cells (l.length * 1) := ⟨_, rfl⟩
    have hMs : M.size = l.length := by rw [hM, size_madeCells]; omega
    have hmk : ∀ W : World, (Instr.makeSlice 199 (.int .i64 (l.length : Int)) (.int .i64 (l.length : Int))).run Tryz.prog W = .ok (.slice (some ⟨W.heap.size, 0, none⟩) l.length l.length) (W.alloc (.cells M 5)) := fun W => by
      have h := run_make (P := Tryz.prog) W 199 5 i0 (.int .u8 0) Tryz.underlying199 hi hz0 .i64 .i64 (l.length : Int) (l.length : Int) (by omega) (Int.le_refl _) (by rw [hz2]; omega) (by omega)
      rw [hz1, Int.toNat_natCast, ← hM] at h
      exact h
    have hcp := run_copied w l M hMs
    have hus := run_shared w l M h0 hl
    have HB := hide (below_laid w M (u8s l).toArray l.length)
    have hne : ((l.length : Int) == 0) = false := by simp; omega
    generalize hY : (u8s l).toArray = Y at *
    generalize hS : str l = S at *
    clear hM hY h0 hS
    generalize l.length = n at *
    subst hsz
    go_enter Tryz.func229, Tryz.ntmps229
    go_wp2
    go_ret
    exact ⟨rfl, unhide HB⟩

set_option maxRecDepth 100000 in
set_option maxHeartbeats 400000 in
theorem clone_any (l : List UInt8) (w : World) (hl : l.length ≤ 1000) : Calls Tryz.prog 184 #[.string (str l)] w fun e w' => e = .returned (.string (str l)) ∧ Below w.heap.size w w' := by
  have H := hide (clone_low l w hl)
  generalize hS : str l = S at *
  clear hS
  go_enter Tryz.func184, Tryz.ntmps184
  go_wp2_with fail
  refine (unhide H).mono ?_
  rintro e w1 ⟨rfl, hb⟩
  go_wp2
  go_ret
  exact ⟨rfl, hb⟩

/- the reader lies in block b: what is left of the bytes, the items so far -/
def Rd (w : World) (b : Nat) (l : List UInt8) (O : Value) : Prop := w.heap[b]? = some (.cells #[.string (str l), .int .i64 6, O] 310 (0, 0))
theorem Rd.left {w : World} {b : Nat} {l : List UInt8} {O : Value} (h : Rd w b l O) : w.cell? ⟨b, 0, none⟩ = some (.string (str l)) := by
  unfold Rd at h
  simp [World.cell?, h]
theorem Rd.wrong {w : World} {b : Nat} {l : List UInt8} {O : Value} (h : Rd w b l O) : w.cell? ⟨b, 1, none⟩ = some (.int .i64 6) := by
  unfold Rd at h
  simp [World.cell?, h]
theorem Rd.items {w : World} {b : Nat} {l : List UInt8} {O : Value} (h : Rd w b l O) : w.cell? ⟨b, 2, none⟩ = some O := by
  unfold Rd at h
  simp [World.cell?, h]
theorem Rd.thaw {w : World} {b : Nat} {l : List UInt8} {O : Value} (h : Rd w b l O) (o : Nat) : w.frozen? ⟨b, o, none⟩ = false := by
  unfold Rd at h
  simp [World.frozen?, h]
theorem Rd.lt {w : World} {b : Nat} {l : List UInt8} {O : Value} (h : Rd w b l O) : b < w.heap.size := lt_of_block h
theorem Rd.set0 {w : World} {b : Nat} {l : List UInt8} {O : Value} (h : Rd w b l O) (l' : List UInt8) : Rd (w.setCell ⟨b, 0, none⟩ (.string (str l'))) b l' O := by
  unfold Rd at h ⊢
  simp only [World.setCell, Array.getElem?_modify, h]
  simp
theorem Rd.set1 {w : World} {b : Nat} {l : List UInt8} {O : Value} (h : Rd w b l O) (x : Value) : Rd (w.setCell ⟨b, 2, none⟩ x) b l x := by
  unfold Rd at h ⊢
  simp only [World.setCell, Array.getElem?_modify, h]
  simp
theorem Rd.below {w w' : World} {b : Nat} {l : List UInt8} {O : Value} (h : Rd w b l O) (hb : Below w.heap.size w w') : Rd w' b l O := by
  have hl := h.lt
  unfold Rd at h ⊢
  rw [hb.block b hl]
  exact h

set_option maxRecDepth 100000 in
set_option maxHeartbeats 400000 in
theorem refuse_cell (b : Nat) (w : World) (h1 : w.cell? ⟨b, 1, none⟩ = some (.int .i64 6)) : Calls Tryz.prog 120 #[.pointer (some ⟨b, 0, none⟩)] w fun e w' => e = gaveUp 6 0 ∧ w' = w := by
  go_enter Tryz.func120, Tryz.ntmps120
  go_wp2
  exact ⟨rfl, rfl, rfl⟩
theorem refuse_any (b : Nat) (l : List UInt8) (O : Value) (w : World) (h : Rd w b l O) : Calls Tryz.prog 120 #[.pointer (some ⟨b, 0, none⟩)] w fun e w' => e = gaveUp 6 0 ∧ w' = w := refuse_cell b w h.wrong

set_option maxRecDepth 100000 in
set_option maxHeartbeats 1000000 in
theorem take_ok (b : Nat) (l : List UInt8) (O : Value) (n : Nat) (w : World) (h : Rd w b l O) (hn : n ≤ l.length) (hl : l.length ≤ 1000) :
    Calls Tryz.prog 190 #[.pointer (some ⟨b, 0, none⟩), .int .i64 n] w fun e w' => e = .returned (.string (str (l.take n))) ∧ w' = w.setCell ⟨b, 0, none⟩ (.string (str (l.drop n))) := by
  have h1 := h.left
  have h2 := h.thaw 0
  have hsz := str_size l
  have e1 : (str l).extract 0 n = str (l.take n) := by rw [str_extract]; simp
  have e2 : (str l).extract n (str l).size = str (l.drop n) := by
    rw [str_extract, str_size, List.take_of_length_le (by rw [List.length_drop]; omega)]
  generalize hS : str l = S at *
  generalize hA : str (l.take n) = A at *
  generalize hB : str (l.drop n) = B at *
  clear hS hA hB h
  generalize l.length = m at *
  subst hsz
  have hlt : ¬ ((S.size : Int) < (n : Int)) := by omega
  go_enter Tryz.func190, Tryz.ntmps190
  go_wp2
  go_ret
  exact ⟨rfl, rfl⟩

end Go.Proofs.YtblomippkddgiaaGreatDoor.V
