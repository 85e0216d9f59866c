/-
  Joined: VMarshal RWorld LItem.
-/
import Derived.Test.YtblomippkddgiaaGreatDoorJ21
import Derived.Test.YtblomippkddgiaaGreatDoorJ01
import Derived.Test.YtblomippkddgiaaGreatDoorJ02
/-
  Marshal, the landed code's and the document's: the same bytes, the same error.
-/
namespace Go.Proofs.YtblomippkddgiaaGreatDoor.V
open Go.RowKit

/- a text that is a type -/
structure Good (s : ByteArray) : Prop where
  size : s.size ≤ 40
  ok : Okp s (s.size + 1) 0
  dep : Pt.dep (nx s) (s.size + 1) 0 ≤ 4

theorem good_of {s : ByteArray} (h : (Pt.chk (nx s) s.size).1 = 0) : Good s := by
  unfold Pt.chk at h
  split at h
  · cases h
  · split at h
    · rename_i h1 h2
      split at h
      · cases h
      · split at h
        · cases h
        · exact ⟨by omega, ⟨Nat.zero_le _, by omega, h2⟩, by omega⟩
    · cases h

def ReadPost (s : ByteArray) (w : World) (e : Ending) (w' : World) : Prop :=
  (if (Pt.chk (nx s) s.size).1 = 0 then ∃ c0 c1 c2, e = .returned (.agg #[c0, c1, c2]) ∧ Rep w' (fun k => w.heap.size ≤ k) (nx s) (s.size + 1) 0 c0 c1 c2 else e = gaveUp (Pt.chk (nx s) s.size).1 (Pt.chk (nx s) s.size).2) ∧ Below w.heap.size w w'
theorem shape_any (s : ByteArray) (w : World) : Calls Tryz.prog 78 #[.string s] w (ReadPost s w) := by
  unfold ReadPost
  by_cases hs : s.size ≤ 40
  · have hn : ¬ 40 < s.size := by omega
    cases hT : (Pt.ty (nx s) (s.size + 1) 0).1 with
    | false =>
      have e1 : Pt.chk (nx s) s.size = (2, (Pt.ty (nx s) (s.size + 1) 0).2) := by simp [Pt.chk, hn, hT]
      rw [e1]
      exact read_wrong s w hs hT
    | true =>
      obtain ⟨_, hb, _⟩ := Pt.agree (g := nx s) (n := s.size) (fun p hp => nx_out hp) (s.size + 1) 0 0 1 0 [] (by omega) (by omega)
      obtain ⟨q1, q2⟩ := hb hT
      by_cases hq : (Pt.ty (nx s) (s.size + 1) 0).2 < s.size
      · have e1 : Pt.chk (nx s) s.size = (2, (Pt.ty (nx s) (s.size + 1) 0).2) := by simp [Pt.chk, hn, hT, hq]
        rw [e1]
        exact read_more s w hs hT hq
      · have H := read_end s w hs hT (by omega)
        by_cases h4 : 4 < Pt.dep (nx s) (s.size + 1) 0
        · have e1 : Pt.chk (nx s) s.size = (3, 0) := by simp [Pt.chk, hn, hT, hq, h4]
          rw [e1]
          simp only [h4, if_true] at H
          exact H
        · have e1 : Pt.chk (nx s) s.size = (0, 0) := by simp [Pt.chk, hn, hT, hq, h4]
          rw [e1]
          simp only [h4, if_false] at H
          exact H
  · have e1 : Pt.chk (nx s) s.size = (1, 0) := by
      have : 40 < s.size := by omega
      simp [Pt.chk, this]
    rw [e1]
    exact read_long s w hs

/- Marshal's answer: the error, the bytes -/
def mRes (s : ByteArray) (v : List It) : Nat × List UInt8 := if (Pt.chk (nx s) s.size).1 = 0 then wRes (eat (nx s) (s.size + 1) 0 v) v else ((Pt.chk (nx s) s.size).1, [])
abbrev mEnd (r : Nat × List UInt8) : Ending := .returned (.tuple #[.string ⟨r.2.toArray⟩, .int .i64 r.1])

theorem wRes_no {e : Eaten} {v : List It} (h : ¬ (wRes e v).1 = 0) : (wRes e v).2 = [] := by
  unfold wRes at h ⊢
  split
  · rfl
  · rename_i ks r
    simp only at h ⊢
    split
    · rename_i hr
      split
      · rfl
      · rename_i hb
        rw [if_pos hr, if_neg hb] at h
        exact absurd rfl h
    · rfl

theorem marshal_any (s : ByteArray) (V : Value) (v : List It) (w : World) (hI : Items w V v) (hn : v.length ≤ 9000000000000) :
    Calls Tryz.prog 42 #[.string s, V] w fun e w' => e = mEnd (mRes s v) ∧ Below w.heap.size w w' := by
  have hm : Below w.heap.size w (mface w) := ((Below.refl _ _).alloc (Nat.le_refl _) _).alloc (by simp) _
  have H := shape_any s (mface w)
  unfold ReadPost at H
  by_cases hc : (Pt.chk (nx s) s.size).1 = 0
  · have hg := good_of hc
    simp only [hc, if_true] at H
    have hmr : mRes s v = wRes (eat (nx s) (s.size + 1) 0 v) v := by simp [mRes, hc]
    rw [hmr]
    have H1 : Calls Tryz.prog 78 #[.string s] (mface w) fun e w' => ∃ T, e = .returned T ∧ (∃ c0 c1 c2, T = .agg #[c0, c1, c2] ∧ Rep w' (fun k => (mface w).heap.size ≤ k) (nx s) (s.size + 1) 0 c0 c1 c2) ∧ Below (mface w).heap.size (mface w) w' := by
      refine H.mono ?_
      rintro e w' ⟨⟨c0, c1, c2, rfl, hr⟩, hb⟩
      exact ⟨_, rfl, ⟨c0, c1, c2, rfl, hr⟩, hb⟩
    have H2 : ∀ T w', (∃ c0 c1 c2, T = .agg #[c0, c1, c2] ∧ Rep w' (fun k => (mface w).heap.size ≤ k) (nx s) (s.size + 1) 0 c0 c1 c2) → Below (mface w).heap.size (mface w) w' → Calls Tryz.prog 77 #[T, V] w' fun e w'' => WPost (wRes (eat (nx s) (s.size + 1) 0 v) v) e ∧ Below w'.heap.size w' w'' := by
      rintro T w' ⟨c0, c1, c2, rfl, hr⟩ hb
      exact write_any s _ c0 c1 c2 V v w' hr hg.ok hg.dep ((hI.below hm).below hb) hn
    generalize hres : wRes (eat (nx s) (s.size + 1) 0 v) v = res at *
    have hno : ¬ res.1 = 0 → res.2 = [] := by rw [← hres]; exact wRes_no
    obtain ⟨n, bs⟩ := res
    simp only at hno
    by_cases h0 : n = 0
    · subst h0
      simp only [WPost, if_true] at H2
      exact marshal_good s V w _ _ H1 H2
    · have := hno h0
      subst this
      simp only [WPost, if_neg h0] at H2
      exact marshal_worse s V w n 0 _ H1 H2
  · simp only [hc, if_false] at H
    have hmr : mRes s v = ((Pt.chk (nx s) s.size).1, []) := by simp [mRes, hc]
    rw [hmr]
    exact marshal_bad s V w _ _ H

theorem fits_eq {g : Nat → Nat} {f p : Nat} {v : List It} : (vI 0 (eat g f p v) == (v.length : Int)) = (match eat g f p v with | none => false | some (_, r) => r.isEmpty) := by
  cases he : eat g f p v with
  | none => simp [vI]
  | some a =>
    obtain ⟨ks, r⟩ := a
    obtain ⟨h1, h2⟩ := eat_heads g f p v ks r he
    have hl : r.length = v.length - ks.length := by rw [h1, List.length_drop]
    simp only [vI]
    cases r with
    | nil => simp at hl ⊢; omega
    | cons y r => simp at hl ⊢; omega

theorem kinds_of {ks : List Bool} {v : List It} (h : KindsIn ks v) (hl : ks.length = v.length) : Kinds ks v := ⟨hl, h⟩

set_option maxRecDepth 100000 in
set_option maxHeartbeats 400000 in
theorem ref_walk_bad (s : ByteArray) (V : Value) (w : World) (n q : Nat) (hn : ¬ n = 0) (H : Calls Tryz.prog 147 #[.string s] w fun e w' => e = chkTuple (n, q) ∧ Below w.heap.size w w') :
    Calls Tryz.prog 149 #[.string s, V] w fun e w' => e = mEnd (n, []) ∧ Below w.heap.size w w' := by
  have HH := hide H
  have hnn : ((n : Int) != 0) = true := by simp; omega
  clear H
  go_enter Tryz.func149, Tryz.ntmps149
  go_wp2_with fail
  refine (unhide HH).mono ?_
  rintro e w1 ⟨rfl, hb⟩
  go_wp2
  go_ret2
  exact ⟨rfl, hb⟩

set_option maxRecDepth 100000 in
set_option maxHeartbeats 400000 in
theorem ref_walk_no (s : ByteArray) (V : Value) (w : World) (H : Calls Tryz.prog 147 #[.string s] w fun e w' => e = chkTuple (0, 0) ∧ Below w.heap.size w w')
    (HF : ∀ w1, Below w.heap.size w w1 → Calls Tryz.prog 207 #[.string s, V] w1 fun e w' => e = .returned (.bool false) ∧ Below w1.heap.size w1 w') :
    Calls Tryz.prog 149 #[.string s, V] w fun e w' => e = mEnd (4, []) ∧ Below w.heap.size w w' := by
  have HH := hide H
  have HHF := hide HF
  clear H HF
  go_enter Tryz.func149, Tryz.ntmps149
  go_wp2_with fail
  refine (unhide HH).mono ?_
  rintro e w1 ⟨rfl, hb⟩
  have HG := hide ((unhide HHF) w1 hb)
  go_wp2_with fail
  refine (unhide HG).mono ?_
  rintro e w2 ⟨rfl, hb2⟩
  go_wp2
  go_ret2
  exact ⟨rfl, hb.trans (hb2.mono hb.size)⟩

set_option maxRecDepth 100000 in
set_option maxHeartbeats 400000 in
theorem ref_walk_yes (s : ByteArray) (V : Value) (w : World) (out : List UInt8) (hol : out.length ≤ 1000000) (H : Calls Tryz.prog 147 #[.string s] w fun e w' => e = chkTuple (0, 0) ∧ Below w.heap.size w w')
    (HF : ∀ w1, Below w.heap.size w w1 → Calls Tryz.prog 207 #[.string s, V] w1 fun e w' => e = .returned (.bool true) ∧ Below w1.heap.size w1 w')
    (HB : ∀ w1, Below w.heap.size w w1 → Calls Tryz.prog 208 #[.string s, V] w1 fun e w' => e = .returned (.string ⟨out.toArray⟩) ∧ Below w1.heap.size w1 w') :
    Calls Tryz.prog 149 #[.string s, V] w fun e w' => e = mEnd (if 70 < out.length then (5, []) else (0, out)) ∧ Below w.heap.size w w' := by
  have HH := hide H
  have HHF := hide HF
  have HHB := hide HB
  obtain ⟨S, hS⟩ : ∃ S : ByteArray, S = ⟨out.toArray⟩ := ⟨_, rfl⟩
  have hsz : S.size = out.length := by rw [hS]; simp [ByteArray.size]
  rw [← hS] at HHB
  have HS := hide hS
  clear H HF HB hS
  by_cases hb : 70 < out.length
  · rw [if_pos hb]
    have hb' : (70 : Int) < (S.size : Int) := by omega
    go_enter Tryz.func149, Tryz.ntmps149
    go_wp2_with fail
    refine (unhide HH).mono ?_
    rintro e w1 ⟨rfl, hb1⟩
    have HG := hide ((unhide HHF) w1 hb1)
    go_wp2_with fail
    refine (unhide HG).mono ?_
    rintro e w2 ⟨rfl, hb2⟩
    have hb3 := hb1.trans (hb2.mono hb1.size)
    have HG2 := hide ((unhide HHB) w2 hb3)
    go_wp2_with fail
    refine (unhide HG2).mono ?_
    rintro e w3 ⟨rfl, hb4⟩
    go_wp2
    go_ret2
    exact ⟨rfl, hb3.trans (hb4.mono hb3.size)⟩
  · rw [if_neg hb]
    have hb' : ¬ (70 : Int) < (S.size : Int) := by omega
    go_enter Tryz.func149, Tryz.ntmps149
    go_wp2_with fail
    refine (unhide HH).mono ?_
    rintro e w1 ⟨rfl, hb1⟩
    have HG := hide ((unhide HHF) w1 hb1)
    go_wp2_with fail
    refine (unhide HG).mono ?_
    rintro e w2 ⟨rfl, hb2⟩
    have hb3 := hb1.trans (hb2.mono hb1.size)
    have HG2 := hide ((unhide HHB) w2 hb3)
    go_wp2_with fail
    refine (unhide HG2).mono ?_
    rintro e w3 ⟨rfl, hb4⟩
    go_wp2
    go_ret2
    refine ⟨?_, hb3.trans (hb4.mono hb3.size)⟩
    rw [unhide HS]
    rfl

theorem refMarshal_any (s : ByteArray) (V : Value) (v : List It) (w : World) (hI : Items w V v) (hn : v.length ≤ 9000000000000) :
    Calls Tryz.prog 149 #[.string s, V] w fun e w' => e = mEnd (mRes s v) ∧ Below w.heap.size w w' := by
  have H := ref_any s w
  by_cases hc : (Pt.chk (nx s) s.size).1 = 0
  · have hg := good_of hc
    have hc2 : Pt.chk (nx s) s.size = (0, 0) := by
      unfold Pt.chk at hc ⊢
      split at hc
      · cases hc
      · rename_i h1
        rw [if_neg h1]
        split at hc
        · rename_i h2
          rw [if_pos h2]
          split at hc
          · cases hc
          · rename_i h3
            rw [if_neg h3]
            split at hc
            · cases hc
            · rename_i h4
              rw [if_neg h4]
        · cases hc
    rw [hc2] at H
    have hmr : mRes s v = wRes (eat (nx s) (s.size + 1) 0 v) v := by simp [mRes, hc]
    rw [hmr]
    obtain ⟨a, cap, hV, _, _⟩ := id hI
    have HF : ∀ w1, Below w.heap.size w w1 → Calls Tryz.prog 207 #[.string s, V] w1 fun e w' => e = .returned (.bool (vI 0 (eat (nx s) (s.size + 1) 0 v) == (v.length : Int))) ∧ Below w1.heap.size w1 w' := by
      intro w1 hb
      have hv := value_any s V v hg.size hn (s.size + 1) 0 0 w1 hg.ok (Nat.zero_le _) (hI.below hb)
      exact fits_any s V a cap v w1 hV _ hv
    rw [fits_eq] at HF
    cases he : eat (nx s) (s.size + 1) 0 v with
    | none =>
      simp only [he] at HF
      exact ref_walk_no s V w H HF
    | some x =>
      obtain ⟨ks, r⟩ := x
      simp only [he] at HF
      cases r with
      | cons y r => exact ref_walk_no s V w H HF
      | nil =>
        obtain ⟨h1, h2⟩ := eat_heads _ _ _ _ _ _ he
        obtain ⟨s1, s2⟩ := eat_small s _ _ hg.ok _ _ _ he
        have hl : ks.length = v.length := by
          have := congrArg List.length h1
          rw [List.length_drop] at this
          simp at this
          omega
        have hM : 10 ^ Pt.dep (nx s) (s.size + 1) 0 ≤ 10 ^ 4 := Nat.pow_le_pow_right (by decide) hg.dep
        have hK := kinds_of s2 hl
        have hbl := bytesOf_le hK v.length (Nat.le_refl _)
        rw [List.take_of_length_le (by omega), List.take_of_length_le (by omega)] at hbl
        refine (ref_walk_yes s V w (bytesOf ks v) (by omega) H HF fun w1 hb => ?_).mono ?_
        · have ht := texts_any s V v w1 hg.size hn (hI.below hb) (s.size + 1) 0 (.slice none 0 0) [] ks [] w1 hg.ok ⟨World.ownsRow_nil _ _ _ _, Below.refl _ _⟩ he
          exact bytes_any s V v ks w1 (hI.below hb) (by omega) hK ht
        · rintro e w' ⟨rfl, hb⟩
          exact ⟨rfl, hb⟩
  · have hmr : mRes s v = ((Pt.chk (nx s) s.size).1, []) := by simp [mRes, hc]
    rw [hmr]
    exact ref_walk_bad s V w _ _ hc H

end Go.Proofs.YtblomippkddgiaaGreatDoor.V
/-
  A world as the document's answer keeps it, with no program in sight: its names, its services, what flies, its clients and their lines, what the server remembers, its jobs; and each call on it.
-/
namespace Go.Proofs.YtblomippkddgiaaGreatDoor.R

abbrev It := Int × ByteArray
structure Cf where
  clients : Int
  lines : Int
  retry : Int
  tries : Int
  table : Int
structure En where
  client : Int
  life : Int
  line : Int
  seq : Int
  proc : Int
  arg : List It
  result : List It
structure Fl where
  to : Int
  s : List UInt8
  bent : Bool
structure Sv where
  kind : Int
  alive : Bool
  log : List En
structure Ln where
  seq : Int
  state : Int
  result : List It
  uid : Int
  to : ByteArray
  message : List UInt8
  acked : Int
  came : List UInt8
  pieces : Int
  wait : Int
  tries : Int
structure Cl where
  life : Int
  bound : List Int
  lines : List Ln
structure Sn where
  seq : Int
  uid : Int
  message : List UInt8
  pieces : Int
  state : Int
  result : List UInt8
  at' : Int
  timed : Bool
  wait : Int
  tries : Int
structure Jb where
  client : Int
  line : Int
  life : Int
  seq : Int
  uid : Int
structure Wd where
  c : Cf
  names : List (List UInt8)
  stands : List Int
  services : List Sv
  flying : List Fl
  clients : List Cl
  lives : List Int
  seen : List Sn
  jobs : List Jb

def ln0 : Ln := ⟨0, 0, [], 0, ⟨#[]⟩, [], 0, [], 0, 0, 0⟩
def sn0 : Sn := ⟨0, 0, [], 0, 0, [], 0, false, 0, 0⟩
def cl0 (life : Int) (lines : Int) : Cl := ⟨life, [], List.replicate lines.toNat ln0⟩

/- P9 -/
def okCf (c : Cf) : Prop := (1 ≤ c.clients ∧ c.clients ≤ 3) ∧ (1 ≤ c.lines ∧ c.lines ≤ 3) ∧ (1 ≤ c.retry ∧ c.retry ≤ 8) ∧ (1 ≤ c.tries ∧ c.tries ≤ 6) ∧ (1 ≤ c.table ∧ c.table ≤ 9)
instance (c : Cf) : Decidable (okCf c) := by unfold okCf; infer_instance
def newP (c : Cf) : Option Wd := if okCf c then some ⟨c, [], [], [], [], List.replicate c.clients.toNat (cl0 1 c.lines), [0, 0, 0], List.replicate 9 sn0, []⟩ else none

/- P10 -/
def namedP (s : List UInt8) : Bool := decide (1 ≤ s.length) && decide (s.length ≤ 8) && s.all fun b => decide (97 ≤ b.toNat) && decide (b.toNat ≤ 122)
def entryP (w : Wd) (name : List UInt8) : Option Nat := w.names.findIdx? (· == name)
def endP (w : Wd) (uid : Int) : Wd :=
  { w with
    services := w.services.modify (uid - 1).toNat fun s => { s with alive := false }
    seen := w.seen.map fun r => if r.uid = uid ∧ r.state < 3 then { r with state := 4 } else r }
/- the answers: the number, the error (the document's numbers) -/
def exportP (w : Wd) (name : List UInt8) (kind : Int) : (Int × Int) × Wd :=
  if namedP name = false then ((0, 10), w)
  else if kind < 0 ∨ 2 < kind then ((0, 9), w)
  else match entryP w name with
    | none =>
      if w.names.length = 6 then ((0, 12), w)
      else if w.services.length = 255 then ((0, 11), w)
      else (((w.services.length : Int) + 1, 0), { w with names := w.names ++ [name], stands := w.stands ++ [(w.services.length : Int) + 1], services := w.services ++ [⟨kind, true, []⟩] })
    | some k =>
      if w.services.length = 255 then ((0, 11), w)
      else
        let w1 := endP w (w.stands.getD k 0)
        (((w.services.length : Int) + 1, 0), { w1 with stands := w1.stands.set k ((w.services.length : Int) + 1), services := w1.services ++ [⟨kind, true, []⟩] })
def withdrawP (w : Wd) (name : List UInt8) : Int × Wd := match entryP w name with
  | none => (10, w)
  | some k =>
    let w1 := endP w (w.stands.getD k 0)
    (0, { w1 with names := w1.names.eraseIdx k, stands := w1.stands.eraseIdx k })
def importP (w : Wd) (client : Int) (name : List UInt8) : (Int × Int × Int) × Wd :=
  if client < 0 ∨ (w.clients.length : Int) ≤ client then ((0, 0, 13), w)
  else match entryP w name with
    | none => ((0, 0, 10), w)
    | some k =>
      let uid := w.stands.getD k 0
      ((uid, ((w.services[(uid - 1).toNat]?).map (·.kind)).getD 0, 0), { w with clients := w.clients.modify client.toNat fun c => { c with bound := c.bound ++ [uid] } })

/- P12: sending -/
def piecesP (s : List UInt8) : Int := (((s.length + 7) / 8 : Nat) : Int)
def pieceP (s : List UInt8) (k : Int) : List UInt8 := (s.drop (8 * k.toNat)).take 8
def sendP (w : Wd) (to : Int) (p : Pk) : Wd := if w.flying.length < 40 then { w with flying := w.flying ++ [⟨to, sealB p, false⟩] } else w
def lineP (w : Wd) (client line : Int) : Ln := ((w.clients[client.toNat]?).bind fun c => c.lines[line.toNat]?).getD ln0
def lifeP (w : Wd) (client : Int) : Int := ((w.clients[client.toNat]?).map (·.life)).getD 0
def setLine (w : Wd) (client line : Int) (l : Ln) : Wd := { w with clients := w.clients.modify client.toNat fun c => { c with lines := c.lines.set line.toNat l } }
def sendPieceP (w : Wd) (client line : Int) (again : Bool) : Wd :=
  let l := lineP w client line
  sendP w (-1) ⟨1, client, lifeP w client, line, l.seq, l.uid, l.acked, piecesP l.message, again || decide (l.acked < piecesP l.message - 1), pieceP l.message l.acked⟩
def probeP (w : Wd) (client line : Int) : Wd :=
  let l := lineP w client line
  sendP w (-1) ⟨3, client, lifeP w client, line, l.seq, l.uid, 0, 1, true, []⟩

/- P6 -/
def txt (l : List UInt8) : ByteArray := ⟨l.toArray⟩
def sigP (kind proc : Int) : Option (ByteArray × ByteArray) :=
  if kind = 0 ∧ proc = 0 then some (txt [105], txt [99])
  else if kind = 0 ∧ proc = 1 then some (txt [98], txt [99])
  else if kind = 1 ∧ proc = 0 then some (txt [115], txt [99])
  else if kind = 1 ∧ proc = 1 then some (txt [99], txt [113, 52, 115])
  else if kind = 2 ∧ proc = 0 then some (txt [114, 40, 101, 51, 113, 51, 105, 41], txt [117, 40, 98, 113, 51, 105, 41])
  else none

/- P11; a value's bytes, or none -/
def bytesP (t : ByteArray) (v : List It) : Option (List UInt8) := if (V.mRes t v).1 = 0 then some (V.mRes t v).2 else none
def callP (w : Wd) (client line uid proc : Int) (arg : List It) : (Int × Int) × Wd :=
  if client < 0 ∨ (w.clients.length : Int) ≤ client then ((0, 13), w)
  else if line < 0 ∨ w.c.lines ≤ line then ((0, 14), w)
  else if ¬ uid ∈ ((w.clients[client.toNat]?).map (·.bound)).getD [] then ((0, 15), w)
  else match sigP (((w.services[(uid - 1).toNat]?).map (·.kind)).getD 0) proc with
    | none => ((0, 16), w)
    | some (from', to) => match bytesP from' arg with
      | none => ((0, 4), w)
      | some bs =>
        let l := lineP w client line
        if l.state = 1 then ((0, 17), w)
        else if l.seq = 999 then ((0, 11), w)
        else ((l.seq + 1, 0), sendPieceP (setLine w client line ⟨l.seq + 1, 1, [], uid, to, two8 proc ++ bs, 0, [], 0, w.c.retry, w.c.tries⟩) client line false)
def statusP (w : Wd) (client line : Int) : Int × Int × List It × Int :=
  if client < 0 ∨ (w.clients.length : Int) ≤ client then (0, 0, [], 13)
  else if line < 0 ∨ w.c.lines ≤ line then (0, 0, [], 14)
  else ((lineP w client line).state, (lineP w client line).seq, (lineP w client line).result, 0)

/- P12, P17: time -/
def tickLine (w : Wd) (client line : Int) : Wd :=
  let l := lineP w client line
  if l.state ≠ 1 then w
  else if 1 < l.wait then setLine w client line { l with wait := l.wait - 1 }
  else if l.tries = 0 then setLine w client line { l with wait := l.wait - 1, state := 3 }
  else
    let w1 := setLine w client line { l with wait := w.c.retry, tries := l.tries - 1 }
    if 8 * l.acked < (l.message.length : Int) then sendPieceP w1 client line true else probeP w1 client line
def seenP (w : Wd) (i : Nat) : Sn := (w.seen[i]?).getD sn0
def setSeen (w : Wd) (i : Nat) (r : Sn) : Wd := { w with seen := w.seen.set i r }
def sendResultP (w : Wd) (i : Nat) : Wd :=
  let r := seenP w i
  sendP w ((i / 3 : Nat) : Int) ⟨5, ((i / 3 : Nat) : Int), (w.lives[i / 3]?).getD 0, ((i % 3 : Nat) : Int), r.seq, r.uid, r.at', piecesP r.result, false, pieceP r.result r.at'⟩
def tickSeen (w : Wd) (i : Nat) : Wd :=
  let r := seenP w i
  if r.timed = false then w
  else if 1 < r.wait then setSeen w i { r with wait := r.wait - 1 }
  else if r.tries = 0 then setSeen w i { r with wait := r.wait - 1, timed := false }
  else sendResultP (setSeen w i { r with wait := w.c.retry, tries := r.tries - 1 }) i
def tickLines (w : Wd) : Wd := (List.range w.clients.length).foldl (fun w (i : Nat) => (List.range w.c.lines.toNat).foldl (fun w (k : Nat) => tickLine w (i : Int) (k : Int)) w) w
def tickP (w : Wd) : Wd := (List.range 9).foldl tickSeen (tickLines w)

/- P13: what flies -/
def off (w : Wd) (i : Int) : Prop := i < 0 ∨ (w.flying.length : Int) ≤ i
instance (w : Wd) (i : Int) : Decidable (off w i) := by unfold off; infer_instance
def showP (w : Wd) (i : Int) : Int × List UInt8 × Int := if off w i then (0, [], 9) else match w.flying[i.toNat]? with
  | none => (0, [], 9)
  | some f => (f.to, f.s, 0)
def dropP (w : Wd) (i : Int) : Int × Wd := if off w i then (9, w) else (0, { w with flying := w.flying.eraseIdx i.toNat })
def copyP (w : Wd) (i : Int) : Int × Wd := if off w i then (9, w) else if 40 ≤ w.flying.length then (12, w) else match w.flying[i.toNat]? with
  | none => (9, w)
  | some f => (0, { w with flying := w.flying ++ [f] })
def bendP (w : Wd) (i at' by' : Int) : Int × Wd := if off w i then (9, w) else match w.flying[i.toNat]? with
  | none => (9, w)
  | some f =>
    if at' < 0 ∨ (f.s.length : Int) ≤ at' ∨ by' < 1 ∨ 255 < by' then (9, w)
    else if f.bent = true then (18, w)
    else (0, { w with flying := w.flying.set i.toNat ⟨f.to, f.s.set at'.toNat ((f.s.getD at'.toNat 0) ^^^ b8 by'), true⟩ })

end Go.Proofs.YtblomippkddgiaaGreatDoor.R
/-
  Items in memory that nobody writes into any more: results, arguments, what lies in drawers.
-/
namespace Go.Proofs.YtblomippkddgiaaGreatDoor
open Go.RowKit

def ItAt (w : World) (F : Foot) (V : Value) (l : List R.It) : Prop := (l = [] ∧ V = .slice none 0 0) ∨ ∃ b off cap cur, l ≠ [] ∧ V = .slice (some ⟨b, off, none⟩) l.length cap ∧ l.length ≤ cap ∧ F b ∧ w.heap[b]? = some (.cells cur 106 (0, 0)) ∧ ∀ j x, l[j]? = some x → cur[off + j * 2]? = some (.int .i64 x.1) ∧ cur[off + j * 2 + 1]? = some (.string x.2)
theorem ItAt.items {w : World} {F : Foot} {V : Value} {l : List R.It} (h : ItAt w F V l) : Go.Proofs.YtblomippkddgiaaGreatDoor.V.Items w V l := by
  rcases h with ⟨rfl, rfl⟩ | ⟨b, off, cap, cur, _, h1, h2, h3, h4, h5⟩
  · exact ⟨none, 0, rfl, Nat.le_refl _, Or.inl rfl⟩
  · refine ⟨_, cap, h1, h2, Or.inr ⟨b, off, rfl, (Array.getElem?_eq_some_iff.1 h4).1, fun j x hx => ?_⟩⟩
    obtain ⟨r1, r2⟩ := h5 j x hx
    exact ⟨by simp [World.cell?, h4, r1], by simp [World.cell?, h4, r2]⟩
theorem ItAt.nil (w : World) (F : Foot) : ItAt w F (.slice none 0 0) [] := Or.inl ⟨rfl, rfl⟩
/- no block of items is turned -/
theorem ItAt.keep {w w' : World} {F E F' : Foot} {V : Value} {l : List R.It} (h : ItAt w F V l) (hk : Keeps E w w') (hE : ∀ b cur, F b → w.heap[b]? = some (.cells cur 106 (0, 0)) → ¬ E b) (hF : ∀ k, F k → F' k) : ItAt w' F' V l := by
  rcases h with h | ⟨b, off, cap, cur, h0, h1, h2, h3, h4, h5⟩
  · exact Or.inl h
  · exact Or.inr ⟨b, off, cap, cur, h0, h1, h2, hF _ h3, hk.at h4 (hE b cur h3 h4), h5⟩
/- a drawer may be empty in any way -/
def DrAt (w : World) (F : Foot) (V : Value) (l : List R.It) : Prop := (l = [] ∧ ∃ a, V = .slice a 0 0) ∨ ItAt w F V l
theorem DrAt.keep {w w' : World} {F E F' : Foot} {V : Value} {l : List R.It} (h : DrAt w F V l) (hk : Keeps E w w') (hE : ∀ b cur, F b → w.heap[b]? = some (.cells cur 106 (0, 0)) → ¬ E b) (hF : ∀ k, F k → F' k) : DrAt w' F' V l := by
  rcases h with h | h
  · exact Or.inl h
  · exact Or.inr (h.keep hk hE hF)
end Go.Proofs.YtblomippkddgiaaGreatDoor
