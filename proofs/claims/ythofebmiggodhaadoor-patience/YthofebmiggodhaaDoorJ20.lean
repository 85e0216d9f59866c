/-
  Joined: Wire2 Fields.
-/
import Derived.Test.YthofebmiggodhaaDoorJ02
/-
  The landed code's reader of a packet: its fields.
-/
namespace Go.Proofs.YthofebmiggodhaaDoor
open Go.RowKit

theorem or_two (a c : Nat) (ha : a < 256) (hc : c < 256) : bits .or .i64 ((a : Int) * 256) (c : Int) = (a : Int) * 256 + (c : Int) := by
  have e : a * 256 ||| c = a * 256 + c := by
    have h := Nat.two_pow_add_eq_or_of_lt (i := 8) (b := c) (by omega) a
    rw [show 2 ^ 8 * a = a * 256 by omega] at h
    exact h.symm
  have e0 : (a : Int) * 256 = ((a * 256 : Nat) : Int) := by omega
  rw [e0]
  have n1 : (BitVec.ofInt 64 ((a * 256 : Nat) : Int)).toNat = a * 256 := by
    rw [BitVec.ofInt_natCast, BitVec.toNat_ofNat]
    omega
  have n2 : (BitVec.ofInt 64 (c : Int)).toNat = c := by
    rw [BitVec.ofInt_natCast, BitVec.toNat_ofNat]
    omega
  show IntKind.i64.wrap ((BitVec.ofInt 64 ((a * 256 : Nat) : Int) ||| BitVec.ofInt 64 (c : Int)).toNat : Int) = _
  rw [BitVec.toNat_or, n1, n2, e, IntKind.wrap_i64]
  omega

def twoP (b : Nat) (l : List UInt8) (w : World) (e : Ending) (w' : World) : Prop := Only b w w' ∧ ((l.length < 2 ∧ e = gaveUp 7 0) ∨ ∃ a c r, l = a :: c :: r ∧ e = .returned (.int .i64 (num2 a c)) ∧ Rd w' b r)
set_option maxRecDepth 100000 in
set_option maxHeartbeats 1000000 in
theorem two_any (b : Nat) (l : List UInt8) (w : World) (h : Rd w b l) (hl : l.length ≤ 9223372036854775807) : Calls Tryd.prog 59 #[.pointer (some ⟨b, 0, none⟩)] w (twoP b l w) := by
  have H1 := hide (byte_any b l w h hl)
  have H2 := hide (fun (r : List UInt8) (w : World) (h : Rd w b r) (hl : r.length ≤ 9223372036854775807) => byte_any b r w h hl)
  clear h
  go_enter Tryd.func59, Tryd.ntmps59
  go_wp2_with fail
  refine (unhide H1).mono ?_
  rintro e w1 ⟨hk1, ⟨rfl, rfl⟩ | ⟨a, r, rfl, rfl, hr1⟩⟩
  · go_wp2
    exact ⟨rfl, hk1, Or.inl ⟨by simp, rfl⟩⟩
  · have H3 := hide ((unhide H2) r w1 hr1 (by simp at hl; omega))
    clear H2 hr1
    have ha := a.toNat_lt
    have hw : wrap64 ((a.toNat : Int) * 256) = (a.toNat : Int) * 256 := by unfold wrap64; omega
    go_wp2_with fail
    refine (unhide H3).mono ?_
    rintro e w2 ⟨hk2, ⟨rfl, rfl⟩ | ⟨c, r, rfl, rfl, hr2⟩⟩
    · go_wp2
      exact ⟨rfl, hk1.trans hk2, Or.inl ⟨by simp, rfl⟩⟩
    · have hc := c.toNat_lt
      have ho := or_two a.toNat c.toNat (by omega) (by omega)
      have HR := hide hr2
      clear hr2
      go_wp2
      go_ret
      exact ⟨hk1.trans hk2, Or.inr ⟨a, c, r, rfl, rfl, unhide HR⟩⟩

/- End: nothing may be left -/
set_option maxRecDepth 100000 in
set_option maxHeartbeats 1000000 in
theorem end_any (b : Nat) (l : List UInt8) (w : World) (h : Rd w b l) (hl : l.length ≤ 9223372036854775807) : Calls Tryd.prog 46 #[.pointer (some ⟨b, 0, none⟩)] w fun e w' => w' = w ∧ e = if l = [] then .returned (.tuple #[]) else gaveUp 7 0 := by
  have H := hide (refuse_any b l w h)
  have h1 := h.left
  have hsz := str_size l
  by_cases h0 : l = []
  · subst h0
    clear h
    go_enter Tryd.func46, Tryd.ntmps46
    go_wp2
    go_end0
    exact ⟨rfl, rfl⟩
  · have hp := List.length_pos_iff.2 h0
    rw [if_neg h0]
    have hgt : (0 : Int) < ((str l).size : Int) := by omega
    generalize str l = S at *
    clear h h0
    go_enter Tryd.func46, Tryd.ntmps46
    go_wp2_with fail
    refine (unhide H).mono ?_
    rintro e w1 ⟨rfl, rfl⟩
    go_wp2
    exact ⟨rfl, rfl, rfl⟩

/- Please: a byte 0 or 1 -/
def flagP (b : Nat) (l : List UInt8) (w : World) (e : Ending) (w' : World) : Prop := Only b w w' ∧ (((∀ f r, l = f :: r → ¬ f.toNat ≤ 1) ∧ e = gaveUp 7 0) ∨ ∃ f r, l = f :: r ∧ f.toNat ≤ 1 ∧ e = .returned (.bool ((f.toNat : Int) == 1)) ∧ Rd w' b r)
set_option maxRecDepth 100000 in
set_option maxHeartbeats 1000000 in
theorem flag_any (b : Nat) (l : List UInt8) (w : World) (h : Rd w b l) (hl : l.length ≤ 9223372036854775807) : Calls Tryd.prog 60 #[.pointer (some ⟨b, 0, none⟩)] w (flagP b l w) := by
  have H1 := hide (byte_any b l w h hl)
  have H2 := hide (fun (r : List UInt8) (w : World) (h : Rd w b r) => refuse_any b r w h)
  clear h
  go_enter Tryd.func60, Tryd.ntmps60
  go_wp2_with fail
  refine (unhide H1).mono ?_
  rintro e w1 ⟨hk1, ⟨rfl, rfl⟩ | ⟨a, r, rfl, rfl, hr1⟩⟩
  · go_wp2
    exact ⟨rfl, hk1, Or.inl ⟨fun f r h => (by cases h), rfl⟩⟩
  · by_cases h1 : (1 : Int) < (a.toNat : Int)
    · have H3 := hide ((unhide H2) r w1 hr1)
      clear H2 hr1
      go_wp2_with fail
      refine (unhide H3).mono ?_
      rintro e w2 ⟨rfl, rfl⟩
      go_wp2
      refine ⟨rfl, hk1, Or.inl ⟨fun f r h => ?_, rfl⟩⟩
      cases h
      omega
    · have HR := hide hr1
      clear hr1 H2
      go_wp2
      go_ret
      exact ⟨hk1, Or.inr ⟨a, r, rfl, by omega, rfl, unhide HR⟩⟩

/- the length, and as many bytes -/
def bodyP (b : Nat) (l : List UInt8) (w : World) (e : Ending) (w' : World) : Prop := Only b w w' ∧ (((∀ L r, l = L :: r → ¬ L.toNat ≤ r.length) ∧ e = gaveUp 7 0) ∨ ∃ L r, l = L :: r ∧ L.toNat ≤ r.length ∧ e = .returned (.string (str (r.take L.toNat))) ∧ Rd w' b (r.drop L.toNat))
set_option maxRecDepth 100000 in
set_option maxHeartbeats 1000000 in
theorem body_any (b : Nat) (l : List UInt8) (w : World) (h : Rd w b l) (hl : l.length ≤ 9223372036854775807) : Calls Tryd.prog 61 #[.pointer (some ⟨b, 0, none⟩)] w (bodyP b l w) := by
  have H1 := hide (byte_any b l w h hl)
  clear h
  go_enter Tryd.func61, Tryd.ntmps61
  go_wp2_with fail
  refine (unhide H1).mono ?_
  rintro e w1 ⟨hk1, ⟨rfl, rfl⟩ | ⟨L, r, rfl, rfl, hr1⟩⟩
  · go_wp2
    exact ⟨rfl, hk1, Or.inl ⟨fun f r h => (by cases h), rfl⟩⟩
  · have hL := L.toNat_lt
    have hrl : r.length ≤ 9223372036854775807 := by simp at hl; omega
    by_cases h1 : L.toNat ≤ r.length
    · have H2 := hide (take_ok b r L.toNat w1 hr1 h1 hrl)
      have hset := hr1.set (r.drop L.toNat)
      have H3 := hide (clone_any (r.take L.toNat) (w1.setCell ⟨b, 0, none⟩ (.string (str (r.drop L.toNat)))) (by rw [List.length_take]; omega))
      have HO := hide (Only.set b 0 w1 (.string (str (r.drop L.toNat))))
      have HS := hide hset
      have hsl := hset.lt
      clear hset hr1
      generalize hA : str (r.take L.toNat) = A at *
      generalize hB : w1.setCell ⟨b, 0, none⟩ (.string (str (r.drop L.toNat))) = W at *
      go_wp2_with fail
      refine (unhide H2).mono ?_
      rintro e w2 ⟨rfl, rfl⟩
      go_wp2_with fail
      refine (unhide H3).mono ?_
      rintro e w3 ⟨rfl, hb3⟩
      go_wp2
      go_ret
      refine ⟨(hk1.trans (unhide HO)).trans (Only.of_below hb3 (by omega)), Or.inr ⟨L, r, rfl, h1, by rw [hA]; rfl, (unhide HS).below hb3 hsl⟩⟩
    · have H2 := hide (take_no b r L.toNat w1 hr1 h1)
      clear hr1
      go_wp2_with fail
      refine (unhide H2).mono ?_
      rintro e w2 ⟨rfl, rfl⟩
      go_wp2
      refine ⟨rfl, hk1, Or.inl ⟨fun f r h => ?_, rfl⟩⟩
      cases h
      exact h1

end Go.Proofs.YthofebmiggodhaaDoor
/-
  The landed code's reader of a packet: all its fields, in their order.
-/
namespace Go.Proofs.YthofebmiggodhaaDoor
open Go.RowKit

abbrev pv (p : Pk) : Value := .agg #[.int .i64 p.kind, .int .i64 p.client, .int .i64 p.life, .int .i64 p.line, .int .i64 p.seq, .int .i64 p.uid, .int .i64 p.part, .int .i64 p.off, .bool p.please, .string (str p.body)]
abbrev zeroP : Value := .agg #[.int .i64 0, .int .i64 0, .int .i64 0, .int .i64 0, .int .i64 0, .int .i64 0, .int .i64 0, .int .i64 0, .bool false, .string ⟨#[]⟩]
abbrev zeroCells : Array Value := #[.int .i64 0, .int .i64 0, .int .i64 0, .int .i64 0, .int .i64 0, .int .i64 0, .int .i64 0, .int .i64 0, .bool false, .string ⟨#[]⟩]

/- the reader's state: b lies in W, l is left; of w nothing has turned but b -/
structure St (b : Nat) (w W : World) (l : List UInt8) : Prop where
  only : Only b w W
  rd : Rd W b l
  len : l.length ≤ 9223372036854775807
theorem byte_st {b : Nat} {w W : World} {l : List UInt8} (h : St b w W l) : Calls Tryd.prog 58 #[.pointer (some ⟨b, 0, none⟩)] W fun e W' => (l = [] ∧ e = gaveUp 7 0 ∧ Only b w W') ∨ ∃ c r, l = c :: r ∧ e = .returned (.int .i64 (c.toNat : Int)) ∧ St b w W' r := by
  refine (byte_any b l W h.rd h.len).mono ?_
  rintro e w1 ⟨hk1, ⟨h1, h2⟩ | ⟨a, r, h1, h2, hr1⟩⟩
  · exact Or.inl ⟨h1, h2, h.only.trans hk1⟩
  · refine Or.inr ⟨a, r, h1, h2, h.only.trans hk1, hr1, ?_⟩
    have := h.len
    rw [h1, List.length_cons] at this
    omega
theorem two_st {b : Nat} {w W : World} {l : List UInt8} (h : St b w W l) : Calls Tryd.prog 59 #[.pointer (some ⟨b, 0, none⟩)] W fun e W' => (l.length < 2 ∧ e = gaveUp 7 0 ∧ Only b w W') ∨ ∃ a c r, l = a :: c :: r ∧ e = .returned (.int .i64 (num2 a c)) ∧ St b w W' r := by
  refine (two_any b l W h.rd h.len).mono ?_
  rintro e w1 ⟨hk1, ⟨h1, h2⟩ | ⟨a, c, r, h1, h2, hr1⟩⟩
  · exact Or.inl ⟨h1, h2, h.only.trans hk1⟩
  · refine Or.inr ⟨a, c, r, h1, h2, h.only.trans hk1, hr1, ?_⟩
    have := h.len
    rw [h1, List.length_cons, List.length_cons] at this
    omega
theorem flag_st {b : Nat} {w W : World} {l : List UInt8} (h : St b w W l) : Calls Tryd.prog 60 #[.pointer (some ⟨b, 0, none⟩)] W fun e W' => ((∀ f r, l = f :: r → ¬ f.toNat ≤ 1) ∧ e = gaveUp 7 0 ∧ Only b w W') ∨ ∃ f r, l = f :: r ∧ Hid (f.toNat ≤ 1) ∧ e = .returned (.bool ((f.toNat : Int) == 1)) ∧ St b w W' r := by
  refine (flag_any b l W h.rd h.len).mono ?_
  rintro e w1 ⟨hk1, ⟨h1, h2⟩ | ⟨a, r, h1, h3, h2, hr1⟩⟩
  · exact Or.inl ⟨h1, h2, h.only.trans hk1⟩
  · refine Or.inr ⟨a, r, h1, h3, h2, h.only.trans hk1, hr1, ?_⟩
    have := h.len
    rw [h1, List.length_cons] at this
    omega
theorem body_st {b : Nat} {w W : World} {l : List UInt8} (h : St b w W l) : Calls Tryd.prog 61 #[.pointer (some ⟨b, 0, none⟩)] W fun e W' => ((∀ L r, l = L :: r → ¬ L.toNat ≤ r.length) ∧ e = gaveUp 7 0 ∧ Only b w W') ∨ ∃ L r, l = L :: r ∧ Hid (L.toNat ≤ r.length) ∧ e = .returned (.string (str (r.take L.toNat))) ∧ St b w W' (r.drop L.toNat) := by
  refine (body_any b l W h.rd h.len).mono ?_
  rintro e w1 ⟨hk1, ⟨h1, h2⟩ | ⟨a, r, h1, h3, h2, hr1⟩⟩
  · exact Or.inl ⟨h1, h2, h.only.trans hk1⟩
  · refine Or.inr ⟨a, r, h1, h3, h2, h.only.trans hk1, hr1, ?_⟩
    have := h.len
    rw [h1, List.length_cons] at this
    rw [List.length_drop]
    omega

theorem cell_of {w : World} {s : Nat} {xs : Array Value} {t : TypeId} (h : w.heap[s]? = some (.cells xs t (0, 0))) (o : Nat) (v : Value) (hv : xs[o]? = some v) : w.cell? ⟨s, o, none⟩ = some v := by
  simp [World.cell?, h, hv]
theorem thaw_of {w : World} {s : Nat} {xs : Array Value} {t : TypeId} (h : w.heap[s]? = some (.cells xs t (0, 0))) (o : Nat) : w.frozen? ⟨s, o, none⟩ = false := by
  simp [World.frozen?, h]
theorem Only.put {b s o : Nat} {w w1 : World} (h : Only b w w1) (hs : w.heap.size ≤ s) (hb : b < s) (x : Value) : Only b w (w1.setCell ⟨s, o, none⟩ x) :=
  ⟨h.below.setCell (by simp; omega) _, by simpa using h.size, fun k hk hkb => (Below.heap_setCell _ _ _ _ (by simp; omega)).trans (h.block k hk hkb)⟩
theorem Rd.other {w : World} {b s o : Nat} {l : List UInt8} (h : Rd w b l) (hb : b < s) (x : Value) : Rd (w.setCell ⟨s, o, none⟩ x) b l := by
  unfold Rd at h ⊢
  rw [Below.heap_setCell _ _ _ _ (by simp; omega)]
  exact h

abbrev set10 (w : World) (s : Nat) (x0 x1 x2 x3 x4 x5 x6 x7 x8 x9 : Value) : World := (((((((((w.setCell ⟨s, 0, none⟩ x0).setCell ⟨s, 1, none⟩ x1).setCell ⟨s, 2, none⟩ x2).setCell ⟨s, 3, none⟩ x3).setCell ⟨s, 4, none⟩ x4).setCell ⟨s, 5, none⟩ x5).setCell ⟨s, 6, none⟩ x6).setCell ⟨s, 7, none⟩ x7).setCell ⟨s, 8, none⟩ x8).setCell ⟨s, 9, none⟩ x9
theorem only10 {b s : Nat} {w w1 : World} (h : Only b w w1) (hs : w.heap.size ≤ s) (hb : b < s) (x0 x1 x2 x3 x4 x5 x6 x7 x8 x9 : Value) : Only b w (set10 w1 s x0 x1 x2 x3 x4 x5 x6 x7 x8 x9) :=
  (((((((((h.put hs hb _).put hs hb _).put hs hb _).put hs hb _).put hs hb _).put hs hb _).put hs hb _).put hs hb _).put hs hb _).put hs hb _
theorem rd10 {w : World} {b s : Nat} {l : List UInt8} (h : Rd w b l) (hb : b < s) (x0 x1 x2 x3 x4 x5 x6 x7 x8 x9 : Value) : Rd (set10 w s x0 x1 x2 x3 x4 x5 x6 x7 x8 x9) b l :=
  (((((((((h.other hb _).other hb _).other hb _).other hb _).other hb _).other hb _).other hb _).other hb _).other hb _).other hb _

def fieldsPost (b : Nat) (l : List UInt8) (w : World) (e : Ending) (w' : World) : Prop := Only b w w' ∧ ((fieldsP l = none ∧ e = gaveUp 7 0) ∨ ∃ p r, fieldsP l = some (p, r) ∧ e = .returned (pv p) ∧ Rd w' b r)

theorem few (l : List UInt8) (h : l.length < 11) : fieldsP l = none := by
  unfold fieldsP
  split
  · simp only [List.length_cons] at h
    omega
  · rfl
theorem few9 {k c li ln s1 s2 u pa o : UInt8} {l : List UInt8} (h : ∀ f r, l = f :: r → ¬ f.toNat ≤ 1) : fieldsP (k :: c :: li :: ln :: s1 :: s2 :: u :: pa :: o :: l) = none := by
  unfold fieldsP
  split
  · rename_i he
    simp only [List.cons.injEq] at he
    obtain ⟨_, _, _, _, _, _, _, _, _, he⟩ := he
    rw [if_neg (fun hh => h _ _ he hh.1)]
  · rfl
theorem few10 {k c li ln s1 s2 u pa o f : UInt8} {l : List UInt8} (h : ∀ L r, l = L :: r → ¬ L.toNat ≤ r.length) : fieldsP (k :: c :: li :: ln :: s1 :: s2 :: u :: pa :: o :: f :: l) = none := by
  unfold fieldsP
  split
  · rename_i he
    simp only [List.cons.injEq] at he
    obtain ⟨_, _, _, _, _, _, _, _, _, _, he⟩ := he
    rw [if_neg (fun hh => h _ _ he hh.2)]
  · rfl
theorem all11 {k c li ln s1 s2 u pa o f L : UInt8} {r : List UInt8} (h1 : f.toNat ≤ 1) (h2 : L.toNat ≤ r.length) : fieldsP (k :: c :: li :: ln :: s1 :: s2 :: u :: pa :: o :: f :: L :: r) = some (⟨k.toNat, c.toNat, li.toNat, ln.toNat, num2 s1 s2, u.toNat, pa.toNat, o.toNat, (f.toNat : Int) == 1, r.take L.toNat⟩, r.drop L.toNat) := by
  show (if f.toNat ≤ 1 ∧ L.toNat ≤ r.length then _ else _) = _
  rw [if_pos ⟨h1, h2⟩]

set_option maxRecDepth 100000 in
set_option maxHeartbeats 4000000 in
theorem fields_any (b : Nat) (l : List UInt8) (w : World) (h : Rd w b l) (hl : l.length ≤ 9223372036854775807) : Calls Tryd.prog 43 #[.pointer (some ⟨b, 0, none⟩)] w (fieldsPost b l w) := by
  have hbl := h.lt
  have hB0 : Only b w ((w.alloc (.cells zeroCells 42)).drew) := ⟨((Below.refl _ _).alloc (by omega) _).drew, by simp, fun k hk _ => Below.heap_alloc _ _ _ hk⟩
  have h0 : Rd ((w.alloc (.cells zeroCells 42)).drew) b l := by
    unfold Rd at h ⊢
    show (w.alloc _).heap[b]? = _
    rw [Below.heap_alloc _ _ _ hbl]
    exact h
  obtain ⟨W, hW⟩ : ∃ W, W = (w.alloc (.cells zeroCells 42)).drew := ⟨_, rfl⟩
  have hz0 : W.heap[w.heap.size]? = some (.cells zeroCells 42 (0, 0)) := by
    rw [hW]
    show (w.heap.push _)[w.heap.size]? = _
    rw [Array.getElem?_push_size]
  have hst : St b W W l := ⟨Only.refl _ _, hW ▸ h0, hl⟩
  rw [← hW] at hB0
  have hWs : w.heap.size < W.heap.size := lt_of_block hz0
  clear h h0 hl
  go_enter Tryd.func43, Tryd.ntmps43
  go_wp2
  go_region_with (first
    | (go_at_call 58; refine (byte_st (by rw [← hW]; exact hst)).mono ?_; rintro e w1 (⟨rfl, rfl, hbw⟩ | ⟨c, r, rfl, rfl, hst⟩); (exact ⟨rfl, hB0.trans hbw, Or.inl ⟨few _ (by simp), rfl⟩⟩))
    | (go_at_call 58; refine (byte_st (by assumption)).mono ?_; rintro e w1 (⟨rfl, rfl, hbw⟩ | ⟨c, r, rfl, rfl, hst⟩); (exact ⟨rfl, hB0.trans hbw, Or.inl ⟨few _ (by simp), rfl⟩⟩))
    | (go_at_call 59; refine (two_st (by assumption)).mono ?_; rintro e w1 (⟨hlt, rfl, hbw⟩ | ⟨c, d, r, rfl, rfl, hst⟩); (exact ⟨rfl, hB0.trans hbw, Or.inl ⟨few _ (by simp only [List.length_cons]; omega), rfl⟩⟩))
    | (go_at_call 60; refine (flag_st (by assumption)).mono ?_; rintro e w1 (⟨hlt, rfl, hbw⟩ | ⟨f, r, rfl, hf1, rfl, hst⟩); (exact ⟨rfl, hB0.trans hbw, Or.inl ⟨few9 hlt, rfl⟩⟩))
    | (go_at_call 61; refine (body_st (by assumption)).mono ?_; rintro e w1 (⟨hlt, rfl, hbw⟩ | ⟨L, r, rfl, hL1, rfl, hst⟩); (exact ⟨rfl, hB0.trans hbw, Or.inl ⟨few10 hlt, rfl⟩⟩); have hzz := (hst.only.block _ hWs (by omega)).trans hz0; have c0 := cell_of hzz 0 _ rfl; have c1 := cell_of hzz 1 _ rfl; have c2 := cell_of hzz 2 _ rfl; have c3 := cell_of hzz 3 _ rfl; have c4 := cell_of hzz 4 _ rfl; have c5 := cell_of hzz 5 _ rfl; have c6 := cell_of hzz 6 _ rfl; have c7 := cell_of hzz 7 _ rfl; have c8 := cell_of hzz 8 _ rfl; have c9 := cell_of hzz 9 _ rfl; have cz := thaw_of hzz; clear hzz))
  have FO := hide (hB0.trans hst.only)
  have FR := hide hst.rd
  clear hst
  go_wp2
  refine bodyPost_ret (v := pv ⟨_, _, _, _, _, _, _, _, _, _⟩) (by simp [results, Tryd.results43, go_sem, c0, c1, c2, c3, c4, c5, c6, c7, c8, c9]) rfl ⟨only10 (unhide FO) (Nat.le_refl _) hbl _ _ _ _ _ _ _ _ _ _, Or.inr ⟨_, _, all11 (unhide hf1) (unhide hL1), rfl, rd10 (unhide FR) hbl _ _ _ _ _ _ _ _ _ _⟩⟩
end Go.Proofs.YthofebmiggodhaaDoor
