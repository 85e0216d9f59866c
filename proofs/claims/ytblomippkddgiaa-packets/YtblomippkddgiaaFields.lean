/-
  The landed code's reader of a packet: all its fields, in their order.
-/
import Derived.Test.YtblomippkddgiaaWire2
namespace Go.Proofs.Ytblomippkddgiaa
open Go.RowKit

abbrev pv (p : Pk) : Value := .agg #[.int .i64 p.kind, .int .i64 p.client, .int .i64 p.life, .int .i64 p.line, .int .i64 p.seq, .int .i64 p.uid, .int .i64 p.part, .int .i64 p.off, .bool p.please, .string (str p.body)]
abbrev zeroP : Value := .agg #[.int .i64 0, .int .i64 0, .int .i64 0, .int .i64 0, .int .i64 0, .int .i64 0, .int .i64 0, .int .i64 0, .bool false, .string ⟨#[]⟩]
abbrev zeroCells : Array Value := #[.int .i64 0, .int .i64 0, .int .i64 0, .int .i64 0, .int .i64 0, .int .i64 0, .int .i64 0, .int .i64 0, .bool false, .string ⟨#[]⟩]

/- the reader's state: b lies in W, l is left; of w nothing has turned but b -/
structure St (b : Nat) (w W : World) (l : List UInt8) : Prop where
  only : Only b w W
  rd : Rd W b l
  len : l.length ≤ 9223372036854775807
theorem byte_st {b : Nat} {w W : World} {l : List UInt8} (h : St b w W l) : Calls Try.prog 87 #[.pointer (some ⟨b, 0, none⟩)] W fun e W' => (l = [] ∧ e = gaveUp 7 0 ∧ Only b w W') ∨ ∃ c r, l = c :: r ∧ e = .returned (.int .i64 (c.toNat : Int)) ∧ St b w W' r := by
  refine (byte_any b l W h.rd h.len).mono ?_
  rintro e w1 ⟨hk1, ⟨h1, h2⟩ | ⟨a, r, h1, h2, hr1⟩⟩
  · exact Or.inl ⟨h1, h2, h.only.trans hk1⟩
  · refine Or.inr ⟨a, r, h1, h2, h.only.trans hk1, hr1, ?_⟩
    have := h.len
    rw [h1, List.length_cons] at this
    omega
theorem two_st {b : Nat} {w W : World} {l : List UInt8} (h : St b w W l) : Calls Try.prog 88 #[.pointer (some ⟨b, 0, none⟩)] W fun e W' => (l.length < 2 ∧ e = gaveUp 7 0 ∧ Only b w W') ∨ ∃ a c r, l = a :: c :: r ∧ e = .returned (.int .i64 (num2 a c)) ∧ St b w W' r := by
  refine (two_any b l W h.rd h.len).mono ?_
  rintro e w1 ⟨hk1, ⟨h1, h2⟩ | ⟨a, c, r, h1, h2, hr1⟩⟩
  · exact Or.inl ⟨h1, h2, h.only.trans hk1⟩
  · refine Or.inr ⟨a, c, r, h1, h2, h.only.trans hk1, hr1, ?_⟩
    have := h.len
    rw [h1, List.length_cons, List.length_cons] at this
    omega
theorem flag_st {b : Nat} {w W : World} {l : List UInt8} (h : St b w W l) : Calls Try.prog 89 #[.pointer (some ⟨b, 0, none⟩)] W fun e W' => ((∀ f r, l = f :: r → ¬ f.toNat ≤ 1) ∧ e = gaveUp 7 0 ∧ Only b w W') ∨ ∃ f r, l = f :: r ∧ Hid (f.toNat ≤ 1) ∧ e = .returned (.bool ((f.toNat : Int) == 1)) ∧ St b w W' r := by
  refine (flag_any b l W h.rd h.len).mono ?_
  rintro e w1 ⟨hk1, ⟨h1, h2⟩ | ⟨a, r, h1, h3, h2, hr1⟩⟩
  · exact Or.inl ⟨h1, h2, h.only.trans hk1⟩
  · refine Or.inr ⟨a, r, h1, h3, h2, h.only.trans hk1, hr1, ?_⟩
    have := h.len
    rw [h1, List.length_cons] at this
    omega
theorem body_st {b : Nat} {w W : World} {l : List UInt8} (h : St b w W l) : Calls Try.prog 90 #[.pointer (some ⟨b, 0, none⟩)] W fun e W' => ((∀ L r, l = L :: r → ¬ L.toNat ≤ r.length) ∧ e = gaveUp 7 0 ∧ Only b w W') ∨ ∃ L r, l = L :: r ∧ Hid (L.toNat ≤ r.length) ∧ e = .returned (.string (str (r.take L.toNat))) ∧ St b w W' (r.drop L.toNat) := by
  refine (body_any b l W h.rd h.len).mono ?_
  rintro e w1 ⟨hk1, ⟨h1, h2⟩ | ⟨a, r, h1, h3, h2, hr1⟩⟩
  · exact Or.inl ⟨h1, h2, h.only.trans hk1⟩
  · refine Or.inr ⟨a, r, h1, h3, h2, h.only.trans hk1, hr1, ?_⟩
    have := h.len
    rw [h1, List.length_cons] at this
    rw [List.length_drop]
    omega

theorem cell_of {w : World} {s : Nat} {xs : Array Value} {t : TypeId} (h : w.heap[s]? = some (.cells xs t (0, 0))) (o : Nat) (v : Value) (hv : xs[o]? = some v) : w.cell? ⟨s, o, none⟩ = some v := by
  simp [World.cell?, h, hv]
theorem thaw_of {w : World} {s : Nat} {xs : Array Value} {t : TypeId} (h : w.heap[s]? = some (.cells xs t (0, 0))) (o : Nat) : w.frozen? ⟨s, o, none⟩ = false := by
  simp [World.frozen?, h]
theorem Only.put {b s o : Nat} {w w1 : World} (h : Only b w w1) (hs : w.heap.size ≤ s) (hb : b < s) (x : Value) : Only b w (w1.setCell ⟨s, o, none⟩ x) :=
  ⟨h.below.setCell (by simp; omega) _, by simpa using h.size, fun k hk hkb => (Below.heap_setCell _ _ _ _ (by simp; omega)).trans (h.block k hk hkb)⟩
theorem Rd.other {w : World} {b s o : Nat} {l : List UInt8} (h : Rd w b l) (hb : b < s) (x : Value) : Rd (w.setCell ⟨s, o, none⟩ x) b l := by
  unfold Rd at h ⊢
  rw [Below.heap_setCell _ _ _ _ (by simp; omega)]
  exact h

abbrev set10 (w : World) (s : Nat) (x0 x1 x2 x3 x4 x5 x6 x7 x8 x9 : Value) : World := (((((((((w.setCell ⟨s, 0, none⟩ x0).setCell ⟨s, 1, none⟩ x1).setCell ⟨s, 2, none⟩ x2).setCell ⟨s, 3, none⟩ x3).setCell ⟨s, 4, none⟩ x4).setCell ⟨s, 5, none⟩ x5).setCell ⟨s, 6, none⟩ x6).setCell ⟨s, 7, none⟩ x7).setCell ⟨s, 8, none⟩ x8).setCell ⟨s, 9, none⟩ x9
theorem only10 {b s : Nat} {w w1 : World} (h : Only b w w1) (hs : w.heap.size ≤ s) (hb : b < s) (x0 x1 x2 x3 x4 x5 x6 x7 x8 x9 : Value) : Only b w (set10 w1 s x0 x1 x2 x3 x4 x5 x6 x7 x8 x9) :=
  (((((((((h.put hs hb _).put hs hb _).put hs hb _).put hs hb _).put hs hb _).put hs hb _).put hs hb _).put hs hb _).put hs hb _).put hs hb _
theorem rd10 {w : World} {b s : Nat} {l : List UInt8} (h : Rd w b l) (hb : b < s) (x0 x1 x2 x3 x4 x5 x6 x7 x8 x9 : Value) : Rd (set10 w s x0 x1 x2 x3 x4 x5 x6 x7 x8 x9) b l :=
  (((((((((h.other hb _).other hb _).other hb _).other hb _).other hb _).other hb _).other hb _).other hb _).other hb _).other hb _

def fieldsPost (b : Nat) (l : List UInt8) (w : World) (e : Ending) (w' : World) : Prop := Only b w w' ∧ ((fieldsP l = none ∧ e = gaveUp 7 0) ∨ ∃ p r, fieldsP l = some (p, r) ∧ e = .returned (pv p) ∧ Rd w' b r)

theorem few (l : List UInt8) (h : l.length < 11) : fieldsP l = none := by
  unfold fieldsP
  split
  · simp only [List.length_cons] at h
    omega
  · rfl
theorem few9 {k c li ln s1 s2 u pa o : UInt8} {l : List UInt8} (h : ∀ f r, l = f :: r → ¬ f.toNat ≤ 1) : fieldsP (k :: c :: li :: ln :: s1 :: s2 :: u :: pa :: o :: l) = none := by
  unfold fieldsP
  split
  · rename_i he
    simp only [List.cons.injEq] at he
    obtain ⟨_, _, _, _, _, _, _, _, _, he⟩ := he
    rw [if_neg (fun hh => h _ _ he hh.1)]
  · rfl
theorem few10 {k c li ln s1 s2 u pa o f : UInt8} {l : List UInt8} (h : ∀ L r, l = L :: r → ¬ L.toNat ≤ r.length) : fieldsP (k :: c :: li :: ln :: s1 :: s2 :: u :: pa :: o :: f :: l) = none := by
  unfold fieldsP
  split
  · rename_i he
    simp only [List.cons.injEq] at he
    obtain ⟨_, _, _, _, _, _, _, _, _, _, he⟩ := he
    rw [if_neg (fun hh => h _ _ he hh.2)]
  · rfl
theorem all11 {k c li ln s1 s2 u pa o f L : UInt8} {r : List UInt8} (h1 : f.toNat ≤ 1) (h2 : L.toNat ≤ r.length) : fieldsP (k :: c :: li :: ln :: s1 :: s2 :: u :: pa :: o :: f :: L :: r) = some (⟨k.toNat, c.toNat, li.toNat, ln.toNat, num2 s1 s2, u.toNat, pa.toNat, o.toNat, (f.toNat : Int) == 1, r.take L.toNat⟩, r.drop L.toNat) := by
  show (if f.toNat ≤ 1 ∧ L.toNat ≤ r.length then _ else _) = _
  rw [if_pos ⟨h1, h2⟩]

set_option maxRecDepth 100000 in
set_option maxHeartbeats 4000000 in
theorem fields_any (b : Nat) (l : List UInt8) (w : World) (h : Rd w b l) (hl : l.length ≤ 9223372036854775807) : Calls Try.prog 67 #[.pointer (some ⟨b, 0, none⟩)] w (fieldsPost b l w) := by
  have hbl := h.lt
  have hB0 : Only b w ((w.alloc (.cells zeroCells 59)).drew) := ⟨((Below.refl _ _).alloc (by omega) _).drew, by simp, fun k hk _ => Below.heap_alloc _ _ _ hk⟩
  have h0 : Rd ((w.alloc (.cells zeroCells 59)).drew) b l := by
    unfold Rd at h ⊢
    show (w.alloc _).heap[b]? = _
    rw [Below.heap_alloc _ _ _ hbl]
    exact h
  obtain ⟨W, hW⟩ : ∃ W, W = (w.alloc (.cells zeroCells 59)).drew := ⟨_, rfl⟩
  have hz0 : W.heap[w.heap.size]? = some (.cells zeroCells 59 (0, 0)) := by
    rw [hW]
    show (w.heap.push _)[w.heap.size]? = _
    rw [Array.getElem?_push_size]
  have hst : St b W W l := ⟨Only.refl _ _, hW ▸ h0, hl⟩
  rw [← hW] at hB0
  have hWs : w.heap.size < W.heap.size := lt_of_block hz0
  clear h h0 hl
  go_enter Try.func67, Try.ntmps67
  go_wp2
  go_region_with (first
    | (go_at_call 87; refine (byte_st (by rw [← hW]; exact hst)).mono ?_; rintro e w1 (⟨rfl, rfl, hbw⟩ | ⟨c, r, rfl, rfl, hst⟩); (exact ⟨rfl, hB0.trans hbw, Or.inl ⟨few _ (by simp), rfl⟩⟩))
    | (go_at_call 87; refine (byte_st (by assumption)).mono ?_; rintro e w1 (⟨rfl, rfl, hbw⟩ | ⟨c, r, rfl, rfl, hst⟩); (exact ⟨rfl, hB0.trans hbw, Or.inl ⟨few _ (by simp), rfl⟩⟩))
    | (go_at_call 88; refine (two_st (by assumption)).mono ?_; rintro e w1 (⟨hlt, rfl, hbw⟩ | ⟨c, d, r, rfl, rfl, hst⟩); (exact ⟨rfl, hB0.trans hbw, Or.inl ⟨few _ (by simp only [List.length_cons]; omega), rfl⟩⟩))
    | (go_at_call 89; refine (flag_st (by assumption)).mono ?_; rintro e w1 (⟨hlt, rfl, hbw⟩ | ⟨f, r, rfl, hf1, rfl, hst⟩); (exact ⟨rfl, hB0.trans hbw, Or.inl ⟨few9 hlt, rfl⟩⟩))
    | (go_at_call 90; refine (body_st (by assumption)).mono ?_; rintro e w1 (⟨hlt, rfl, hbw⟩ | ⟨L, r, rfl, hL1, rfl, hst⟩); (exact ⟨rfl, hB0.trans hbw, Or.inl ⟨few10 hlt, rfl⟩⟩); have hzz := (hst.only.block _ hWs (by omega)).trans hz0; have c0 := cell_of hzz 0 _ rfl; have c1 := cell_of hzz 1 _ rfl; have c2 := cell_of hzz 2 _ rfl; have c3 := cell_of hzz 3 _ rfl; have c4 := cell_of hzz 4 _ rfl; have c5 := cell_of hzz 5 _ rfl; have c6 := cell_of hzz 6 _ rfl; have c7 := cell_of hzz 7 _ rfl; have c8 := cell_of hzz 8 _ rfl; have c9 := cell_of hzz 9 _ rfl; have cz := thaw_of hzz; clear hzz))
  have FO := hide (hB0.trans hst.only)
  have FR := hide hst.rd
  clear hst
  go_wp2
  refine bodyPost_ret (v := pv ⟨_, _, _, _, _, _, _, _, _, _⟩) (by simp [results, Try.results67, go_sem, c0, c1, c2, c3, c4, c5, c6, c7, c8, c9]) rfl ⟨only10 (unhide FO) (Nat.le_refl _) hbl _ _ _ _ _ _ _ _ _ _, Or.inr ⟨_, _, all11 (unhide hf1) (unhide hL1), rfl, rd10 (unhide FR) hbl _ _ _ _ _ _ _ _ _ _⟩⟩
end Go.Proofs.Ytblomippkddgiaa
