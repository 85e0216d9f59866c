/-
  The landed code's reader of a packet: its fields.
-/
import Derived.Test.YtblomippkddgiaaWire
namespace Go.Proofs.Ytblomippkddgiaa
open Go.RowKit

theorem or_two (a c : Nat) (ha : a < 256) (hc : c < 256) : bits .or .i64 ((a : Int) * 256) (c : Int) = (a : Int) * 256 + (c : Int) := by
  have e : a * 256 ||| c = a * 256 + c := by
    have h := Nat.two_pow_add_eq_or_of_lt (i := 8) (b := c) (by omega) a
    rw [show 2 ^ 8 * a = a * 256 by omega] at h
    exact h.symm
  have e0 : (a : Int) * 256 = ((a * 256 : Nat) : Int) := by omega
  rw [e0]
  have n1 : (BitVec.ofInt 64 ((a * 256 : Nat) : Int)).toNat = a * 256 := by
    rw [BitVec.ofInt_natCast, BitVec.toNat_ofNat]
    omega
  have n2 : (BitVec.ofInt 64 (c : Int)).toNat = c := by
    rw [BitVec.ofInt_natCast, BitVec.toNat_ofNat]
    omega
  show IntKind.i64.wrap ((BitVec.ofInt 64 ((a * 256 : Nat) : Int) ||| BitVec.ofInt 64 (c : Int)).toNat : Int) = _
  rw [BitVec.toNat_or, n1, n2, e, IntKind.wrap_i64]
  omega

def twoP (b : Nat) (l : List UInt8) (w : World) (e : Ending) (w' : World) : Prop := Only b w w' ∧ ((l.length < 2 ∧ e = gaveUp 7 0) ∨ ∃ a c r, l = a :: c :: r ∧ e = .returned (.int .i64 (num2 a c)) ∧ Rd w' b r)
set_option maxRecDepth 100000 in
set_option maxHeartbeats 1000000 in
theorem two_any (b : Nat) (l : List UInt8) (w : World) (h : Rd w b l) (hl : l.length ≤ 9223372036854775807) : Calls Try.prog 88 #[.pointer (some ⟨b, 0, none⟩)] w (twoP b l w) := by
  have H1 := hide (byte_any b l w h hl)
  have H2 := hide (fun (r : List UInt8) (w : World) (h : Rd w b r) (hl : r.length ≤ 9223372036854775807) => byte_any b r w h hl)
  clear h
  go_enter Try.func88, Try.ntmps88
  go_wp2_with fail
  refine (unhide H1).mono ?_
  rintro e w1 ⟨hk1, ⟨rfl, rfl⟩ | ⟨a, r, rfl, rfl, hr1⟩⟩
  · go_wp2
    exact ⟨rfl, hk1, Or.inl ⟨by simp, rfl⟩⟩
  · have H3 := hide ((unhide H2) r w1 hr1 (by simp at hl; omega))
    clear H2 hr1
    have ha := a.toNat_lt
    have hw : wrap64 ((a.toNat : Int) * 256) = (a.toNat : Int) * 256 := by unfold wrap64; omega
    go_wp2_with fail
    refine (unhide H3).mono ?_
    rintro e w2 ⟨hk2, ⟨rfl, rfl⟩ | ⟨c, r, rfl, rfl, hr2⟩⟩
    · go_wp2
      exact ⟨rfl, hk1.trans hk2, Or.inl ⟨by simp, rfl⟩⟩
    · have hc := c.toNat_lt
      have ho := or_two a.toNat c.toNat (by omega) (by omega)
      have HR := hide hr2
      clear hr2
      go_wp2
      go_ret
      exact ⟨hk1.trans hk2, Or.inr ⟨a, c, r, rfl, rfl, unhide HR⟩⟩

/- End: nothing may be left -/
set_option maxRecDepth 100000 in
set_option maxHeartbeats 1000000 in
theorem end_any (b : Nat) (l : List UInt8) (w : World) (h : Rd w b l) (hl : l.length ≤ 9223372036854775807) : Calls Try.prog 61 #[.pointer (some ⟨b, 0, none⟩)] w fun e w' => w' = w ∧ e = if l = [] then .returned (.tuple #[]) else gaveUp 7 0 := by
  have H := hide (refuse_any b l w h)
  have h1 := h.left
  have hsz := str_size l
  by_cases h0 : l = []
  · subst h0
    clear h
    go_enter Try.func61, Try.ntmps61
    go_wp2
    go_end0
    exact ⟨rfl, rfl⟩
  · have hp := List.length_pos_iff.2 h0
    rw [if_neg h0]
    have hgt : (0 : Int) < ((str l).size : Int) := by omega
    generalize str l = S at *
    clear h h0
    go_enter Try.func61, Try.ntmps61
    go_wp2_with fail
    refine (unhide H).mono ?_
    rintro e w1 ⟨rfl, rfl⟩
    go_wp2
    exact ⟨rfl, rfl, rfl⟩

/- Please: a byte 0 or 1 -/
def flagP (b : Nat) (l : List UInt8) (w : World) (e : Ending) (w' : World) : Prop := Only b w w' ∧ (((∀ f r, l = f :: r → ¬ f.toNat ≤ 1) ∧ e = gaveUp 7 0) ∨ ∃ f r, l = f :: r ∧ f.toNat ≤ 1 ∧ e = .returned (.bool ((f.toNat : Int) == 1)) ∧ Rd w' b r)
set_option maxRecDepth 100000 in
set_option maxHeartbeats 1000000 in
theorem flag_any (b : Nat) (l : List UInt8) (w : World) (h : Rd w b l) (hl : l.length ≤ 9223372036854775807) : Calls Try.prog 89 #[.pointer (some ⟨b, 0, none⟩)] w (flagP b l w) := by
  have H1 := hide (byte_any b l w h hl)
  have H2 := hide (fun (r : List UInt8) (w : World) (h : Rd w b r) => refuse_any b r w h)
  clear h
  go_enter Try.func89, Try.ntmps89
  go_wp2_with fail
  refine (unhide H1).mono ?_
  rintro e w1 ⟨hk1, ⟨rfl, rfl⟩ | ⟨a, r, rfl, rfl, hr1⟩⟩
  · go_wp2
    exact ⟨rfl, hk1, Or.inl ⟨fun f r h => (by cases h), rfl⟩⟩
  · by_cases h1 : (1 : Int) < (a.toNat : Int)
    · have H3 := hide ((unhide H2) r w1 hr1)
      clear H2 hr1
      go_wp2_with fail
      refine (unhide H3).mono ?_
      rintro e w2 ⟨rfl, rfl⟩
      go_wp2
      refine ⟨rfl, hk1, Or.inl ⟨fun f r h => ?_, rfl⟩⟩
      cases h
      omega
    · have HR := hide hr1
      clear hr1 H2
      go_wp2
      go_ret
      exact ⟨hk1, Or.inr ⟨a, r, rfl, by omega, rfl, unhide HR⟩⟩

/- the length, and as many bytes -/
def bodyP (b : Nat) (l : List UInt8) (w : World) (e : Ending) (w' : World) : Prop := Only b w w' ∧ (((∀ L r, l = L :: r → ¬ L.toNat ≤ r.length) ∧ e = gaveUp 7 0) ∨ ∃ L r, l = L :: r ∧ L.toNat ≤ r.length ∧ e = .returned (.string (str (r.take L.toNat))) ∧ Rd w' b (r.drop L.toNat))
set_option maxRecDepth 100000 in
set_option maxHeartbeats 1000000 in
theorem body_any (b : Nat) (l : List UInt8) (w : World) (h : Rd w b l) (hl : l.length ≤ 9223372036854775807) : Calls Try.prog 90 #[.pointer (some ⟨b, 0, none⟩)] w (bodyP b l w) := by
  have H1 := hide (byte_any b l w h hl)
  clear h
  go_enter Try.func90, Try.ntmps90
  go_wp2_with fail
  refine (unhide H1).mono ?_
  rintro e w1 ⟨hk1, ⟨rfl, rfl⟩ | ⟨L, r, rfl, rfl, hr1⟩⟩
  · go_wp2
    exact ⟨rfl, hk1, Or.inl ⟨fun f r h => (by cases h), rfl⟩⟩
  · have hL := L.toNat_lt
    have hrl : r.length ≤ 9223372036854775807 := by simp at hl; omega
    by_cases h1 : L.toNat ≤ r.length
    · have H2 := hide (take_ok b r L.toNat w1 hr1 h1 hrl)
      have hset := hr1.set (r.drop L.toNat)
      have H3 := hide (clone_any (r.take L.toNat) (w1.setCell ⟨b, 0, none⟩ (.string (str (r.drop L.toNat)))) (by rw [List.length_take]; omega))
      have HO := hide (Only.set b 0 w1 (.string (str (r.drop L.toNat))))
      have HS := hide hset
      have hsl := hset.lt
      clear hset hr1
      generalize hA : str (r.take L.toNat) = A at *
      generalize hB : w1.setCell ⟨b, 0, none⟩ (.string (str (r.drop L.toNat))) = W at *
      go_wp2_with fail
      refine (unhide H2).mono ?_
      rintro e w2 ⟨rfl, rfl⟩
      go_wp2_with fail
      refine (unhide H3).mono ?_
      rintro e w3 ⟨rfl, hb3⟩
      go_wp2
      go_ret
      refine ⟨(hk1.trans (unhide HO)).trans (Only.of_below hb3 (by omega)), Or.inr ⟨L, r, rfl, h1, by rw [hA]; rfl, (unhide HS).below hb3 hsl⟩⟩
    · have H2 := hide (take_no b r L.toNat w1 hr1 h1)
      clear hr1
      go_wp2_with fail
      refine (unhide H2).mono ?_
      rintro e w2 ⟨rfl, rfl⟩
      go_wp2
      refine ⟨rfl, hk1, Or.inl ⟨fun f r h => ?_, rfl⟩⟩
      cases h
      exact h1

end Go.Proofs.Ytblomippkddgiaa
