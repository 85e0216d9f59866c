/-
  Joined: VTexts.
-/
import Derived.Test.YtblomippkddgiaaGreatDoorJ11
/-
  The document's own 'texts': which items of a value are strings.
-/
namespace Go.Proofs.YtblomippkddgiaaGreatDoor.V
open Go.RowKit

theorem info4 : (Tryz.prog.info? 4).map (fun i => (i.zero, i.size, i.bytes)) = some (some (.bool false), 1, 1) := by kernel_rfl

/- a list of bools in memory of the call's own, all that was there before being as it was -/
structure Outs (w0 w : World) (O : Value) (outs : List Bool) : Prop where
  own : w.ownsRow w0.heap.size 4 1 O outs.length (outs.map Value.bool)
  below : Below w0.heap.size w0 w

theorem row_below {w w' : World} {B n size : Nat} {e : TypeId} {v : Value} {xs : List Value} (h : w.ownsRow B e size v n xs) (hb : Below w.heap.size w w') : w'.ownsRow B e size v n xs := by
  obtain ⟨hl, h⟩ := h
  refine ⟨hl, ?_⟩
  rcases h with h | ⟨g, cap, cur, hv, hg, hh, r⟩
  · exact Or.inl h
  · refine Or.inr ⟨g, cap, cur, hv, hg, ?_, r⟩
    rw [hb.block g (lt_of_block hh)]
    exact hh
theorem Outs.go {w0 w w' : World} {O : Value} {outs : List Bool} (h : Outs w0 w O outs) (hb : Below w.heap.size w w') : Outs w0 w' O outs := ⟨row_below h.own hb, h.below.trans (hb.mono h.below.size)⟩
theorem Outs.nil (w0 : World) : Outs w0 w0 (.slice none 0 0) [] := ⟨World.ownsRow_nil _ _ _ _, Below.refl _ _⟩
theorem Outs.shape {w0 w : World} {O : Value} {outs : List Bool} (h : Outs w0 w O outs) : ∃ a cap, O = .slice a outs.length cap := by
  rcases h.own.2 with ⟨hv, h0⟩ | ⟨g, cap, cur, hv, _⟩
  · exact ⟨none, 0, by rw [hv, h0]⟩
  · exact ⟨_, _, hv⟩

def TextsSaid (s : ByteArray) (V : Value) (v : List It) (w0 : World) (f : Nat) : Prop := ∀ (p : Nat) (O : Value) (outs ks : List Bool) (r : List It) (w : World), Okp s f p → Outs w0 w O outs → eat (nx s) f p (v.drop outs.length) = some (ks, r) →
  Calls Tryz.prog 240 #[.string s, .int .i64 p, V, O] w fun e w' => ∃ O', e = .returned O' ∧ Outs w0 w' O' (outs ++ ks)

theorem seqE_take {E : Nat → List It → Eaten} {qs : List Nat} {v : List It} {ks : List Bool} {r : List It} (h : seqE E qs v = some (ks, r)) (k : Nat) : ∃ k1 r1, seqE E (qs.take k) v = some (k1, r1) := by
  cases hs : seqE E (qs.take k) v with
  | none => rw [seqE_none E hs] at h; cases h
  | some e => exact ⟨e.1, e.2, rfl⟩

/- one more type of the list -/
theorem seqE_one {E : Nat → List It → Eaten} {qs : List Nat} {v : List It} {ks : List Bool} {r : List It} (h : seqE E qs v = some (ks, r)) {k q : Nat} (hq : qs[k]? = some q) {k1 : List Bool} {r1 : List It} (h1 : seqE E (qs.take k) v = some (k1, r1)) :
    ∃ k2 r2, E q r1 = some (k2, r2) ∧ seqE E (qs.take (k + 1)) v = some (k1 ++ k2, r2) := by
  obtain ⟨ka, ra, h2⟩ := seqE_take h (k + 1)
  rw [List.take_add_one, hq, Option.toList_some, seqE_snoc, h1] at h2
  simp only at h2
  cases hE : E q r1 with
  | none => rw [hE] at h2; cases h2
  | some e =>
    refine ⟨e.1, e.2, rfl, ?_⟩
    rw [List.take_add_one, hq, Option.toList_some, seqE_snoc, h1]
    simp only [hE]
    rfl

set_option maxRecDepth 100000 in
set_option maxHeartbeats 1000000 in
theorem texts_a (s : ByteArray) (p : Nat) (V O : Value) (v : List It) (E : Nat → List It → Eaten) (qs : List Nat) (outs ks : List Bool) (r : List It) (w0 w : World) (hp : p < s.size) (hql : qs.length ≤ 9) (hO : Outs w0 w O outs) (hEh : ∀ q ∈ qs, Heads (E q)) (hE : seqE E qs (v.drop outs.length) = some (ks, r))
    (HI : ∀ w, Calls Tryz.prog 241 #[.string s, .int .i64 p] w fun e w' => e = .returned (.int .i64 (qs.length : Int)) ∧ Below w.heap.size w w')
    (HW : ∀ (k q : Nat) w, qs[k]? = some q → Calls Tryz.prog 242 #[.string s, .int .i64 p, .int .i64 k] w fun e w' => e = .returned (.int .i64 q) ∧ Below w.heap.size w w')
    (HV : ∀ (q : Nat) (O' : Value) (outs' k2 : List Bool) (r2 : List It) w', q ∈ qs → Outs w0 w' O' outs' → E q (v.drop outs'.length) = some (k2, r2) → Calls Tryz.prog 240 #[.string s, .int .i64 q, V, O'] w' fun e w'' => ∃ O'', e = .returned O'' ∧ Outs w0 w'' O'' (outs' ++ k2))
    (t1 : ((((s[p]).toNat : Nat) : Int) == 97) = true) :
    Calls Tryz.prog 240 #[.string s, .int .i64 p, V, O] w fun e w' => ∃ O', e = .returned O' ∧ Outs w0 w' O' (outs ++ ks) := by
  have H1 := hide HI
  have H2 := hide HW
  have H3 := hide HV
  have HEH := hide hEh
  have HE := hide hE
  have HOO := hide hO
  clear HI HW HV hEh hE hO
  go_enter Tryz.func240, Tryz.ntmps240
  go_wp2_with fail
  refine ((unhide H1) _).mono ?_
  rintro e w1 ⟨rfl, hb1⟩
  have I0 := hide ((unhide HOO).go hb1)
  clear hb1
  go_wp2
  go_loopw [3, 10] (fun ov kv wr => ∃ (k : Nat) (k1 : List Bool) (r1 : List It), k ≤ qs.length ∧ kv = .int .i64 k ∧ Outs w0 wr ov (outs ++ k1) ∧ Hid (seqE E (qs.take k) (v.drop outs.length) = some (k1, r1))) (fun _ kv _ => qs.length - (intOf kv).toNat)
  case atStart => exact ⟨0, [], _, Nat.zero_le _, rfl, by rw [List.append_nil]; exact unhide I0, rfl⟩
  case round =>
    obtain ⟨k, k1, r1, hk, rfl, hor, hst⟩ := hrel
    have HOR := hide hor
    clear I0 hor
    by_cases hkN : k < qs.length
    · obtain ⟨q, hq⟩ : ∃ q, qs[k]? = some q := ⟨_, List.getElem?_eq_getElem hkN⟩
      have hqm : q ∈ qs := List.mem_of_getElem? hq
      obtain ⟨k2, r2, hE2, hst2⟩ := seqE_one (unhide HE) hq (unhide hst)
      obtain ⟨h1, h2⟩ := seqE_heads (E := E) (qs.take k) (fun q' hq' => unhide HEH q' (List.mem_of_mem_take hq')) _ _ _ (unhide hst)
      rw [List.drop_drop] at h1
      have HE2 : Hid (E q (v.drop (outs ++ k1).length) = some (k2, r2)) := by rw [List.length_append, ← h1]; exact hE2
      have HST2 := hide hst2
      have HQ := hide hq
      clear h1 h2 hE2 hst2 hq hst
      go_wp2_with fail
      refine ((unhide H2) k q _ (unhide HQ)).mono ?_
      rintro e w2 ⟨rfl, hb2⟩
      have hor2 := hide ((unhide HOR).go hb2)
      clear hb2
      go_wp2_with fail
      refine ((unhide H3) q _ _ _ _ _ hqm (unhide hor2) (unhide HE2)).mono ?_
      rintro e w3 ⟨O3, rfl, ho3⟩
      have HO3 := hide ho3
      clear ho3
      go_wp2
      go_roundw
      case rel => exact ⟨k + 1, k1 ++ k2, r2, by omega, by go_num, by rw [← List.append_assoc]; exact unhide HO3, unhide HST2⟩
      case measure => simp [intOf]; omega
    · obtain rfl : k = qs.length := by omega
      have e1 : k1 = ks := by
        have h := unhide hst
        rw [List.take_length, unhide HE] at h
        cases h
        rfl
      subst e1
      go_wp2
      go_ret
      exact ⟨_, rfl, unhide HOR⟩

set_option maxRecDepth 100000 in
set_option maxHeartbeats 1000000 in
theorem texts_r (s : ByteArray) (p : Nat) (V O : Value) (v : List It) (E : Nat → List It → Eaten) (qs : List Nat) (outs ks : List Bool) (r : List It) (w0 w : World) (hp : p < s.size) (hql : qs.length ≤ 9) (hO : Outs w0 w O outs) (hEh : ∀ q ∈ qs, Heads (E q)) (hE : seqE E qs (v.drop outs.length) = some (ks, r))
    (HI : ∀ w, Calls Tryz.prog 241 #[.string s, .int .i64 p] w fun e w' => e = .returned (.int .i64 (qs.length : Int)) ∧ Below w.heap.size w w')
    (HW : ∀ (k q : Nat) w, qs[k]? = some q → Calls Tryz.prog 242 #[.string s, .int .i64 p, .int .i64 k] w fun e w' => e = .returned (.int .i64 q) ∧ Below w.heap.size w w')
    (HV : ∀ (q : Nat) (O' : Value) (outs' k2 : List Bool) (r2 : List It) w', q ∈ qs → Outs w0 w' O' outs' → E q (v.drop outs'.length) = some (k2, r2) → Calls Tryz.prog 240 #[.string s, .int .i64 q, V, O'] w' fun e w'' => ∃ O'', e = .returned O'' ∧ Outs w0 w'' O'' (outs' ++ k2))
    (t1 : ((((s[p]).toNat : Nat) : Int) == 97) = false) (t2 : ((((s[p]).toNat : Nat) : Int) == 114) = true) :
    Calls Tryz.prog 240 #[.string s, .int .i64 p, V, O] w fun e w' => ∃ O', e = .returned O' ∧ Outs w0 w' O' (outs ++ ks) := by
  have H1 := hide HI
  have H2 := hide HW
  have H3 := hide HV
  have HEH := hide hEh
  have HE := hide hE
  have HOO := hide hO
  clear HI HW HV hEh hE hO
  go_enter Tryz.func240, Tryz.ntmps240
  go_wp2_with fail
  refine ((unhide H1) _).mono ?_
  rintro e w1 ⟨rfl, hb1⟩
  have I0 := hide ((unhide HOO).go hb1)
  clear hb1
  go_wp2
  go_loopw [3, 10] (fun ov kv wr => ∃ (k : Nat) (k1 : List Bool) (r1 : List It), k ≤ qs.length ∧ kv = .int .i64 k ∧ Outs w0 wr ov (outs ++ k1) ∧ Hid (seqE E (qs.take k) (v.drop outs.length) = some (k1, r1))) (fun _ kv _ => qs.length - (intOf kv).toNat)
  case atStart => exact ⟨0, [], _, Nat.zero_le _, rfl, by rw [List.append_nil]; exact unhide I0, rfl⟩
  case round =>
    obtain ⟨k, k1, r1, hk, rfl, hor, hst⟩ := hrel
    have HOR := hide hor
    clear I0 hor
    by_cases hkN : k < qs.length
    · obtain ⟨q, hq⟩ : ∃ q, qs[k]? = some q := ⟨_, List.getElem?_eq_getElem hkN⟩
      have hqm : q ∈ qs := List.mem_of_getElem? hq
      obtain ⟨k2, r2, hE2, hst2⟩ := seqE_one (unhide HE) hq (unhide hst)
      obtain ⟨h1, h2⟩ := seqE_heads (E := E) (qs.take k) (fun q' hq' => unhide HEH q' (List.mem_of_mem_take hq')) _ _ _ (unhide hst)
      rw [List.drop_drop] at h1
      have HE2 : Hid (E q (v.drop (outs ++ k1).length) = some (k2, r2)) := by rw [List.length_append, ← h1]; exact hE2
      have HST2 := hide hst2
      have HQ := hide hq
      clear h1 h2 hE2 hst2 hq hst
      go_wp2_with fail
      refine ((unhide H2) k q _ (unhide HQ)).mono ?_
      rintro e w2 ⟨rfl, hb2⟩
      have hor2 := hide ((unhide HOR).go hb2)
      clear hb2
      go_wp2_with fail
      refine ((unhide H3) q _ _ _ _ _ hqm (unhide hor2) (unhide HE2)).mono ?_
      rintro e w3 ⟨O3, rfl, ho3⟩
      have HO3 := hide ho3
      clear ho3
      go_wp2
      go_roundw
      case rel => exact ⟨k + 1, k1 ++ k2, r2, by omega, by go_num, by rw [← List.append_assoc]; exact unhide HO3, unhide HST2⟩
      case measure => simp [intOf]; omega
    · obtain rfl : k = qs.length := by omega
      have e1 : k1 = ks := by
        have h := unhide hst
        rw [List.take_length, unhide HE] at h
        cases h
        rfl
      subst e1
      go_wp2
      go_ret
      exact ⟨_, rfl, unhide HOR⟩

set_option maxRecDepth 100000 in
set_option maxHeartbeats 1000000 in
theorem texts_leaf (s : ByteArray) (p b off cap : Nat) (O : Value) (v : List It) (outs : List Bool) (N : Int) (t : Bool) (w0 w : World) (hp : p < s.size) (hO : Outs w0 w O outs) (hol : outs.length < v.length) (hn : v.length ≤ 9000000000000) (f0 : w.cell? ⟨b, off + outs.length * 2, none⟩ = some (.int .i64 N)) (t1 : ((((s[p]).toNat : Nat) : Int) == 97) = false) (t2 : ((((s[p]).toNat : Nat) : Int) == 114) = false) (t3 : ((((s[p]).toNat : Nat) : Int) == 115) = t) (t4 : ((((s[p]).toNat : Nat) : Int) == 117) = false) (t5 : ((((s[p]).toNat : Nat) : Int) == 113) = false) :
    Calls Tryz.prog 240 #[.string s, .int .i64 p, .slice (some ⟨b, off, none⟩) v.length cap, O] w fun e w' => ∃ O', e = .returned O' ∧ Outs w0 w' O' (outs ++ [t]) := by
  obtain ⟨oa, ocap, rfl⟩ := hO.shape
  have HOO := hide hO
  have how := hO.own
  have hbz := hO.below.size
  clear hO
  generalize hol' : outs.length = m at *
  have HM := hide hol'
  clear hol'
  obtain ⟨i0, hi, hz0, hz1, hz2⟩ := info_parts info4
  go_enter Tryz.func240, Tryz.ntmps240
  go_wp2_with (at_builtin; refine wpList_append_own_at _ rfl (.tmp 46) (.tmp 51) 59 rfl w0.heap.size 4 i0 (.bool false) 1 1 Tryz.underlying59 hi hz0 hz1 hz2 rfl (by decide) _ m (outs.map Value.bool) rfl (by exact how.alloc _) ⟨w.heap.size, 0, none⟩ 1 1 [.bool t] rfl rfl (by exact cell_one_new _ _ _) (by intro u hu; simp at hu; subst hu; rfl) (by unfold maxLen; omega) (by omega) (by simp; omega) ?_)
  intro O1 w1 hown hgrow _ _
  have HO1 : Hid (Outs w0 w1 O1 (outs ++ [t])) := by
    refine ⟨?_, ((unhide HOO).below.alloc (by omega) _).grown hgrow (by simp; omega) (fun k hk => (how.lt k hk).1)⟩
    rw [List.length_append, List.map_append, unhide HM]
    exact hown
  clear hown hgrow how f0
  go_wp2
  refine wp_loop_rounds 1 ?_
  rw [rounds_succ]
  go_wp2
  go_ret
  exact ⟨_, rfl, unhide HO1⟩

set_option maxRecDepth 100000 in
set_option maxHeartbeats 1000000 in
theorem texts_u (s : ByteArray) (p b off cap : Nat) (O : Value) (v : List It) (outs : List Bool) (N : Int) (t : Bool) (w0 w : World) (hp : p < s.size) (hO : Outs w0 w O outs) (hol : outs.length < v.length) (hn : v.length ≤ 9000000000000) (f0 : w.cell? ⟨b, off + outs.length * 2, none⟩ = some (.int .i64 N)) (t1 : ((((s[p]).toNat : Nat) : Int) == 97) = false) (t2 : ((((s[p]).toNat : Nat) : Int) == 114) = false) (t3 : ((((s[p]).toNat : Nat) : Int) == 115) = t) (t4 : ((((s[p]).toNat : Nat) : Int) == 117) = true) (q : Nat) (k2 : List Bool) (HP : ∀ w, Calls Tryz.prog 244 #[.string s, .int .i64 p, .int .i64 N] w fun e w' => e = .returned (.int .i64 q) ∧ Below w.heap.size w w')
    (HV : ∀ (O' : Value) w', Outs w0 w' O' (outs ++ [t]) → Calls Tryz.prog 240 #[.string s, .int .i64 q, .slice (some ⟨b, off, none⟩) v.length cap, O'] w' fun e w'' => ∃ O'', e = .returned O'' ∧ Outs w0 w'' O'' (outs ++ [t] ++ k2)) :
    Calls Tryz.prog 240 #[.string s, .int .i64 p, .slice (some ⟨b, off, none⟩) v.length cap, O] w fun e w' => ∃ O', e = .returned O' ∧ Outs w0 w' O' (outs ++ [t] ++ k2) := by
  have HPP := hide HP
  have HVV := hide HV
  clear HP HV
  obtain ⟨oa, ocap, rfl⟩ := hO.shape
  have HOO := hide hO
  have how := hO.own
  have hbz := hO.below.size
  clear hO
  generalize hol' : outs.length = m at *
  have HM := hide hol'
  clear hol'
  obtain ⟨i0, hi, hz0, hz1, hz2⟩ := info_parts info4
  go_enter Tryz.func240, Tryz.ntmps240
  go_wp2_with (at_builtin; refine wpList_append_own_at _ rfl (.tmp 46) (.tmp 51) 59 rfl w0.heap.size 4 i0 (.bool false) 1 1 Tryz.underlying59 hi hz0 hz1 hz2 rfl (by decide) _ m (outs.map Value.bool) rfl (by exact how.alloc _) ⟨w.heap.size, 0, none⟩ 1 1 [.bool t] rfl rfl (by exact cell_one_new _ _ _) (by intro u hu; simp at hu; subst hu; rfl) (by unfold maxLen; omega) (by omega) (by simp; omega) ?_)
  intro O1 w1 hown hgrow _ _
  have HO1 : Hid (Outs w0 w1 O1 (outs ++ [t])) := by
    refine ⟨?_, ((unhide HOO).below.alloc (by omega) _).grown hgrow (by simp; omega) (fun k hk => (how.lt k hk).1)⟩
    rw [List.length_append, List.map_append, unhide HM]
    exact hown
  clear hown hgrow how f0
  go_wp2_with fail
  refine ((unhide HPP) _).mono ?_
  rintro e w2 ⟨rfl, hb2⟩
  have HO2 := hide ((unhide HO1).go hb2)
  clear hb2
  go_wp2_with fail
  refine ((unhide HVV) _ _ (unhide HO2)).mono ?_
  rintro e w3 ⟨O3, rfl, ho3⟩
  have HO3 := hide ho3
  clear ho3
  go_wp2
  go_ret
  exact ⟨_, rfl, unhide HO3⟩

set_option maxRecDepth 100000 in
set_option maxHeartbeats 1000000 in
theorem texts_q (s : ByteArray) (p b off cap : Nat) (O : Value) (v : List It) (outs : List Bool) (N : Int) (t : Bool) (w0 w : World) (hp : p < s.size) (hO : Outs w0 w O outs) (hol : outs.length < v.length) (hn : v.length ≤ 9000000000000) (f0 : w.cell? ⟨b, off + outs.length * 2, none⟩ = some (.int .i64 N)) (t1 : ((((s[p]).toNat : Nat) : Int) == 97) = false) (t2 : ((((s[p]).toNat : Nat) : Int) == 114) = false) (t3 : ((((s[p]).toNat : Nat) : Int) == 115) = t) (E : Nat → List It → Eaten) (ks : List Bool) (r : List It) (hEh : Heads (E (p + 2))) (hE : seqE E (List.replicate N.toNat (p + 2)) (v.drop (outs ++ [t]).length) = some (ks, r)) (hN0 : 0 ≤ N) (hN9 : N ≤ 9) (hpl : p ≤ 40) (t4 : ((((s[p]).toNat : Nat) : Int) == 117) = false) (t5 : ((((s[p]).toNat : Nat) : Int) == 113) = true)
    (HV : ∀ (O' : Value) (outs' k2 : List Bool) (r2 : List It) w', Outs w0 w' O' outs' → E (p + 2) (v.drop outs'.length) = some (k2, r2) → Calls Tryz.prog 240 #[.string s, .int .i64 ((p : Int) + 2), .slice (some ⟨b, off, none⟩) v.length cap, O'] w' fun e w'' => ∃ O'', e = .returned O'' ∧ Outs w0 w'' O'' (outs' ++ k2)) :
    Calls Tryz.prog 240 #[.string s, .int .i64 p, .slice (some ⟨b, off, none⟩) v.length cap, O] w fun e w' => ∃ O', e = .returned O' ∧ Outs w0 w' O' (outs ++ [t] ++ ks) := by
  have HVV := hide HV
  have HEH := hide hEh
  have HE := hide hE
  clear HV hEh hE
  obtain ⟨oa, ocap, rfl⟩ := hO.shape
  have HOO := hide hO
  have how := hO.own
  have hbz := hO.below.size
  clear hO
  generalize hol' : outs.length = m at *
  have HM := hide hol'
  clear hol'
  obtain ⟨i0, hi, hz0, hz1, hz2⟩ := info_parts info4
  go_enter Tryz.func240, Tryz.ntmps240
  go_wp2_with (at_builtin; refine wpList_append_own_at _ rfl (.tmp 46) (.tmp 51) 59 rfl w0.heap.size 4 i0 (.bool false) 1 1 Tryz.underlying59 hi hz0 hz1 hz2 rfl (by decide) _ m (outs.map Value.bool) rfl (by exact how.alloc _) ⟨w.heap.size, 0, none⟩ 1 1 [.bool t] rfl rfl (by exact cell_one_new _ _ _) (by intro u hu; simp at hu; subst hu; rfl) (by unfold maxLen; omega) (by omega) (by simp; omega) ?_)
  intro O1 w1 hown hgrow _ _
  have HO1 : Hid (Outs w0 w1 O1 (outs ++ [t])) := by
    refine ⟨?_, ((unhide HOO).below.alloc (by omega) _).grown hgrow (by simp; omega) (fun k hk => (how.lt k hk).1)⟩
    rw [List.length_append, List.map_append, unhide HM]
    exact hown
  clear hown hgrow how f0
  go_wp2
  go_loopw [3, 12] (fun ov kv wr => ∃ (k : Nat) (k1 : List Bool) (r1 : List It), k ≤ N.toNat ∧ kv = .int .i64 k ∧ Outs w0 wr ov (outs ++ [t] ++ k1) ∧ Hid (seqE E (List.replicate k (p + 2)) (v.drop (outs ++ [t]).length) = some (k1, r1))) (fun _ kv _ => N.toNat - (intOf kv).toNat)
  case atStart => exact ⟨0, [], _, Nat.zero_le _, rfl, by rw [List.append_nil]; exact unhide HO1, rfl⟩
  case round =>
    obtain ⟨k, k1, r1, hk, rfl, hor, hst⟩ := hrel
    have HOR := hide hor
    clear HO1 hor
    by_cases hkN : k < N.toNat
    · have hkI : (k : Int) < N := by omega
      have hq : (List.replicate N.toNat (p + 2))[k]? = some (p + 2) := by rw [List.getElem?_replicate, if_pos hkN]
      have hst' : seqE E ((List.replicate N.toNat (p + 2)).take k) (v.drop (outs ++ [t]).length) = some (k1, r1) := by
        rw [List.take_replicate, Nat.min_eq_left hk]; exact unhide hst
      obtain ⟨k2, r2, hE2, hst2⟩ := seqE_one (unhide HE) hq hst'
      rw [List.take_replicate, Nat.min_eq_left (by omega)] at hst2
      obtain ⟨h1, h2⟩ := seqE_heads (E := E) (List.replicate k (p + 2)) (fun q' hq' => by rw [(List.mem_replicate.1 hq').2]; exact unhide HEH) _ _ _ (unhide hst)
      rw [List.drop_drop] at h1
      have HE2 : Hid (E (p + 2) (v.drop (outs ++ [t] ++ k1).length) = some (k2, r2)) := by rw [List.length_append, ← h1]; exact hE2
      have HST2 := hide hst2
      clear h1 h2 hE2 hst2 hq hst hst'
      go_wp2_with fail
      refine ((unhide HVV) _ _ _ _ _ (unhide HOR) (unhide HE2)).mono ?_
      rintro e w3 ⟨O3, rfl, ho3⟩
      have HO3 := hide ho3
      clear ho3
      go_wp2
      go_roundw
      case rel => exact ⟨k + 1, k1 ++ k2, r2, by omega, by go_num, by rw [← List.append_assoc]; exact unhide HO3, unhide HST2⟩
      case measure => simp [intOf]; omega
    · obtain rfl : k = N.toNat := by omega
      have hkI : ¬ ((N.toNat : Nat) : Int) < N := by omega
      have e1 : k1 = ks := by
        have h := unhide hst
        rw [unhide HE] at h
        cases h
        rfl
      subst e1
      go_wp2
      go_ret
      exact ⟨_, rfl, by simpa using unhide HOR⟩

theorem eat_some {g : Nat → Nat} {f p : Nat} {v : List It} {ks : List Bool} {r : List It} (h : eat g (f + 1) p v = some (ks, r)) : ∃ k0 qs r0 k, headOf g f p v = some (k0, qs, r0) ∧ seqE (eat g f) qs r0 = some (k, r) ∧ ks = k0 ++ k := by
  simp only [eat] at h
  cases hh : headOf g f p v with
  | none => rw [hh] at h; cases h
  | some e =>
    obtain ⟨k0, qs, r0⟩ := e
    rw [hh] at h
    simp only at h
    cases hs : seqE (eat g f) qs r0 with
    | none => rw [hs] at h; cases h
    | some e' =>
      obtain ⟨k, r'⟩ := e'
      rw [hs] at h
      simp only [joinE, Option.some.injEq, Prod.mk.injEq] at h
      obtain ⟨rfl, rfl⟩ := h
      exact ⟨k0, qs, r0, k, rfl, hs, rfl⟩

theorem texts_any (s : ByteArray) (V : Value) (v : List It) (w0 : World) (hs : s.size ≤ 40) (hn : v.length ≤ 9000000000000) (hI : Items w0 V v) : ∀ f, TextsSaid s V v w0 f := by
  intro f
  induction f with
  | zero => intro p O outs ks r w ho; have := ho.fuel; omega
  | succ f ih =>
    intro p O outs ks r w ho hO hE
    have hp := ho.lt
    obtain ⟨k0, qs, r0, k, hh, hs', rfl⟩ := eat_some hE
    by_cases h97 : nx s p = 97
    · have hsub : p + 1 < s.size ∧ 49 ≤ nx s (p + 1) ∧ nx s (p + 1) ≤ 57 ∧ Okp s f (p + 2) := by
        rcases okp_cases ho with (h | h | h | h) | ⟨h, _⟩ | ⟨h, h1, h2, h3, h4⟩ | ⟨h, _⟩ | h
        · omega
        · omega
        · omega
        · omega
        · omega
        · exact ⟨h1, h2, h3, h4⟩
        · omega
        · have := h.here; omega
      have hx : headOf (nx s) f p (v.drop outs.length) = some ([], List.replicate (nx s (p + 1) - 48) (p + 2), v.drop outs.length) := by simp [headOf, h97]
      rw [hx] at hh
      cases hh
      rw [List.nil_append]
      refine texts_a s p V O v (eat (nx s) f) _ outs k r w0 w hp (by simp; omega) hO (fun q _ => eat_heads _ _ _) hs' (fun w' => ?_) (fun k q w' hq => ?_) (fun q O' outs' k2 r2 w' hq ho' he' => ?_) (by rw [byte_fact hp h97]; rfl)
      · have h := inner_a s p w' hsub.1 h97 (by omega) hs
        rw [List.length_replicate, show ((nx s (p + 1) - 48 : Nat) : Int) = (nx s (p + 1) : Int) - 48 by omega]
        exact h
      · have h := within_a s p k w' hp h97 hs
        obtain rfl : q = p + 2 := (List.mem_replicate.1 (List.mem_of_getElem? hq)).2
        exact h
      · obtain rfl : q = p + 2 := (List.mem_replicate.1 hq).2
        exact ih (p + 2) O' outs' k2 r2 w' hsub.2.2.2 ho' he'
    by_cases h114 : nx s p = 114
    · have hl : Okl s f p := ⟨Or.inl h114, ho⟩
      have hkl := kids_len (nx s) f p
      have hx : headOf (nx s) f p (v.drop outs.length) = some ([], Pt.kids (nx s) f p, v.drop outs.length) := by simp [headOf, h114]
      rw [hx] at hh
      cases hh
      rw [List.nil_append]
      refine texts_r s p V O v (eat (nx s) f) _ outs k r w0 w hp (by omega) hO (fun q _ => eat_heads _ _ _) hs' (fun w' => inner_r s f p w' hl hs) (fun k q w' hq => ?_) (fun q O' outs' k2 r2 w' hq ho' he' => ih q O' outs' k2 r2 w' (okl_kids hl q hq).2 ho' he') (by rw [← nx_in hp]; simp; omega) (by rw [byte_fact hp h114]; rfl)
      have hkl2 : k < (Pt.kids (nx s) f p).length := by
        rcases Nat.lt_or_ge k (Pt.kids (nx s) f p).length with h | h
        · exact h
        · rw [List.getElem?_eq_none h] at hq; cases hq
      have h := within_r s f p k w' hl hs (by omega)
      have hpo : partOf (Pt.kids (nx s) f p) (k : Int) = q := by
        unfold partOf
        rw [if_pos (by omega), Int.toNat_natCast, hq]
        rfl
      rw [hpo] at h
      exact h
    have t1 : ((((s[p]).toNat : Nat) : Int) == 97) = false := by rw [← nx_in hp]; simp; omega
    have t2 : ((((s[p]).toNat : Nat) : Int) == 114) = false := by rw [← nx_in hp]; simp; omega
    have hol : outs.length < v.length := by
      rcases Nat.lt_or_ge outs.length v.length with h | h
      · exact h
      · rw [List.drop_eq_nil_of_le h] at hh
        simp [headOf, h97, h114] at hh
    obtain ⟨x, hx⟩ : ∃ x, v[outs.length]? = some x := ⟨_, List.getElem?_eq_getElem hol⟩
    have hdr : v.drop outs.length = x :: v.drop (outs.length + 1) := by
      rw [List.drop_eq_getElem_cons hol]
      congr 1
      rw [List.getElem?_eq_getElem hol] at hx
      exact Option.some.inj hx
    obtain ⟨b, off, cap, hV, hbl, f0, _⟩ := (hI.below hO.below).at hx
    subst hV
    rw [hdr] at hh
    by_cases h115 : nx s p = 115
    · simp only [headOf, h115] at hh
      simp at hh
      obtain ⟨_, rfl, rfl, rfl⟩ := hh
      simp [seqE] at hs'
      obtain ⟨rfl, rfl⟩ := hs'
      exact texts_leaf s p b off cap O v outs x.1 true w0 w hp hO hol hn f0 t1 t2 (by rw [byte_fact hp h115]; rfl) (by rw [byte_fact hp h115]; rfl) (by rw [byte_fact hp h115]; rfl)
    have t3 : ((((s[p]).toNat : Nat) : Int) == 115) = false := by rw [← nx_in hp]; simp; omega
    simp only [headOf, h97, h114, h115, if_false] at hh
    split at hh
    · rename_i hok
      simp only [Option.some.injEq, Prod.mk.injEq] at hh
      obtain ⟨rfl, rfl, rfl⟩ := hh
      have hlen1 : (outs ++ [false]).length = outs.length + 1 := by simp
      by_cases hu : nx s p = 117
      · rw [if_pos hu] at hs'
        have hl : Okl s f p := ⟨Or.inr hu, ho⟩
        have hlo : loOf (nx s p) = 0 := by rw [hu]; rfl
        have hhi : hiOf (nx s) f p = ((Pt.kids (nx s) f p).length : Int) - 1 := by simp [hiOf, hu]
        have hkl := kids_len (nx s) f p
        obtain ⟨q, hq⟩ : ∃ q, (Pt.kids (nx s) f p)[x.1.toNat]? = some q := ⟨_, List.getElem?_eq_getElem (by omega)⟩
        have hpo : partOf (Pt.kids (nx s) f p) x.1 = q := by
          unfold partOf
          rw [if_pos (by omega), hq]
          rfl
        have hqo := okl_kids hl q (List.mem_of_getElem? hq)
        rw [hpo] at hs'
        have hs2 : eat (nx s) f q (v.drop (outs.length + 1)) = some (k, r) := by
          simp only [seqE] at hs'
          cases he : eat (nx s) f q (v.drop (outs.length + 1)) with
          | none => rw [he] at hs'; cases hs'
          | some e => rw [he] at hs'; simp [joinE] at hs'; obtain ⟨rfl, rfl⟩ := hs'; rfl
        rw [← List.append_assoc]
        refine texts_u s p b off cap O v outs x.1 false w0 w hp hO hol hn f0 t1 t2 t3 (by rw [byte_fact hp hu]; rfl) q k (fun w' => ?_) (fun O' w' ho' => ?_)
        · rw [← hpo]
          exact part_any s f p x.1 w' hl hs (by omega) (by omega)
        · exact ih q O' (outs ++ [false]) k r w' hqo.2 ho' (by rw [hlen1]; exact hs2)
      · rw [if_neg hu] at hs'
        have t4 : ((((s[p]).toNat : Nat) : Int) == 117) = false := by rw [← nx_in hp]; simp; omega
        by_cases hq : nx s p = 113
        · rw [if_pos hq] at hs'
          have hlo : loOf (nx s p) = 0 := by rw [hq]; rfl
          have hhi : hiOf (nx s) f p = (nx s (p + 1) : Int) - 48 := by simp [hiOf, hq]
          have hsub : 48 ≤ nx s (p + 1) ∧ nx s (p + 1) ≤ 57 ∧ Okp s f (p + 2) := by
            rcases okp_cases ho with (h | h | h | h) | ⟨h, _⟩ | ⟨h, _⟩ | ⟨h, h1, h2, h3, h4⟩ | h
            · omega
            · omega
            · omega
            · omega
            · omega
            · omega
            · exact ⟨h2, h3, h4⟩
            · have := h.here; omega
          rw [← List.append_assoc]
          exact texts_q s p b off cap O v outs x.1 false w0 w hp hO hol hn f0 t1 t2 t3 (eat (nx s) f) k r (eat_heads _ _ _) (by rw [hlen1]; exact hs') (by omega) (by omega) (by omega) t4 (by rw [byte_fact hp hq]; rfl) (fun O' outs' k2 r2 w' ho' he' => ih (p + 2) O' outs' k2 r2 w' hsub.2.2 ho' he')
        · rw [if_neg hq] at hs'
          simp [seqE] at hs'
          obtain ⟨rfl, rfl⟩ := hs'
          exact texts_leaf s p b off cap O v outs x.1 false w0 w hp hO hol hn f0 t1 t2 t3 t4 (by rw [← nx_in hp]; simp; omega)
    · cases hh

end Go.Proofs.YtblomippkddgiaaGreatDoor.V
