/-
  For every text and every list of items: the landed Marshal answers the document's bytes and error, leaves the list that was lent as it was, its spare room too ('errandlaw.Marshals', MarshalsSaid). No condition.
-/
import Derived.Test.YtblomippkddgiaaVWhole
import Derived.Deep.SlicePairs
import Derived.SizedLaws
import Derived.Carry
import Derived.ProofKit
import Derived.OpenShut
import Derived.ShutString
import Derived.ChangeOld
namespace Go.Proofs.Ytblomippkddgiaa.V
open Go.RowKit
open Go.ChangeShapes Go.WideShapes Go.ChangeAt
open Go.ChangeMaps (open_string shut_string)

set_option maxRecDepth 100000 in
set_option maxHeartbeats 1000000 in
theorem marshals_walk (s : ByteArray) (V O : Value) (r : Nat × List UInt8) (w : World) (I : World → Prop)
    (H1 : Calls Try.prog 35 #[V] w fun e w' => e = .returned O ∧ I w')
    (H2 : ∀ w1, I w1 → Calls Try.prog 12 #[.string s, O] w1 fun e w' => e = mEnd r ∧ I w')
    (H3 : ∀ w1, I w1 → Calls Try.prog 36 #[.string s, V] w1 fun e w' => e = mEnd r ∧ I w')
    (H4 : ∀ w1, I w1 → Calls Try.prog 37 #[O, V] w1 fun e w' => e = .returned (.bool true) ∧ Below w.heap.size w w') :
    Calls Try.prog 13 #[.string s, V] w fun e w' => e = .returned (.bool true) ∧ Below w.heap.size w w' := by
  obtain ⟨n, bs⟩ := r
  simp only [mEnd] at H2 H3
  generalize (⟨bs.toArray⟩ : ByteArray) = B at *
  have K1 := hide H1
  have K2 := hide H2
  have K3 := hide H3
  have K4 := hide H4
  clear H1 H2 H3 H4
  go_enter Try.func13, Try.ntmps13
  go_wp2_with fail
  refine (unhide K1).mono ?_
  rintro e w1 ⟨rfl, h1⟩
  have J2 := hide ((unhide K2) w1 h1)
  go_wp2_with fail
  refine (unhide J2).mono ?_
  rintro e w2 ⟨rfl, h2⟩
  have J3 := hide ((unhide K3) w2 h2)
  go_wp2_with fail
  refine (unhide J3).mono ?_
  rintro e w3 ⟨rfl, h3⟩
  have J4 := hide ((unhide K4) w3 h3)
  go_wp2_with fail
  refine (unhide J4).mono ?_
  rintro e w4 ⟨rfl, h4⟩
  go_wp2_with (go_at_call 10; go_in)
  go_ret
  exact ⟨rfl, h4⟩

theorem marshals_any (s : ByteArray) (V : Value) (v : List It) (w : World) (hI : Items w V v) (hn : v.length ≤ 9000000000000) (hz : ∀ n cap, V = .slice none n cap → cap = 0) :
    Calls Try.prog 13 #[.string s, V] w fun e w' => e = .returned (.bool true) ∧ Below w.heap.size w w' := by
  obtain ⟨a, cap, rfl, hc, hx⟩ := id hI
  cases a with
  | none =>
    have hv : v = [] := by
      rcases hx with h | ⟨b, off, h, _⟩
      · exact h
      · cases h
    subst hv
    have hc0 := hz _ _ rfl
    subst hc0
    refine marshals_walk s _ (.slice none 0 0) (mRes s []) w (fun w' => Below w.heap.size w w') ?_ ?_ ?_ ?_
    · refine (lend_nil _ _ w).mono ?_
      rintro e w' ⟨rfl, rfl⟩
      exact ⟨rfl, Below.refl _ _⟩
    · intro w1 hb
      refine (marshal_any s _ [] w1 (hI.below hb) (by simp)).mono ?_
      rintro e w' ⟨rfl, hb2⟩
      exact ⟨rfl, hb.trans (hb2.mono hb.size)⟩
    · intro w1 hb
      refine (refMarshal_any s _ [] w1 (hI.below hb) (by simp)).mono ?_
      rintro e w' ⟨rfl, hb2⟩
      exact ⟨rfl, hb.trans (hb2.mono hb.size)⟩
    · intro w1 hb
      refine (whole_nil _ _ _ w1).mono ?_
      rintro e w' ⟨rfl, rfl⟩
      exact ⟨rfl, hb⟩
  | some ad =>
    refine marshals_walk s _ (.slice (some ⟨w.heap.size, 0, none⟩) v.length (v.length + 6)) (mRes s v) w (fun w' => Lent w' w.heap.size (v.length + 6) 0 (v ++ List.replicate 6 beyondIt) ∧ Below w.heap.size w w') ?_ ?_ ?_ ?_
    · exact lend_any w ad cap v hI hn
    · rintro w1 ⟨hL, hb⟩
      refine (marshal_any s _ v w1 (hL.items rfl (by omega)) hn).mono ?_
      rintro e w' ⟨rfl, hb2⟩
      exact ⟨rfl, hL.below hb2, hb.trans (hb2.mono hb.size)⟩
    · rintro w1 ⟨hL, hb⟩
      refine (refMarshal_any s _ v w1 (hI.below hb) hn).mono ?_
      rintro e w' ⟨rfl, hb2⟩
      exact ⟨rfl, hL.below hb2, hb.trans (hb2.mono hb.size)⟩
    · rintro w1 ⟨hL, hb⟩
      exact whole_any w w1 ad cap w.heap.size v hn hI hb (Nat.le_refl _) hL

theorem first_res : mRes ⟨#[105]⟩ [(-2, ⟨#[]⟩)] = (0, [255, 254]) := by decide +kernel
theorem first_one (w : World) : Calls Try.prog 12 #[.string ⟨#[105]⟩, .slice (some ⟨w.heap.size, 0, none⟩) 1 1] (w.alloc (.cells #[.int .i64 (-2), .string ⟨#[]⟩] 31)) fun e w' => e = .returned (.tuple #[.string ⟨#[255, 254]⟩, .int .i64 0]) ∧ Below w.heap.size w w' := by
  have hI : Items (w.alloc (.cells #[.int .i64 (-2), .string ⟨#[]⟩] 31)) (.slice (some ⟨w.heap.size, 0, none⟩) 1 1) [(-2, ⟨#[]⟩)] := by
    refine ⟨_, _, rfl, by simp, Or.inr ⟨w.heap.size, 0, rfl, by simp, fun j x hx => ?_⟩⟩
    match j, hx with
    | 0, hx =>
      simp at hx
      subst hx
      exact ⟨by simp [go_sem], by simp [go_sem]⟩
    | j + 1, hx => simp at hx
  have h := marshal_any ⟨#[105]⟩ _ _ _ hI (by simp)
  rw [first_res] at h
  refine h.mono ?_
  rintro e w' ⟨rfl, hb⟩
  exact ⟨rfl, ((Below.refl _ _).alloc (Nat.le_refl _) _).trans (hb.mono (by simp))⟩

set_option maxRecDepth 100000 in
set_option maxHeartbeats 1000000 in
theorem marshals_law (s : ByteArray) (V : Value) (w : World) (H : ∀ w', Below w.heap.size w w' → Calls Try.prog 13 #[.string s, V] w' fun e w'' => e = .returned (.bool true) ∧ Below w'.heap.size w' w'') :
    Calls Try.prog 4 #[.string s, V] w fun e w' => e = .returned (.bool true) ∧ Below w.heap.size w w' := by
  have HH := hide H
  have H1 := hide (first_one w)
  clear H
  go_enter Try.func4, Try.ntmps4
  go_wp2_with fail
  refine (unhide H1).mono ?_
  rintro e w1 ⟨rfl, hb1⟩
  have H2 := hide ((unhide HH) w1 hb1)
  go_wp2_with (first | (go_at_call 10; go_in) | (go_at_call 13; refine (unhide H2).mono ?_; rintro e w2 ⟨rfl, hb2⟩))
  go_ret
  exact ⟨rfl, hb1.trans (hb2.mono hb1.size)⟩

theorem laidOut : laidOutB Try.prog = true := by kernel_rfl

theorem struct31 : ∃ f0 f1 : Field, Try.prog.underlying 31 = some (.struct #[f0, f1]) ∧ f0.offset = 0 ∧ f1.offset = 1 ∧ f0.type = 3 ∧ f1.type = 9 := ⟨_, _, Try.underlying31, rfl, rfl, rfl, rfl⟩

theorem items_of {H : Type} {enc : TypeId × Value → H} {W : World} {v : Value} {d : DataW H} {p : List MemPlace} {a0 : Option Addr} {n0 c0 : Nat} (hv : v = .slice a0 n0 c0) (h : DataW.Trod enc Try.prog W 0 (fun _ => true) true 27 v d p) :
    (v = .slice none 0 0) ∨ ∃ (ad : Addr) (cap : Nat) (l : List It) (es sp : List (DataW H)), v = .slice (some ad) l.length cap ∧ Items W v l ∧ d = .slice es sp ∧ es.length = l.length := by
  subst hv
  obtain ⟨fuel, h⟩ := h
  simp only [Value.cells] at h
  obtain ⟨f0, f1, hs, o0, o1, t0, t1⟩ := struct31
  rcases Deep.open_slice_pairs Try.underlying27 hs (by kernel_rfl) o0 o1 (by rw [t0]; kernel_rfl) (by rw [t1]; kernel_rfl) h with ⟨h1, _⟩ | ⟨a, len, cap, m, n, V0, V1, D0, D1, P0, P1, h1, _, hl, hm, hmm, hx, hc⟩
  · left
    simpa using h1
  · right
    have hV : Value.slice a0 n0 c0 = .slice (some a) len cap := by simpa using h1
    rw [if_pos rfl] at hmm
    have each : ∀ i, i < len → ∃ x : It, V0 i = .int .i64 x.1 ∧ V1 i = .string x.2 := by
      intro i hi
      obtain ⟨_, _, g0, g1⟩ := hc i (by omega)
      rw [t0] at g0
      rw [t1] at g1
      obtain ⟨k, e0, _⟩ := DataW.trod_int Try.underlying3 g0
      obtain ⟨S, e1, _⟩ := DataW.trod_string Try.underlying9 g1
      exact ⟨(k, S), by simpa using e0, by simpa using e1⟩
    obtain ⟨X, hX⟩ : ∃ X : Nat → It, ∀ i, i < len → V0 i = .int .i64 (X i).1 ∧ V1 i = .string (X i).2 := by
      refine ⟨fun i => if h : i < len then Classical.choose (each i h) else (0, ⟨#[]⟩), fun i hi => ?_⟩
      simp only [dif_pos hi]
      exact Classical.choose_spec (each i hi)
    have hll : ((List.range len).map X).length = len := by simp
    simp only [Prod.mk.injEq] at hx
    refine ⟨a, cap, (List.range len).map X, _, _, by rw [hll]; exact hV, ?_, hx.1, by simp⟩
    rw [hV]
    refine ⟨some a, cap, by rw [hll], by rw [hll]; exact hl, ?_⟩
    by_cases h0 : len = 0
    · left
      rw [h0]
      rfl
    · right
      obtain ⟨c0', _, _, _⟩ := hc 0 (by omega)
      have hsp : a.spot = none := by
        cases hsp : a.spot with
        | none => rfl
        | some y =>
          simp only [World.cell?, Addr.add] at c0'
          split at c0'
          · simp [hsp] at c0'
          · cases c0'
      obtain ⟨b, off, spt⟩ := a
      simp only at hsp
      subst hsp
      refine ⟨b, off, rfl, lt_of_cell (o := off + 0 * 2) (v := V0 0) (by simpa [Addr.add] using c0'), fun j x hj => ?_⟩
      have hjl : j < len := by
        have := (List.getElem?_eq_some_iff.1 hj).1
        simpa using this
      have hxj : x = X j := by
        rw [List.getElem?_map, List.getElem?_range hjl] at hj
        simpa using hj.symm
      obtain ⟨e0, e1, _, _⟩ := hc j (by omega)
      obtain ⟨g0, g1⟩ := hX j hjl
      rw [g0] at e0
      rw [g1] at e1
      have had : ∀ o, (⟨b, off, none⟩ : Addr).add o = ⟨b, off + o, none⟩ := fun o => by simp [Addr.add]
      rw [had] at e0 e1
      rw [hxj]
      exact ⟨e0, e1⟩

theorem marshals_own : ownKnob Try.prog.godebug = none := by kernel_rfl
theorem bytes31 : Try.prog.bytesOf 31 = 24 := by kernel_rfl

set_option maxRecDepth 100000 in
theorem marshals_lifted (os : Os) (started : os.Started) (H : Type) (enc : TypeId × Value → H) :
    ReturnsInHanded {} Try.checked os 4 .any (Rows.marshalsSpec.pre6 enc Try.prog Try.f4 Rows.marshalsRow.domain false) (Rows.marshalsSpec.post enc Try.prog Try.f4 false true false false) := by
  refine returnsInHanded_of_change_sized (C := Try.checked) marshals_own started (by kernel_rfl) Try.func4
    (ChangeSpec.witness6 (enc := enc) (C := Try.checked) false ⟨#[], #[.string { data := #[] }, .slice none 0 0], []⟩ 8 (by kernel_rfl) (by kernel_rfl) (by kernel_rfl) (by kernel_rfl)) ?_
  intro W base args ds gs before hval0 hW _ hsz0 _
  have hval : ∀ (j : Nat) t v, Try.f4.params[j]? = some t → args[j]? = some v → Value.okWide Try.prog W .any base t v := hval0
  have hsz : (DataW.weightsEach Try.prog (Try.f4.params.toList ++ Rows.marshalsSpec.plain.varTypes Try.prog) (ds ++ gs)).all (· ≤ reachBytes) = true := hsz0
  have hW' := hW
  obtain ⟨p, q, hA0, hV, rfl, hfz, hnd⟩ := hW
  have hA : DataW.TrodAll enc Try.prog W 0 (fun _ => true) true Try.f4.params.toList args.toList ds p := hA0
  rw [Try.params4] at hA hval hsz
  obtain ⟨v0, v1, d0, d1, p0, p1, rfl, rfl, rfl, h0, h1⟩ := trodAll_two hA
  obtain ⟨rfl, rfl⟩ := trodVars_none hV
  obtain ⟨s, rfl, rfl, rfl, hs⟩ := open_string Try.underlying9 (hval 0 9 v0 rfl rfl) h0
  obtain ⟨a0, len, cap, hv1⟩ := okWide_slice Try.underlying27 (hval 1 27 v1 rfl rfl)
  clear hA0 hval0 hsz0
  simp only [List.append_nil] at hW'
  have hlt : ∀ x ∈ p1, x.block < W.heap.size := fun x hx => by simpa using hW'.lt x (by simpa using hx)
  have fin : ∀ v : List It, Items W v1 v → v.length ≤ 9000000000000 → (∀ n cap, v1 = .slice none n cap → cap = 0) → Calls Try.prog 4 #[.string s, v1] W fun e w' => e = .returned (.bool true) ∧ Below W.heap.size W w' := by
    intro v hI hn hz
    exact marshals_law s v1 W fun w' hb => marshals_any s v1 v w' (hI.below hb) hn hz
  have main : Calls Try.prog 4 #[.string s, v1] W fun e w' => e = .returned (.bool true) ∧ Below W.heap.size W w' := by
    rcases items_of hv1 h1 with h | ⟨ad, cap', l, es, sp, hv, hI, hd, hel⟩
    · refine fin [] ⟨none, 0, by rw [h]; rfl, Nat.le_refl _, Or.inl rfl⟩ (by simp) ?_
      intro n c hc
      rw [h] at hc
      cases hc
      rfl
    · refine fin l hI ?_ ?_
      · have := sized_slice (P := Try.prog) hsz (j := 1) (t := 27) (e := 31) (elems := es) (spare := sp) rfl (by rw [hd]; rfl) Try.underlying27
        rw [bytes31, hel] at this
        have hr := reachBytes_lt
        have : l.length * 24 ≤ (l.length + sp.length) * 24 := Nat.mul_le_mul_right _ (by omega)
        omega
      · intro n c hc
        rw [hv] at hc
        cases hc
  refine main.mono fun e W' ⟨he, bel⟩ => ?_
  subst he
  exact ⟨_, rfl, _, _, _, [], [] ++ p1, [], hW', trodAll_mk1 (shut_bool Try.underlying4 _), trodAll_mk2 (shut_string Try.underlying9 hs) (Below.trod laidOut (by kernel_rfl) (of_decide_eq_true (by kernel_rfl)) h1 bel hlt), rfl, bel.frame _, fun h => by cases h⟩

theorem marshals_holds : Rows.MarshalsSaid :=
  OpenClaim.holds_of_wide 4 Try.f4 rfl rfl rfl rfl rfl rfl rfl ⟨rfl, rfl, rfl, rfl, rfl⟩ rfl rfl rfl rfl rfl (by kernel_rfl) Try.func4 (by kernel_rfl)
    (of_decide_eq_true (by kernel_rfl)) (by unfold Func.isWrapper; first | (rw [if_pos (by decide +kernel)]; kernel_rfl) | (rw [if_neg (by decide +kernel)]; exact ⟨rfl, rfl⟩))
    (fun os started H enc _ => marshals_lifted os started H enc)
#print axioms marshals_holds
end Go.Proofs.Ytblomippkddgiaa.V
