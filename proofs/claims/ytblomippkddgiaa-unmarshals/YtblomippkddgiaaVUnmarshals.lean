/-
  Proved: errandlaw.Unmarshals returns true for every two texts, of any length, and leaves its arguments as they were: the landed Unmarshal answers, items and error, what the document's own Unmarshal answers, and the lists that come out are their owner's alone. No condition.
-/
import Derived.Test.YtblomippkddgiaaVLooks
import Derived.Test.YtblomippkddgiaaVRefUn
import Derived.ProofKit
import Derived.OpenShut
import Derived.ShutString
import Derived.ChangeOld
namespace Go.Proofs.Ytblomippkddgiaa.V
open Go.ChangeShapes Go.WideShapes Go.ChangeAt Go.RowKit
open Go.ChangeMaps (open_string shut_string)

theorem bytesOf_ge : ∀ (ks : List Bool) (v : List It), ks.length = v.length → 2 * v.length ≤ (bytesOf ks v).length := by
  intro ks
  induction ks with
  | nil => intro v h; cases v with
    | nil => simp
    | cons x v => simp at h
  | cons k ks ih => intro v h; cases v with
    | nil => simp at h
    | cons x v =>
      have h1 := ih v (by simpa using h)
      have h2 : 2 ≤ (enc8 k x).length := by
        unfold enc8
        cases k with
        | false => simp [two8]
        | true => simp [two8]
      simp only [bytesOf, List.length_append, List.length_cons]
      omega

theorem u_small (s : ByteArray) (l : List UInt8) : (uFull s l).2.length ≤ 100 := by
  unfold uFull
  split
  · unfold uRes
    split
    · simp
    · rename_i hb
      have hm := mate_any (nx s) (s.size + 1) 0 l []
      cases hq : carryP rNum qTxt (nx s) (s.size + 1) 0 (l, []) with
      | none => rw [hm.1 hq]; simp
      | some x =>
        obtain ⟨l', v⟩ := x
        obtain ⟨v', ks, pre, T⟩ := hm.2 l' v hq
        have hv : v = v' := by have := T.items; simpa using this
        subst hv
        have h1 := bytesOf_ge ks v T.same
        have h2 := congrArg List.length T.bytes
        rw [List.length_append] at h2
        have h3 := T.len
        rw [T.back]
        split
        · simp
        · rename_i l2 v2 he
          split at he
          · cases he
            split
            · simp only
              omega
            · simp
          · cases he
  · simp

set_option maxRecDepth 100000 in
set_option maxHeartbeats 1000000 in
theorem unms_any (w0 w : World) (b : Nat) (L : List Kp) (K : Value) (s : ByteArray) (l : List UInt8) (hBk : Bk w0 b L K w) (hL : L.length ≤ 50) :
    Calls Try.prog 16 #[.pointer (some ⟨b, 0, none⟩), .string s, .string (str l)] w fun e w' => e = .returned (.bool true) ∧ ∃ K' k, Bk w0 b (L ++ [k]) K' w' := by
  have hsm := u_small s l
  have H1 := hide (unmarshal_any s l w)
  have H2 := hide (fun w => refUn_any s l w)
  generalize uFull s l = res at *
  obtain ⟨er, v⟩ := res
  simp only at hsm
  generalize str l = S at *
  have HBK := hide hBk
  have hbl := lt_of_block hBk.cell
  have HKL := hide (fun j hj => (hBk.row.lt j hj).2)
  clear hBk
  go_enter Try.func16, Try.ntmps16
  go_wp2_with fail
  refine (unhide H1).mono ?_
  rintro e w1 ⟨O, rfl, hr1, hb1⟩
  have R1 := hide hr1
  have B1 := hide hb1
  obtain ⟨oa, on, oc, ho⟩ := row_shape hr1
  subst ho
  clear hr1 hb1
  go_wp2_with fail
  refine ((unhide H2) _).mono ?_
  rintro e w2 ⟨O2, rfl, hr2, hb2⟩
  obtain ⟨pa, pn, pc, ho2⟩ := row_shape hr2
  subst ho2
  have R2 := hide (row_below' (unhide R1) hb2)
  have B2 := hide ((unhide B1).trans (hb2.mono (unhide B1).size))
  have HS := hide (same_any w2 _ _ v (row_items (unhide R2)) (row_items hr2) (by omega))
  clear hr2 hb2
  go_wp2_with fail
  refine (unhide HS).mono ?_
  rintro e w3 ⟨rfl, hb3⟩
  have R3 := hide (row_below' (unhide R2) hb3)
  have B3 := hide ((unhide B2).trans (hb3.mono (unhide B2).size))
  have HT := hide (take_any w0 w3 b w.heap.size L K (.slice oa on oc) v ((unhide HBK).go (unhide B3)) (unhide R3) (unhide HBK).below.size (unhide B3).size (by omega) (by omega) (fun j hj => by
    have h1 := ((unhide R3).lt j hj).1
    refine ⟨by omega, fun e => ?_, fun k hk t ht e => ?_⟩
    · have := (unhide HKL) j e
      omega
    · obtain ⟨⟨B, hm⟩, _⟩ := ((unhide HBK).good k hk).2 t ht
      have := (hm.lt j e).2
      omega))
  clear hb3
  go_wp2_with (go_at_call 10; go_in)
  refine (unhide HT).mono ?_
  rintro e w4 ⟨rfl, K', k, hbk⟩
  have HBK4 := hide hbk
  clear hbk
  go_wp2
  go_ret
  exact ⟨rfl, _, _, unhide HBK4⟩

theorem first_un : uFull ⟨#[115]⟩ [0, 1, 97, 0] = (0, [(0, str [97])]) := by decide +kernel

set_option maxRecDepth 100000 in
set_option maxHeartbeats 1000000 in
theorem ulaw_any (s : ByteArray) (l : List UInt8) (w : World) : Calls Try.prog 5 #[.string s, .string (str l)] w fun e w' => e = .returned (.bool true) ∧ Below w.heap.size w w' := by
  have H1 := hide (unmarshal_any ⟨#[115]⟩ [0, 1, 97, 0] w)
  rw [first_un] at H1
  have H2 := hide (fun w0 w b L K hBk hL => unms_any w0 w b L K s l hBk hL)
  generalize str l = S at *
  go_enter Try.func5, Try.ntmps5
  go_wp2_with fail
  refine (unhide H1).mono ?_
  rintro e w1 ⟨O, rfl, hr1, hb1⟩
  obtain ⟨hrl, hr2⟩ := id hr1
  rcases hr2 with ⟨_, h0⟩ | ⟨g, cap, cur, rfl, hbg, hg, hc, _⟩
  · simp at h0
  simp only [List.length_singleton] at hr1 hc
  have c1 : w1.cell? ⟨g, 1, none⟩ = some (.string (str [97])) := hr1.cells (g := g) rfl 1 _ rfl
  have hgl := lt_of_block hg
  have R1 := hide hr1
  have B1 := hide hb1
  clear hr1 hb1 hg hrl
  go_wp2_with (go_at_call 10; go_in)
  have b1 := (unhide B1).alloc (unhide B1).size (.cells #[.slice none 0 0] 38)
  have hbk1 : Bk w w1.heap.size [] (.slice none 0 0) (w1.alloc (.cells #[.slice none 0 0] 38)) := by
    refine ⟨?_, World.ownsRow_nil _ _ _ _, (unhide B1).size, by simp [Value.ownBlock], b1, fun k hk => by simp at hk⟩
    show ((w1.heap.push _)[w1.heap.size]?) = _
    rw [Array.getElem?_push_size]
  have hr2 : (w1.alloc (.cells #[.slice none 0 0] 38)).ownsRow w.heap.size 31 2 (.slice (some ⟨g, 0, none⟩) 1 cap) 1 (flat [(0, str [97])]) := row_below' (unhide R1) ((Below.refl _ _).alloc (Nat.le_refl _) _)
  refine (take_any w _ w1.heap.size w.heap.size [] (.slice none 0 0) (.slice (some ⟨g, 0, none⟩) 1 cap) [(0, str [97])] hbk1 hr2 (Nat.le_refl _) b1.size (by simp) (by simp) (fun j hj => ⟨?_, by simp [Value.ownBlock], fun k hk => by simp at hk⟩)).mono ?_
  · have : g = j := by simpa [Value.ownBlock] using hj
    omega
  rintro e w2 ⟨rfl, K2, k2, hbk2⟩
  have H3 := hide ((unhide H2) w w2 w1.heap.size _ K2 hbk2 (by simp))
  clear hbk1 hr2 b1 hbk2
  go_wp2_with fail
  refine (unhide H3).mono ?_
  rintro e w3 ⟨rfl, K3, k3, hbk3⟩
  have B3 := hide hbk3.below
  have H4 := hide (looks_any w w3 w1.heap.size _ K3 hbk3 (by simp))
  clear hbk3
  go_wp2_with fail
  refine (unhide H4).mono ?_
  rintro e w4 ⟨rfl, hb4⟩
  have HE := hide ((unhide B3).trans (hb4.mono (unhide B3).size))
  clear hb4
  go_wp2
  go_ret
  exact ⟨rfl, unhide HE⟩

theorem unmarshals_own : ownKnob Try.prog.godebug = none := by kernel_rfl

theorem str_of (s : ByteArray) : str s.data.toList = s := by
  apply ByteArray.ext
  simp

set_option maxRecDepth 100000 in
theorem unmarshals_lifted (os : Os) (started : os.Started) (H : Type) (enc : TypeId × Value → H) :
    ReturnsInHanded {} Try.checked os 5 .any (Rows.unmarshalsSpec.pre6 enc Try.prog Try.f5 Rows.unmarshalsRow.domain false) (Rows.unmarshalsSpec.post enc Try.prog Try.f5 false true false false) := by
  refine returnsInHanded_of_change (C := Try.checked) unmarshals_own started (by kernel_rfl) Try.func5
    (ChangeSpec.witness6 (enc := enc) (C := Try.checked) false ⟨#[], #[.string { data := #[] }, .string { data := #[] }], []⟩ 8 (by kernel_rfl) (by kernel_rfl) (by kernel_rfl) (by kernel_rfl)) ?_
  intro W base args ds gs before hval0 hW _ _
  have hval : ∀ (j : Nat) t v, Try.f5.params[j]? = some t → args[j]? = some v → Value.okWide Try.prog W .any base t v := hval0
  have hW' := hW
  obtain ⟨p, q, hA0, hV, rfl, hfz, hnd⟩ := hW
  have hA : DataW.TrodAll enc Try.prog W 0 (fun _ => true) true Try.f5.params.toList args.toList ds p := hA0
  rw [Try.params5] at hA hval
  obtain ⟨v0, v1, d0, d1, p0, p1, rfl, rfl, rfl, h0, h1⟩ := trodAll_two hA
  obtain ⟨rfl, rfl⟩ := trodVars_none hV
  obtain ⟨s, rfl, rfl, rfl, hs⟩ := open_string Try.underlying9 (hval 0 9 v0 rfl rfl) h0
  obtain ⟨t, rfl, rfl, rfl, ht⟩ := open_string Try.underlying9 (hval 1 9 v1 rfl rfl) h1
  clear hA0 hval0
  simp only [List.append_nil] at hW'
  have hlaw := ulaw_any s t.data.toList W
  rw [str_of] at hlaw
  refine hlaw.mono fun e W' ⟨he, bel⟩ => ?_
  subst he
  exact ⟨_, rfl, _, _, _, [], [], [], hW', trodAll_mk1 (shut_bool Try.underlying4 _), trodAll_mk2 (shut_string Try.underlying9 hs) (shut_string Try.underlying9 ht), rfl, bel.frame _, fun h => by cases h⟩

theorem unmarshals_holds : Rows.UnmarshalsSaid :=
  OpenClaim.holds_of_wide 5 Try.f5 rfl rfl rfl rfl rfl rfl rfl ⟨rfl, rfl, rfl, rfl, rfl⟩ rfl rfl rfl rfl rfl (by kernel_rfl) Try.func5 (by kernel_rfl)
    (of_decide_eq_true (by kernel_rfl)) (by unfold Func.isWrapper; first | (rw [if_pos (by decide +kernel)]; kernel_rfl) | (rw [if_neg (by decide +kernel)]; exact ⟨rfl, rfl⟩))
    (fun os started H enc _ => unmarshals_lifted os started H enc)
#print axioms unmarshals_holds
end Go.Proofs.Ytblomippkddgiaa.V
