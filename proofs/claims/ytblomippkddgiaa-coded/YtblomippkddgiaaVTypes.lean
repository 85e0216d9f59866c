/-
  Proved: errandlaw.Types returns true for every text, of any length, and leaves its argument as it was: the landed Check answers, error and place, what the document's own Check answers. No condition.
-/
import Derived.Test.YtblomippkddgiaaVFace
import Derived.Test.YtblomippkddgiaaVRef
import Derived.ProofKit
import Derived.OpenShut
import Derived.ShutString
import Derived.ChangeOld
import Derived.Below
namespace Go.Proofs.Ytblomippkddgiaa.V
open Go.ChangeShapes Go.WideShapes Go.ChangeAt Go.RowKit
open Go.ChangeMaps (open_string shut_string)

abbrev chkTuple (r : Nat × Nat) : Ending := .returned (.tuple #[.int .i64 r.1, .int .i64 r.2])

theorem check_any (s : ByteArray) (w : World) : Calls Try.prog 9 #[.string s] w fun e w' => e = chkTuple (Pt.chk (nx s) s.size) ∧ Below w.heap.size w w' := by
  by_cases hs : s.size ≤ 40
  · have hn : ¬ 40 < s.size := by omega
    cases hT : (Pt.ty (nx s) (s.size + 1) 0).1 with
    | false =>
      have e1 : Pt.chk (nx s) s.size = (2, (Pt.ty (nx s) (s.size + 1) 0).2) := by simp [Pt.chk, hn, hT]
      rw [e1]
      exact check_bad s w _ _ (read_wrong s (face w) hs hT)
    | true =>
      obtain ⟨_, hb, _⟩ := Pt.agree (g := nx s) (n := s.size) (fun p hp => nx_out hp) (s.size + 1) 0 0 1 0 [] (by omega) (by omega)
      obtain ⟨q1, q2⟩ := hb hT
      by_cases hq : (Pt.ty (nx s) (s.size + 1) 0).2 < s.size
      · have e1 : Pt.chk (nx s) s.size = (2, (Pt.ty (nx s) (s.size + 1) 0).2) := by simp [Pt.chk, hn, hT, hq]
        rw [e1]
        exact check_bad s w _ _ (read_more s (face w) hs hT hq)
      · have H := read_end s (face w) hs hT (by omega)
        by_cases h4 : 4 < Pt.dep (nx s) (s.size + 1) 0
        · have e1 : Pt.chk (nx s) s.size = (3, 0) := by simp [Pt.chk, hn, hT, hq, h4]
          rw [e1]
          simp only [h4, if_true] at H
          exact check_bad s w _ _ H
        · have e1 : Pt.chk (nx s) s.size = (0, 0) := by simp [Pt.chk, hn, hT, hq, h4]
          rw [e1]
          simp only [h4, if_false] at H
          refine check_good s w (H.mono ?_)
          rintro e w' ⟨⟨c0, c1, c2, h, _⟩, hb⟩
          exact ⟨⟨c0, c1, c2, h⟩, hb⟩
  · have e1 : Pt.chk (nx s) s.size = (1, 0) := by
      have : 40 < s.size := by omega
      simp [Pt.chk, this]
    rw [e1]
    exact check_bad s w _ _ (read_long s (face w) hs)

theorem ref_any (s : ByteArray) (w : World) : Calls Try.prog 32 #[.string s] w fun e w' => e = chkTuple (Pt.chk (nx s) s.size) ∧ Below w.heap.size w w' := by
  by_cases hs : s.size ≤ 40
  · have h := ref_short s w hs
    rw [Pt.run_chk (fun p hp => nx_out hp) hs] at h
    exact h
  · have e1 : Pt.chk (nx s) s.size = (1, 0) := by
      have : 40 < s.size := by omega
      simp [Pt.chk, this]
    rw [e1]
    exact ref_long s w hs

theorem chk_one : Pt.chk (nx { data := #[114, 40, 101, 51, 113, 51, 105, 41] }) 8 = (0, 0) := by decide +kernel
theorem chk_two : Pt.chk (nx { data := #[114, 40, 98, 98, 98, 98, 98, 98, 98, 41] }) 10 = (2, 8) := by decide +kernel
theorem check_one (w : World) : Calls Try.prog 9 #[.string { data := #[114, 40, 101, 51, 113, 51, 105, 41] }] w fun e w' => e = .returned (.tuple #[.int .i64 0, .int .i64 0]) ∧ Below w.heap.size w w' := by
  have h := check_any { data := #[114, 40, 101, 51, 113, 51, 105, 41] } w
  rw [show ({ data := #[114, 40, 101, 51, 113, 51, 105, 41] } : ByteArray).size = 8 from rfl, chk_one] at h
  exact h
theorem check_two (w : World) : Calls Try.prog 9 #[.string { data := #[114, 40, 98, 98, 98, 98, 98, 98, 98, 41] }] w fun e w' => e = .returned (.tuple #[.int .i64 2, .int .i64 8]) ∧ Below w.heap.size w w' := by
  have h := check_any { data := #[114, 40, 98, 98, 98, 98, 98, 98, 98, 41] } w
  rw [show ({ data := #[114, 40, 98, 98, 98, 98, 98, 98, 98, 41] } : ByteArray).size = 10 from rfl, chk_two] at h
  exact h

set_option maxHeartbeats 400000 in
theorem types_any (s : ByteArray) (w : World) : Calls Try.prog 11 #[.string s] w fun e w' => e = .returned (.bool true) ∧ Below w.heap.size w w' := by
  have H1 := hide (fun w => check_any s w)
  have H2 := hide (fun w => ref_any s w)
  generalize Pt.chk (nx s) s.size = res at *
  obtain ⟨a, b⟩ := res
  go_enter Try.func11, Try.ntmps11
  go_wp2_with fail
  refine ((unhide H1) _).mono ?_
  rintro e w1 ⟨rfl, hb1⟩
  go_wp2_with fail
  refine ((unhide H2) _).mono ?_
  rintro e w2 ⟨rfl, hb2⟩
  go_wp2_with (go_at_call 10; go_in)
  go_ret
  exact ⟨rfl, hb1.trans (hb2.mono hb1.size)⟩

set_option maxHeartbeats 400000 in
theorem law_any (s : ByteArray) (w : World) : Calls Try.prog 3 #[.string s] w fun e w' => e = .returned (.bool true) ∧ Below w.heap.size w w' := by
  have H1 := hide (fun w => types_any s w)
  go_enter Try.func3, Try.ntmps3
  go_wp2_with fail
  refine (check_one _).mono ?_
  rintro e w1 ⟨rfl, hb1⟩
  go_wp2_with fail
  refine (check_two _).mono ?_
  rintro e w2 ⟨rfl, hb2⟩
  go_wp2_with (first | (go_at_call 10; go_in) | (go_at_call 11; refine ((unhide H1) _).mono ?_; rintro e w3 ⟨rfl, hb3⟩))
  go_ret
  have h12 := hb1.trans (hb2.mono hb1.size)
  exact ⟨rfl, h12.trans (hb3.mono h12.size)⟩

theorem own : ownKnob Try.prog.godebug = none := by kernel_rfl

set_option maxRecDepth 100000 in
theorem lifted (os : Os) (started : os.Started) (H : Type) (enc : TypeId × Value → H) :
    ReturnsInHanded {} Try.checked os 3 .any (Rows.typesSpec.pre6 enc Try.prog Try.f3 Rows.typesRow.domain false) (Rows.typesSpec.post enc Try.prog Try.f3 false true false false) := by
  refine returnsInHanded_of_change (C := Try.checked) own started (by kernel_rfl) Try.func3
    (ChangeSpec.witness6 (enc := enc) (C := Try.checked) false ⟨#[], #[.string { data := #[] }], []⟩ 8 (by kernel_rfl) (by kernel_rfl) (by kernel_rfl) (by kernel_rfl)) ?_
  intro W base args ds gs before hval0 hW _ _
  have hval : ∀ (j : Nat) t v, Try.f3.params[j]? = some t → args[j]? = some v → Value.okWide Try.prog W .any base t v := hval0
  have hW' := hW
  obtain ⟨p, q, hA0, hV, rfl, hfz, hnd⟩ := hW
  have hA : DataW.TrodAll enc Try.prog W 0 (fun _ => true) true Try.f3.params.toList args.toList ds p := hA0
  rw [Try.params3] at hA hval
  obtain ⟨v0, d0, rfl, rfl, h0⟩ := trodAll_one hA
  obtain ⟨rfl, rfl⟩ := trodVars_none hV
  obtain ⟨s, rfl, rfl, rfl, hs⟩ := open_string Try.underlying9 (hval 0 9 v0 rfl rfl) h0
  clear hA0 hval0
  simp only [List.append_nil] at hW'
  refine (law_any s W).mono fun e W' ⟨he, bel⟩ => ?_
  subst he
  exact ⟨_, rfl, _, _, _, [], [], [], hW', trodAll_mk1 (shut_bool Try.underlying4 _), trodAll_mk1 (shut_string Try.underlying9 hs), rfl, bel.frame _, fun h => by cases h⟩

theorem types_holds : Rows.TypesSaid :=
  OpenClaim.holds_of_wide 3 Try.f3 rfl rfl rfl rfl rfl rfl rfl ⟨rfl, rfl, rfl, rfl, rfl⟩ rfl rfl rfl rfl rfl (by kernel_rfl) Try.func3 (by kernel_rfl)
    (of_decide_eq_true (by kernel_rfl)) (by unfold Func.isWrapper; first | (rw [if_pos (by decide +kernel)]; kernel_rfl) | (rw [if_neg (by decide +kernel)]; exact ⟨rfl, rfl⟩))
    (fun os started H enc _ => lifted os started H enc)
#print axioms types_holds
end Go.Proofs.Ytblomippkddgiaa.V
