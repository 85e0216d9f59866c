/-
  Proved: errandlaw.Packets returns true for every packet (any numbers, any body) and every text of any length, and leaves its arguments as they were: the landed Seal answers, bytes and error, what the document's own Seal answers, and the landed Open, packet and error, what the document's own Open answers. No condition.
-/
import Derived.Test.YtblomippkddgiaaPackets
import Derived.ProofKit
import Derived.OpenShut
import Derived.ShutString
import Derived.ChangeOld
import Derived.Below
namespace Go.Proofs.Ytblomippkddgiaa
open Go.ChangeShapes Go.WideShapes Go.ChangeAt Go.RowKit
open Go.ChangeMaps (open_string shut_string)

theorem packets_laidOut : laidOutB Try.prog = true := by kernel_rfl
theorem packets_own : ownKnob Try.prog.godebug = none := by kernel_rfl
theorem c3 : Try.prog.cellsOf 3 = 1 := by kernel_rfl
theorem c4 : Try.prog.cellsOf 4 = 1 := by kernel_rfl
theorem c9 : Try.prog.cellsOf 9 = 1 := by kernel_rfl
theorem c59 : Try.prog.cellsOf 59 = 10 := by kernel_rfl

set_option maxRecDepth 100000 in
theorem pk_of {H : Type} {enc : TypeId × Value → H} {W : World} {base : Nat} {v : Value} {d : DataW H} {p : List MemPlace} (hv : Value.okWide Try.prog W .any base 59 v) (h : DataW.Trod enc Try.prog W 0 (fun _ => true) true 59 v d p) : ∃ q : Pk, v = pv q := by
  obtain ⟨cs, rfl, hsz⟩ := okWide_struct Try.underlying59 hv
  rw [c59] at hsz
  obtain ⟨l⟩ := cs
  match l, hsz with
  | [x0, x1, x2, x3, x4, x5, x6, x7, x8, x9], _ =>
    obtain ⟨fuel, hf⟩ := h
    obtain ⟨xs, n, _, _, _, hlen, hg⟩ := DataW.trod_struct Try.underlying59 hf
    have some_at : ∀ i, i < 10 → ∃ y, xs[i]? = some y := fun i hi => ⟨_, List.getElem?_eq_getElem (by rw [hlen]; exact hi)⟩
    have int_at : ∀ (i : Nat) (x : Value), i < 10 → DataW.trod enc Try.prog W 0 (fun _ => true) true n 3 [x] = xs[i]? → ∃ k, x = .int .i64 k := fun i x hi h => by
      obtain ⟨y, hy⟩ := some_at i hi
      rw [hy] at h
      obtain ⟨k, e, _⟩ := DataW.trod_int Try.underlying3 h
      exact ⟨k, by simpa using e⟩
    obtain ⟨k0, rfl⟩ := int_at 0 x0 (by omega) (by simpa [Value.cells, c3] using hg 0 _ rfl)
    obtain ⟨k1, rfl⟩ := int_at 1 x1 (by omega) (by simpa [Value.cells, c3] using hg 1 _ rfl)
    obtain ⟨k2, rfl⟩ := int_at 2 x2 (by omega) (by simpa [Value.cells, c3] using hg 2 _ rfl)
    obtain ⟨k3, rfl⟩ := int_at 3 x3 (by omega) (by simpa [Value.cells, c3] using hg 3 _ rfl)
    obtain ⟨k4, rfl⟩ := int_at 4 x4 (by omega) (by simpa [Value.cells, c3] using hg 4 _ rfl)
    obtain ⟨k5, rfl⟩ := int_at 5 x5 (by omega) (by simpa [Value.cells, c3] using hg 5 _ rfl)
    obtain ⟨k6, rfl⟩ := int_at 6 x6 (by omega) (by simpa [Value.cells, c3] using hg 6 _ rfl)
    obtain ⟨k7, rfl⟩ := int_at 7 x7 (by omega) (by simpa [Value.cells, c3] using hg 7 _ rfl)
    obtain ⟨y8, h8⟩ := some_at 8 (by omega)
    obtain ⟨y9, h9⟩ := some_at 9 (by omega)
    have g8 : DataW.trod enc Try.prog W 0 (fun _ => true) true n 4 [x8] = xs[8]? := by simpa [Value.cells, c4] using hg 8 _ rfl
    have g9 : DataW.trod enc Try.prog W 0 (fun _ => true) true n 9 [x9] = xs[9]? := by simpa [Value.cells, c9] using hg 9 _ rfl
    rw [h8] at g8
    rw [h9] at g9
    obtain ⟨b, eb, _⟩ := DataW.trod_bool Try.underlying4 g8
    obtain ⟨S, es, _⟩ := DataW.trod_string Try.underlying9 g9
    obtain rfl : x8 = .bool b := by simpa using eb
    obtain rfl : x9 = .string S := by simpa using es
    exact ⟨⟨k0, k1, k2, k3, k4, k5, k6, k7, b, S.data.toList⟩, rfl⟩

set_option maxRecDepth 100000 in
theorem packets_lifted (os : Os) (started : os.Started) (H : Type) (enc : TypeId × Value → H) :
    ReturnsInHanded {} Try.checked os 7 .any (Rows.packetsSpec.pre6 enc Try.prog Try.f7 Rows.packetsRow.domain false) (Rows.packetsSpec.post enc Try.prog Try.f7 false true false false) := by
  refine returnsInHanded_of_change (C := Try.checked) packets_own started (by kernel_rfl) Try.func7
    (ChangeSpec.witness6 (enc := enc) (C := Try.checked) false ⟨#[], #[zeroP, .string { data := #[] }], []⟩ 8 (by kernel_rfl) (by kernel_rfl) (by kernel_rfl) (by kernel_rfl)) ?_
  intro W base args ds gs before hval0 hW _ _
  have hval : ∀ (j : Nat) t v, Try.f7.params[j]? = some t → args[j]? = some v → Value.okWide Try.prog W .any base t v := hval0
  have hW' := hW
  obtain ⟨p, q, hA0, hV, rfl, hfz, hnd⟩ := hW
  have hA : DataW.TrodAll enc Try.prog W 0 (fun _ => true) true Try.f7.params.toList args.toList ds p := hA0
  rw [Try.params7] at hA hval
  obtain ⟨v0, v1, d0, d1, p0, p1, rfl, rfl, rfl, h0, h1⟩ := trodAll_two hA
  obtain ⟨rfl, rfl⟩ := trodVars_none hV
  obtain ⟨s, rfl, rfl, rfl, hs⟩ := open_string Try.underlying9 (hval 1 9 v1 rfl rfl) h1
  obtain ⟨pk, rfl⟩ := pk_of (hval 0 59 v0 rfl rfl) h0
  clear hA0 hval0
  simp only [List.append_nil] at hW'
  have hlt : ∀ x ∈ p0, x.block < W.heap.size := fun x hx => by simpa using hW'.lt x (by simpa using hx)
  have hl : s.data.toList.length ≤ 9223372036854775807 := by
    have : s.data.toList.length = s.size := Array.length_toList
    unfold maxLen at hs
    omega
  have main : Calls Try.prog 7 #[pv pk, .string s] W fun e w' => e = .returned (.bool true) ∧ Below W.heap.size W w' := packets_any pk s.data.toList W hl
  refine main.mono fun e W' ⟨he, bel⟩ => ?_
  subst he
  exact ⟨_, rfl, _, _, _, [], p0 ++ [], [], hW', trodAll_mk1 (shut_bool Try.underlying4 _), trodAll_mk2 (Below.trod packets_laidOut (by kernel_rfl) (of_decide_eq_true (by kernel_rfl)) h0 bel hlt) (shut_string Try.underlying9 hs), rfl, bel.frame _, fun h => by cases h⟩

theorem packets_holds : Rows.PacketsSaid :=
  OpenClaim.holds_of_wide 7 Try.f7 rfl rfl rfl rfl rfl rfl rfl ⟨rfl, rfl, rfl, rfl, rfl⟩ rfl rfl rfl rfl rfl (by kernel_rfl) Try.func7 (by kernel_rfl)
    (of_decide_eq_true (by kernel_rfl)) (by unfold Func.isWrapper; first | (rw [if_pos (by decide +kernel)]; kernel_rfl) | (rw [if_neg (by decide +kernel)]; exact ⟨rfl, rfl⟩))
    (fun os started H enc _ => packets_lifted os started H enc)
#print axioms packets_holds
end Go.Proofs.Ytblomippkddgiaa
