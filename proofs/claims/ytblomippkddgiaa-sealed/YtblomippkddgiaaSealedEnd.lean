/-
  Proved: errandkeep.Sealed returns true for every list of raw numbers and every two numbers, and leaves its arguments as they were: every right packet is written in 13 bytes and its body's, is read as itself, and with any one byte turned, a byte less or a byte more is refused. No condition.
-/
import Derived.Test.YtblomippkddgiaaSealed
import Derived.Deep.SlicePairs
import Derived.SizedLaws
import Derived.Carry
import Derived.ProofKit
import Derived.OpenShut
import Derived.ShutString
import Derived.ChangeOld
namespace Go.Proofs.Ytblomippkddgiaa
open Go.RowKit
open Go.ChangeShapes Go.WideShapes Go.ChangeAt

theorem sealed_laidOut : laidOutB Try.prog = true := by kernel_rfl
theorem sealed_own : ownKnob Try.prog.godebug = none := by kernel_rfl
theorem bytes3 : Try.prog.bytesOf 3 = 8 := by kernel_rfl
theorem cells3 : Try.prog.cellsOf 3 = 1 := by kernel_rfl

theorem raw_of {H : Type} {enc : TypeId × Value → H} {W : World} {v : Value} {d : DataW H} {p : List MemPlace} {a0 : Option Addr} {n0 c0 : Nat} (hv : v = .slice a0 n0 c0) (h : DataW.Trod enc Try.prog W 0 (fun _ => true) true 42 v d p) :
    (v = .slice none 0 0) ∨ ∃ (ad : Addr) (len cap : Nat) (es sp : List (DataW H)), v = .slice (some ad) len cap ∧ d = .slice es sp ∧ es.length = len ∧ (len = 0 ∨ ∃ vb off, some ad = some (⟨vb, off, none⟩ : Addr) ∧ vb < W.heap.size ∧ ∀ i, i < len → ∃ c, In64 c ∧ W.cell? ⟨vb, off + i, none⟩ = some (.int .i64 c)) := by
  subst hv
  obtain ⟨fuel, h⟩ := h
  simp only [Value.cells] at h
  rcases Deep.open_slice1 Try.underlying42 cells3 h with ⟨h1, _⟩ | ⟨a, len, cap, m, n, V, D, Pl, h1, _, hl, hm, hmm, hx, hc⟩
  · left
    simpa using h1
  · right
    have hV : Value.slice a0 n0 c0 = .slice (some a) len cap := by simpa using h1
    rw [if_pos rfl] at hmm
    simp only [Prod.mk.injEq] at hx
    refine ⟨a, len, cap, _, _, hV, hx.1, by simp, ?_⟩
    by_cases h0 : len = 0
    · exact Or.inl h0
    · right
      obtain ⟨c0', _⟩ := hc 0 (by omega)
      have hsp : a.spot = none := by
        cases hsp : a.spot with
        | none => rfl
        | some y =>
          simp only [World.cell?, Addr.add] at c0'
          split at c0'
          · simp [hsp] at c0'
          · cases c0'
      obtain ⟨b, off, spt⟩ := a
      simp only at hsp
      subst hsp
      have had : ∀ o, (⟨b, off, none⟩ : Addr).add o = ⟨b, off + o, none⟩ := fun o => by simp [Addr.add]
      refine ⟨b, off, rfl, lt_of_cell (o := off + 0) (v := V 0) (by rw [had] at c0'; exact c0'), fun i hi => ?_⟩
      obtain ⟨e0, e1⟩ := hc i (by omega)
      obtain ⟨k, hk, _, hwf⟩ := DataW.trod_int Try.underlying3 e1
      have hk' : V i = .int .i64 k := by simpa using hk
      rw [had, hk'] at e0
      refine ⟨k, ?_, e0⟩
      unfold In64
      simp [Lit.wf] at hwf
      have hmin : IntKind.i64.min = -9223372036854775808 := by decide
      rw [hmin] at hwf
      exact hwf

set_option maxRecDepth 100000 in
theorem int_of {H : Type} {enc : TypeId × Value → H} {W : World} {v : Value} {d : DataW H} {p : List MemPlace} {base : Nat} (hv : Value.okWide Try.prog W .any base 3 v) (h : DataW.Trod enc Try.prog W 0 (fun _ => true) true 3 v d p) : ∃ k, v = .int .i64 k ∧ In64 k ∧ p = [] := by
  obtain ⟨fuel, h⟩ := h
  obtain ⟨k', rfl⟩ := okWide_int Try.underlying3 hv
  obtain ⟨k, hk, hx, hwf⟩ := DataW.trod_int Try.underlying3 h
  obtain rfl : k' = k := by simpa [Value.cells] using hk
  refine ⟨k', rfl, ?_, ?_⟩
  · unfold In64
    simp [Lit.wf] at hwf
    have hmin : IntKind.i64.min = -9223372036854775808 := by decide
    rw [hmin] at hwf
    exact hwf
  · simp only [Prod.mk.injEq] at hx
    exact hx.2

set_option maxRecDepth 100000 in
theorem sealed_lifted (os : Os) (started : os.Started) (H : Type) (enc : TypeId × Value → H) :
    ReturnsInHanded {} Try.checked os 8 .any (Rows.sealedSpec.pre6 enc Try.prog Try.f8 Rows.sealedRow.domain false) (Rows.sealedSpec.post enc Try.prog Try.f8 false true false false) := by
  refine returnsInHanded_of_change_sized (C := Try.checked) sealed_own started (by kernel_rfl) Try.func8
    (ChangeSpec.witness6 (enc := enc) (C := Try.checked) false ⟨#[], #[.slice none 0 0, .int .i64 0, .int .i64 0], []⟩ 8 (by kernel_rfl) (by kernel_rfl) (by kernel_rfl) (by kernel_rfl)) ?_
  intro W base args ds gs before hval0 hW _ hsz0 _
  have hval : ∀ (j : Nat) t v, Try.f8.params[j]? = some t → args[j]? = some v → Value.okWide Try.prog W .any base t v := hval0
  have hsz : (DataW.weightsEach Try.prog (Try.f8.params.toList ++ Rows.sealedSpec.plain.varTypes Try.prog) (ds ++ gs)).all (· ≤ reachBytes) = true := hsz0
  have hW' := hW
  obtain ⟨p, q, hA0, hV, rfl, hfz, hnd⟩ := hW
  have hA : DataW.TrodAll enc Try.prog W 0 (fun _ => true) true Try.f8.params.toList args.toList ds p := hA0
  rw [Try.params8] at hA hval hsz
  obtain ⟨v0, v1, v2, d0, d1, d2, p0, p1, p2, rfl, rfl, rfl, h0, h1, h2⟩ := trodAll_three hA
  obtain ⟨rfl, rfl⟩ := trodVars_none hV
  obtain ⟨a0, len, cap, hv0⟩ := okWide_slice Try.underlying42 (hval 0 42 v0 rfl rfl)
  obtain ⟨m1, rfl, hm1, rfl⟩ := int_of (hval 1 3 v1 rfl rfl) h1
  obtain ⟨m2, rfl, hm2, rfl⟩ := int_of (hval 2 3 v2 rfl rfl) h2
  clear hA0 hval0 hsz0
  simp only [List.append_nil] at hW'
  have hlt : ∀ x ∈ p0, x.block < W.heap.size := fun x hx => by simpa using hW'.lt x (by simpa using hx)
  have main : Calls Try.prog 8 #[v0, .int .i64 m1, .int .i64 m2] W fun e w' => e = .returned (.bool true) ∧ Below W.heap.size W w' := by
    rcases raw_of hv0 h0 with h | ⟨ad, ln, cp, es, sp, hv, hd, hel, hr⟩
    · rw [h]
      exact sealed_any W _ m1 m2 ⟨none, 0, 0, rfl, by omega, Or.inl rfl⟩ hm1 hm2
    · rw [hv]
      refine sealed_any W _ m1 m2 ⟨some ad, ln, cp, rfl, ?_, hr⟩ hm1 hm2
      have := sized_slice (P := Try.prog) hsz (j := 0) (t := 42) (e := 3) (elems := es) (spare := sp) rfl (by rw [hd]; rfl) Try.underlying42
      rw [bytes3, hel] at this
      have hr := reachBytes_lt
      have : ln * 8 ≤ (ln + sp.length) * 8 := Nat.mul_le_mul_right _ (by omega)
      omega
  refine main.mono fun e W' ⟨he, bel⟩ => ?_
  subst he
  exact ⟨_, rfl, _, _, _, [], p0 ++ ([] ++ []), [], hW', trodAll_mk1 (shut_bool Try.underlying4 _), trodAll_mk3 (Below.trod sealed_laidOut (by kernel_rfl) (of_decide_eq_true (by kernel_rfl)) h0 bel hlt) (Below.trod sealed_laidOut (by kernel_rfl) (of_decide_eq_true (by kernel_rfl)) h1 bel (fun x hx => by cases hx)) (Below.trod sealed_laidOut (by kernel_rfl) (of_decide_eq_true (by kernel_rfl)) h2 bel (fun x hx => by cases hx)), rfl, bel.frame _, fun h => by cases h⟩

theorem sealed_holds : Rows.SealedSaid :=
  OpenClaim.holds_of_wide 8 Try.f8 rfl rfl rfl rfl rfl rfl rfl ⟨rfl, rfl, rfl, rfl, rfl⟩ rfl rfl rfl rfl rfl (by kernel_rfl) Try.func8 (by kernel_rfl)
    (of_decide_eq_true (by kernel_rfl)) (by unfold Func.isWrapper; first | (rw [if_pos (by decide +kernel)]; kernel_rfl) | (rw [if_neg (by decide +kernel)]; exact ⟨rfl, rfl⟩))
    (fun os started H enc _ => sealed_lifted os started H enc)
#print axioms sealed_holds
end Go.Proofs.Ytblomippkddgiaa
