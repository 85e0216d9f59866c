/-
  Proved: errandlaw.Signatures returns true for every kind and every procedure number, and leaves its arguments as they were. Condition: the table 'signatures' of package service reads as its initialiser lays it (tied by the card to the program's text).
-/
import Derived.Test.YtblomippkddgiaaDoorRows
import Derived.Test.YtblomippkddgiaaDoorTie
import Derived.Test.YtblomippkddgiaaDoorCards
import Derived.Test.YtblomippkddgiaaDoorOwn
import Derived.ProofKit
import Derived.LaidMore
import Derived.OpenShut
import Derived.Stop.Joined
import Derived.SevenTiedAt
namespace Go.Proofs.YtblomippkddgiaaDoor
open Go.ChangeShapes Go.WideShapes Go.ChangeAt Go.WideMaps Go.WideElems Go.RowKit

theorem own : ownKnob Tryd.prog.godebug = Option.none := by kernel_rfl
theorem gSig : Tryd.prog.globalNamed "errand/service.signatures" = some 0 := by kernel_rfl
theorem tSig : (Tryd.prog.globals[0]?).map (·.type) = some 32 := by kernel_rfl
theorem c31 : Tryd.prog.cellsOf 31 = 4 := by kernel_rfl
theorem c32 : Tryd.prog.cellsOf 32 = 20 := by kernel_rfl
theorem c3 : Tryd.prog.cellsOf 3 = 1 := by kernel_rfl
theorem c9 : Tryd.prog.cellsOf 9 = 1 := by kernel_rfl

theorem door_met (os : Os) (args : Array Value) : laidMetH Tryd.prog Rows.signaturesRow.laid ((World.doorLaid Tryd.prog 400 os).forCall (fun _ _ => 0) ⟨#[], args, []⟩).memory :=
  laidMetH_of_parts3 (fuel := 8) (laidMet_of_run' 8 (by kernel_rfl) (by kernel_rfl)) (by kernel_rfl) (by kernel_rfl)

theorem ba_of {s : ByteArray} {l : List UInt8} (h : s.data.toList = l) : s = ⟨l.toArray⟩ := by
  subst h
  rfl

theorem row_of {H : Type} {enc : TypeId × Value → H} {W : World} {base : Nat} {sp : Nat → Bool} {held : Bool} {fuel : Nat} {cs : List Value} {x : DataW H × List MemPlace} (h : DataW.trod enc Tryd.prog W base sp held fuel 31 cs = some x) :
    ∃ (a b : Int) (s t : ByteArray), cs = [.int .i64 a, .int .i64 b, .string s, .string t] ∧ x.1 = .agg [.lit (.int .i64 a), .lit (.int .i64 b), .lit (.string s.data.toList), .lit (.string t.data.toList)] := by
  obtain ⟨xs, n, _, rfl, hl, hlen, hf⟩ := DataW.trod_struct Tryd.underlying31 h
  rw [c31] at hl
  match cs, hl, xs, hlen, hf with
  | [v0, v1, v2, v3], _, [x0, x1, x2, x3], _, hf =>
    have f0 : DataW.trod enc Tryd.prog W base sp held n 3 (([v0, v1, v2, v3].drop 0).take (Tryd.prog.cellsOf 3)) = some x0 := hf 0 _ rfl
    have f1 : DataW.trod enc Tryd.prog W base sp held n 3 (([v0, v1, v2, v3].drop 1).take (Tryd.prog.cellsOf 3)) = some x1 := hf 1 _ rfl
    have f2 : DataW.trod enc Tryd.prog W base sp held n 9 (([v0, v1, v2, v3].drop 2).take (Tryd.prog.cellsOf 9)) = some x2 := hf 2 _ rfl
    have f3 : DataW.trod enc Tryd.prog W base sp held n 9 (([v0, v1, v2, v3].drop 3).take (Tryd.prog.cellsOf 9)) = some x3 := hf 3 _ rfl
    rw [c3] at f0 f1
    rw [c9] at f2 f3
    obtain ⟨a, e0, y0, _⟩ := DataW.trod_int Tryd.underlying3 f0
    obtain ⟨b, e1, y1, _⟩ := DataW.trod_int Tryd.underlying3 f1
    obtain ⟨s, e2, y2, _⟩ := DataW.trod_string Tryd.underlying9 f2
    obtain ⟨t, e3, y3, _⟩ := DataW.trod_string Tryd.underlying9 f3
    simp at e0 e1 e2 e3 y0 y1 y2 y3
    subst e0 e1 e2 e3 y0 y1 y2 y3
    exact ⟨a, b, s, t, rfl, rfl⟩

theorem of_laid {W : World} (h : laidMetH Tryd.prog Rows.signaturesRow.laid W) : ∃ tt fr, W.heap[0]? = some (.cells tabCells tt fr) := by
  rw [MakeChecks.laidMetH_plain _ _ _ (by kernel_rfl)] at h
  obtain ⟨ps, ⟨g0, t0, cs0, f0, p0, q0, hg0, ht0, hv0, hd0, _, _⟩, _, _⟩ := h
  obtain rfl := Option.some.inj (gSig.symm.trans hg0)
  obtain rfl := Option.some.inj (tSig.symm.trans ht0)
  obtain ⟨xs, m, _, hx, hlen, hn, hel⟩ := DataW.trod_array Tryd.underlying32 hd0
  rw [c32] at hlen
  simp only [c31] at hel
  obtain ⟨l⟩ := cs0
  have hx1 := congrArg Prod.fst hx
  simp only [Rows.laid_errand_service_signatures] at hx1
  match l, hlen, xs, hn, hel, hx1 with
  | [v0, v1, v2, v3, v4, v5, v6, v7, v8, v9, v10, v11, v12, v13, v14, v15, v16, v17, v18, v19], _, [x0, x1, x2, x3, x4], _, hel, hx1 =>
    obtain ⟨a0, b0, s0, t0, e0, y0⟩ := row_of (show DataW.trod _ Tryd.prog W 0 _ false m 31 [v0, v1, v2, v3] = some x0 from hel 0 (by omega))
    obtain ⟨a1, b1, s1, t1, e1, y1⟩ := row_of (show DataW.trod _ Tryd.prog W 0 _ false m 31 [v4, v5, v6, v7] = some x1 from hel 1 (by omega))
    obtain ⟨a2, b2, s2, t2, e2, y2⟩ := row_of (show DataW.trod _ Tryd.prog W 0 _ false m 31 [v8, v9, v10, v11] = some x2 from hel 2 (by omega))
    obtain ⟨a3, b3, s3, t3, e3, y3⟩ := row_of (show DataW.trod _ Tryd.prog W 0 _ false m 31 [v12, v13, v14, v15] = some x3 from hel 3 (by omega))
    obtain ⟨a4, b4, s4, t4, e4, y4⟩ := row_of (show DataW.trod _ Tryd.prog W 0 _ false m 31 [v16, v17, v18, v19] = some x4 from hel 4 (by omega))
    simp only [List.map_cons, List.map_nil, y0, y1, y2, y3, y4, DataW.agg.injEq, List.cons.injEq, DataW.lit.injEq, Lit.int.injEq, Lit.string.injEq, and_true, true_and] at hx1
    obtain ⟨⟨h1, h2, h3, h4⟩, ⟨h5, h6, h7, h8⟩, ⟨h9, h10, h11, h12⟩, ⟨h13, h14, h15, h16⟩, h17, h18, h19, h20⟩ := hx1
    simp only [List.cons.injEq, and_true] at e0 e1 e2 e3 e4
    obtain ⟨rfl, rfl, rfl, rfl⟩ := e0
    obtain ⟨rfl, rfl, rfl, rfl⟩ := e1
    obtain ⟨rfl, rfl, rfl, rfl⟩ := e2
    obtain ⟨rfl, rfl, rfl, rfl⟩ := e3
    obtain ⟨rfl, rfl, rfl, rfl⟩ := e4
    have hv : World.var? Tryd.prog W "errand/service.signatures" = some tabCells := by
      rw [hv0, ← h1, ← h2, ← h5, ← h6, ← h9, ← h10, ← h13, ← h14, ← h17, ← h18, ba_of h3.symm, ba_of h4.symm, ba_of h7.symm, ba_of h8.symm, ba_of h11.symm, ba_of h12.symm, ba_of h15.symm, ba_of h16.symm, ba_of h19.symm, ba_of h20.symm]
    unfold World.var? at hv
    rw [gSig] at hv
    simp only [Option.bind_some] at hv
    split at hv
    · rename_i cs tt fr hh
      have : cs = tabCells := Option.some.inj hv
      subst this
      exact ⟨tt, fr, hh⟩
    · cases hv

set_option maxRecDepth 100000 in
theorem lifted (os : Os) (started : os.Started) (H : Type) (enc : TypeId × Value → H) :
    ReturnsInHanded {} Tryd.checked os 3 .any (fun w args => (Rows.signaturesSpec.pre enc Tryd.prog Tryd.f3 [] false w args ∧ laidMetH Tryd.prog Rows.signaturesRow.laid w) ∧ sizedMet enc Tryd.prog Tryd.f3 (OpenSpec.ofChange Rows.signaturesSpec) false w args)
      (Rows.signaturesSpec.post enc Tryd.prog Tryd.f3 false true false false) := by
  refine returnsInHanded_of_change_and (C := Tryd.checked) (X := fun w _ => laidMetH Tryd.prog Rows.signaturesRow.laid w) (fun _ _ _ hh h => h.of_heap hh) own started (by kernel_rfl) Tryd.func3
    (ChangeSpec.witness_shaped (enc := enc) (C := Tryd.checked) (os := os) (X := fun w _ => laidMetH Tryd.prog Rows.signaturesRow.laid w) false (World.doorLaid Tryd.prog 400 os) #[.int .i64 0, .int .i64 0] 8 rfl (World.shaped_of_RefB (by kernel_rfl) (by kernel_rfl)) (by kernel_rfl) (by kernel_rfl) (by kernel_rfl) (door_met os _)) ?_
  intro W base args ds gs before hval0 hW _ _ hL _
  have hval : ∀ (j : Nat) t v, Tryd.f3.params[j]? = some t → args[j]? = some v → Value.okWide Tryd.prog W .any base t v := hval0
  have hW' := hW
  obtain ⟨p, q, hA0, hV, rfl, hfz, hnd⟩ := hW
  have hA : DataW.TrodAll enc Tryd.prog W 0 (fun _ => true) true Tryd.f3.params.toList args.toList ds p := hA0
  rw [Tryd.params3] at hA hval
  obtain ⟨v0, v1, d0, d1, p0, p1, rfl, rfl, rfl, h0, h1⟩ := trodAll_two hA
  obtain ⟨rfl, rfl⟩ := trodVars_none hV
  obtain ⟨x, rfl, rfl, rfl, wx⟩ := open_int Tryd.underlying3 (hval 0 3 v0 rfl rfl) h0
  obtain ⟨y, rfl, rfl, rfl, wy⟩ := open_int Tryd.underlying3 (hval 1 3 v1 rfl rfl) h1
  obtain ⟨tt, fr, hg⟩ := of_laid hL
  clear hA0 hval0
  simp only [List.append_nil] at hW'
  refine (law_any x y W tt fr hg).mono fun e W' ⟨he, hb⟩ => ?_
  subst he
  exact ⟨_, rfl, _, _, _, [], [], [], hW', trodAll_mk1 (shut_bool Tryd.underlying4 _), (trodAll_cons_mk (shut_int Tryd.underlying3 wx) (trodAll_cons_mk (shut_int Tryd.underlying3 wy) trodAll_mk0)), rfl, hb.frame _, fun h => by cases h⟩

theorem signatures_row : Rows.SignaturesSaid :=
  OpenClaim.holds_of_wide 3 Tryd.f3 rfl rfl rfl rfl rfl rfl rfl ⟨rfl, rfl, rfl, rfl, rfl⟩ rfl rfl rfl rfl rfl (by kernel_rfl) Tryd.func3 (by kernel_rfl)
    (of_decide_eq_true (by kernel_rfl)) (by unfold Func.isWrapper; first | (rw [if_pos (by decide +kernel)]; kernel_rfl) | (rw [if_neg (by decide +kernel)]; exact ⟨rfl, rfl⟩))
    (fun os started H enc _ => lifted os started H enc)

theorem signatures_holds : Rows.SignaturesCardSaid :=
  Claim7.holds_tied_plain_at .later [] [.data] true (true, "f353fa9ba98a07b91dceba735c8e5382c34ccfe65d6262009705c3cdc183c983") false
    signatures_row (fun _ h => by cases h) (by kernel_rfl) (fun _ h => by cases h) signatures_row_tie rfl ⟨rfl, rfl⟩ (by kernel_rfl) rfl
    (fun f fn hf hfn => by
      obtain rfl : f = 3 := Option.some.inj ((show Tryd.prog.funcNamed "errand/errandlaw.Signatures" = some 3 by kernel_rfl).symm.trans hf) |>.symm
      obtain rfl : fn = Tryd.f3 := (Option.some.inj (Tryd.func3.symm.trans hfn)).symm
      exact ⟨by kernel_rfl, fun j t ht => by
        rw [Tryd.params3] at ht
        have hm : t ∈ [3, 3] := by simpa using Array.mem_of_getElem? ht
        have hall : ([3, 3].all fun u => !Tryd.prog.wantsStandIn u) = true := by kernel_rfl
        exact (show Tryd.prog.wantsStandIn t = false by simpa using List.all_eq_true.1 hall t hm)⟩)
    (by kernel_rfl)
#print axioms signatures_holds
end Go.Proofs.YtblomippkddgiaaDoor
