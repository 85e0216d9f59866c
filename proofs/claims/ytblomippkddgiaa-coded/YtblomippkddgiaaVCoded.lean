/-
  Proved: errandkeep.Coded returns true for every list of raw numbers, of any length, and leaves it as it was: a type that is grown out of them is a type, a value that is filled out of them is one of its values, its bytes are as many as its items need, they are read as this value, and with a byte less or more they are refused. No condition.
-/
import Derived.Test.YtblomippkddgiaaVReturn
import Derived.Test.YtblomippkddgiaaVFill
import Derived.Test.YtblomippkddgiaaVGrowC
import Derived.Test.YtblomippkddgiaaVGrowI
import Derived.Deep.Slices
import Derived.SizedLaws
import Derived.ProofKit
import Derived.OpenShut
import Derived.ChangeOld

/-
  The law Coded: what is grown is a type; its walk behind the value.
-/
namespace Go.Proofs.Ytblomippkddgiaa.V
open Go.RowKit

theorem txt_small {P : List Nd} {hi : Nat} : ∀ d n, Tk P hi d n → ∀ x ∈ txt P d n, x < 256 := by
  intro d
  induction d with
  | zero => intro n h; exact absurd h id
  | succ d ih =>
    intro n h x hx
    obtain ⟨_, y, hy, hf, hk⟩ := h
    rw [txt_some hy] at hx
    have hcat : ∀ ks : List Nat, (∀ c ∈ ks, c ∈ y.ks) → x ∈ catN (txt P d) ks → x < 256 := by
      intro ks
      induction ks with
      | nil => intro _ h; simp [catN] at h
      | cons c ks ih2 =>
        intro hm h
        simp only [catN, List.mem_append] at h
        rcases h with h | h
        · exact ih c (hk c (hm c (List.mem_cons_self ..))).2 x h
        · exact ih2 (fun c' h' => hm c' (List.mem_cons_of_mem _ h')) h
    simp only [List.mem_append] at hx
    rcases hx with hx | hx | hx
    · have hc : y.c < 256 ∧ y.d + 48 < 256 ∨ y.c < 256 ∧ ¬ (y.c = 101 ∨ y.c = 97 ∨ y.c = 113) := by
        unfold form at hf
        omega
      unfold headN at hx
      simp only [List.mem_cons, List.mem_append] at hx
      rcases hx with rfl | hx | hx
      · omega
      · split at hx
        · simp at hx
          omega
        · simp at hx
      · split at hx
        · simp at hx
          omega
        · simp at hx
    · exact hcat y.ks (fun c h => h) hx
    · unfold tailN at hx
      split at hx
      · simp at hx
        omega
      · simp at hx

theorem strN_at {l : List Nat} (h : ∀ x ∈ l, x < 256) : AtN (nx (strN l)) 0 l := by
  intro i x hi
  have hlt := (List.getElem?_eq_some_iff.1 hi).1
  have hs : i < (strN l).size := by rw [strN_size]; exact hlt
  rw [Nat.zero_add, nx_in hs]
  have e : (strN l)[i]'hs = UInt8.ofNat l[i] := by
    show (l.map UInt8.ofNat).toArray[i]'_ = _
    simp
  rw [e]
  have hx : l[i] = x := (List.getElem?_eq_some_iff.1 hi).2
  rw [hx]
  have := h x (List.mem_of_getElem? hi)
  simp
  omega

theorem grown_ok {P : List Nd} {hi : Nat} (h : Tk P hi 4 0) (hl : (txt P 4 0).length ≤ 40) : Placed (nx (strN (txt P 4 0))) P hi 4 0 ((strN (txt P 4 0)).size + 1) 0 ∧ Pt.chk (nx (strN (txt P 4 0))) (strN (txt P 4 0)).size = (0, 0) := by
  have hP : Placed (nx (strN (txt P 4 0))) P hi 4 0 ((strN (txt P 4 0)).size + 1) 0 := ⟨h, by rw [strN_size]; omega, strN_at (txt_small 4 0 h)⟩
  obtain ⟨h1, h2, _⟩ := parse 4 0 _ 0 hP
  refine ⟨hP, ?_⟩
  rw [strN_size] at h1 h2 ⊢
  unfold Pt.chk
  rw [if_neg (by omega), h1]
  simp only [if_true, Nat.zero_add]
  rw [if_neg (by omega), if_neg (by omega)]

set_option maxRecDepth 100000 in
set_option maxHeartbeats 1000000 in
theorem same19_any (w : World) (X Y : Value) (v : List It) (hX : Items w X v) (hY : Items w Y v) (hn : v.length ≤ 1000000) :
    Calls Try.prog 21 #[X, Y] w fun e w' => e = .returned (.bool true) ∧ Below w.heap.size w w' := by
  obtain ⟨n, hvn⟩ : ∃ n, n = v.length := ⟨_, rfl⟩
  obtain ⟨xa, xc, rfl, _, _⟩ := id hX
  obtain ⟨ya, yc, rfl, _, _⟩ := id hY
  have hnn : n ≤ 1000000 := by omega
  have HX := hide hX
  have HY := hide hY
  have HVN := hide hvn
  rw [← hvn] at HX HY ⊢
  clear hvn hn hX hY
  go_enter Try.func21, Try.ntmps21
  go_wp2
  go_loopw [5] (fun iv wr => ∃ i : Nat, i ≤ n ∧ iv = .int .i64 i ∧ Below w.heap.size w wr) (fun iv _ => n - (intOf iv).toNat)
  case atStart => exact ⟨0, Nat.zero_le _, rfl, Below.refl _ _⟩
  case round =>
    obtain ⟨i, hin, rfl, hb⟩ := hrel
    by_cases hlt : i < n
    · obtain ⟨x, hx⟩ : ∃ x, v[i]? = some x := ⟨_, List.getElem?_eq_getElem (by rw [← unhide HVN]; exact hlt)⟩
      obtain ⟨b, off, cap', hV, hbl, d0, d1⟩ := ((unhide HX).below hb).at hx
      obtain ⟨b2, off2, cap2, hV2, hbl2, e0, e1⟩ := ((unhide HY).below hb).at hx
      obtain rfl : xa = some ⟨b, off, none⟩ := by injection hV
      obtain rfl : ya = some ⟨b2, off2, none⟩ := by injection hV2
      have HBB := hide hb
      clear hb hx hV hV2
      go_wp2
      go_quiet (fail)
      go_wp2
      go_roundw
      case rel => exact ⟨i + 1, by omega, by go_num, below_drewN (unhide HBB) _⟩
      case measure => simp [intOf]; omega
    · have HBB := hide hb
      clear hb
      go_wp2
      go_ret
      exact ⟨rfl, unhide HBB⟩

end Go.Proofs.Ytblomippkddgiaa.V

/-
  The law Coded: its walk.
-/
namespace Go.Proofs.Ytblomippkddgiaa.V
open Go.RowKit

/- what the value's list is, to the walk's eyes, in whatever comes behind -/
structure FSeen (fb : Nat) (F : Value) (n : Nat) (w : World) : Prop where
  f0 : w.cell? ⟨fb, 0, none⟩ = some F
  f1 : w.cell? ⟨fb, 1, none⟩ = some (.int .i64 n)
  lt : fb < w.heap.size
theorem FSeen.go {fb : Nat} {F : Value} {n : Nat} {w w' : World} (h : FSeen fb F n w) (hb : Below w.heap.size w w') : FSeen fb F n w' :=
  ⟨(hb.cell (p := ⟨fb, 0, none⟩) h.lt).trans h.f0, (hb.cell (p := ⟨fb, 1, none⟩) h.lt).trans h.f1, Nat.lt_of_lt_of_le h.lt hb.size⟩

/- what is asked of the calls -/
structure Asked (w0 : World) (s : ByteArray) (fb : Nat) (F : Value) (u : List It) (B : List UInt8) (w : World) : Prop where
  fs : FSeen fb F B.length w
  items : Items w F u
  below : Below w0.heap.size w0 w
  chk : ∀ w', Calls Try.prog 9 #[.string s] w' fun e w'' => e = chkTuple (0, 0) ∧ Below w'.heap.size w' w''
  pos : 0 < B.length
  fewi : u.length ≤ 100000
  fewb : B.length ≤ 100000000
theorem Asked.go {w0 : World} {s : ByteArray} {fb : Nat} {F : Value} {u : List It} {B : List UInt8} {w w' : World} (h : Asked w0 s fb F u B w) (hb : Below w.heap.size w w') : Asked w0 s fb F u B w' :=
  ⟨h.fs.go hb, h.items.below hb, h.below.trans (hb.mono h.below.size), h.chk, h.pos, h.fewi, h.fewb⟩

set_option maxRecDepth 100000 in
set_option maxHeartbeats 2000000 in
theorem coded_big (w : World) (va : Option Addr) (vn vc : Nat) (T : World → Prop) (S : ByteArray → World → Prop)
    (H16 : Calls Try.prog 18 #[.pointer (some ⟨w.heap.size + 1, 0, none⟩), .pointer (some ⟨w.heap.size, 0, none⟩), .int .i64 4] ((w.alloc (.cells #[.slice va vn vc, .int .i64 0] 45)).alloc (.cells #[.slice none 0 0] 49)) fun e w' => e = .returned (.int .i64 0) ∧ T w')
    (H17 : ∀ w', T w' → Calls Try.prog 19 #[.pointer (some ⟨w.heap.size + 1, 0, none⟩), .int .i64 0] w' fun e w'' => ∃ s, e = .returned (.string s) ∧ S s w'')
    (H18 : ∀ s w', S s w' → Calls Try.prog 20 #[.pointer (some ⟨w.heap.size + 1, 0, none⟩), .pointer (some ⟨w.heap.size, 0, none⟩), .int .i64 0, .pointer (some ⟨w'.heap.size, 0, none⟩)] (w'.alloc (.cells #[.slice none 0 0, .int .i64 0] 54)) fun e w'' => e = .returned (.tuple #[]) ∧ ∃ F u B, Asked w s w'.heap.size F u B w'' ∧
      (∀ w3, Items w3 F u → Calls Try.prog 12 #[.string s, F] w3 fun e w4 => e = mEnd (if 70 < B.length then (5, []) else (0, B)) ∧ Below w3.heap.size w3 w4) ∧
      (B.length ≤ 70 → ∀ w3, (Calls Try.prog 14 #[.string s, .string (str B)] w3 fun e w4 => ∃ O, e = .returned (.tuple #[O, .int .i64 0]) ∧ Items w4 O u ∧ Below w3.heap.size w3 w4) ∧
        (∀ l b, B = l ++ [b] → Calls Try.prog 14 #[.string s, .string (str l)] w3 fun e w4 => ∃ a c, e = .returned (.tuple #[.slice a 0 c, .int .i64 6]) ∧ Below w3.heap.size w3 w4) ∧
        (Calls Try.prog 14 #[.string s, .string (str (B ++ [0]))] w3 fun e w4 => ∃ a c, e = .returned (.tuple #[.slice a 0 c, .int .i64 (if B.length = 70 then 5 else 6)]) ∧ Below w3.heap.size w3 w4))) :
    Calls Try.prog 6 #[.slice va vn vc] w fun e w' => e = .returned (.bool true) ∧ Below w.heap.size w w' := by
  have K16 := hide H16
  have K17 := hide H17
  have K18 := hide H18
  clear H16 H17 H18
  go_enter Try.func6, Try.ntmps6
  go_wp2_with fail
  refine (unhide K16).mono ?_
  rintro e w1 ⟨rfl, hT⟩
  have L17 := hide ((unhide K17) w1 hT)
  clear hT
  go_wp2_with fail
  refine (unhide L17).mono ?_
  rintro e w2 ⟨s, rfl, hS⟩
  have L18 := hide ((unhide K18) s w2 hS)
  clear hS
  go_wp2_with fail
  refine (unhide L18).mono ?_
  rintro e w3 ⟨rfl, F, u, B, hA, hm, hun⟩
  obtain ⟨fa, cap, hF, _, _⟩ := id hA.items
  subst hF
  have HA := hide hA
  have HM := hide hm
  have HU := hide hun
  have L7 := hide (hA.chk w3)
  clear hA hm hun
  go_wp2_with fail
  refine (unhide L7).mono ?_
  rintro e w4 ⟨rfl, hb4⟩
  have hA4 := (unhide HA).go hb4
  have f0 := hA4.fs.f0
  have LM := hide ((unhide HM) w4 hA4.items)
  have HA4 := hide hA4
  clear hb4 hA4
  go_wp2_with fail
  refine (unhide LM).mono ?_
  rintro e w5 ⟨rfl, hb5⟩
  have hA5 := (unhide HA4).go hb5
  have g0 := hA5.fs.f0
  have g1 := hA5.fs.f1
  have hfl := hA5.fs.lt
  have hpos := hA5.pos
  have hfi := hA5.fewi
  have hfb := hA5.fewb
  have HA5 := hide hA5
  clear hb5 hA5 f0
  by_cases hbig : 70 < B.length
  · have hbig' : (70 : Int) < (B.length : Int) := by omega
    rw [if_pos hbig]
    go_wp2
    go_ret
    exact ⟨rfl, (unhide HA5).below⟩
  · have hbig' : ¬ (70 : Int) < (B.length : Int) := by omega
    rw [if_neg hbig]
    obtain ⟨U1, U2, U3⟩ := (unhide HU) (by omega) w5
    have V1 := hide U1
    have HU5 := hide (unhide HU)
    obtain ⟨l, b, hlb⟩ : ∃ l b, B = l ++ [b] := by
      rcases List.eq_nil_or_concat B with h | ⟨l, b, h⟩
      · rw [h] at hpos
        simp at hpos
      · exact ⟨l, b, by simpa using h⟩
    have hBs : (str B).size = B.length := str_size B
    have hsl : (str B).extract 0 (B.length - 1) = str l := by
      rw [str_extract, hlb]
      simp
    have hcat : str B ++ (⟨#[0]⟩ : ByteArray) = str (B ++ [0]) := by
      unfold str
      rw [show (⟨#[0]⟩ : ByteArray) = ⟨[0].toArray⟩ from rfl, ByteArray.mk_append_mk]
    have HLB := hide hlb
    have V2 := hide (fun w6 => ((unhide HU) (by omega) w6).2.1 l b hlb)
    have V3 := hide (fun w6 => ((unhide HU) (by omega) w6).2.2)
    obtain ⟨n, hn⟩ : ∃ n, n = B.length := ⟨_, rfl⟩
    have HN := hide hn
    rw [← hn] at g1 hpos hfb hbig hbig' hBs hsl V3
    obtain ⟨SB, hSB⟩ : ∃ SB, SB = str B := ⟨_, rfl⟩
    rw [← hSB] at V1 hBs hsl hcat
    have hmE : mEnd (0, B) = .returned (.tuple #[.string SB, .int .i64 0]) := by rw [hSB]; rfl
    rw [hmE]
    have hn1 : ((n : Int) - 1).toNat = n - 1 := by omega
    have hsub : ((n - 1 : Nat) : Int) = (n : Int) - 1 := by omega
    generalize str l = SL at *
    generalize str (B ++ [0]) = SP at *
    clear U1 U2 U3 hlb hn hSB hmE HLB HU HM LM HA4 HA L7 L18 K18 K16 K17 L17
    subst hBs
    go_wp2_with fail
    refine (unhide V1).mono ?_
    rintro e w6 ⟨O, rfl, hi6, hb6⟩
    have hA6 := (unhide HA5).go hb6
    have g6 := hA6.fs.f0
    obtain ⟨oa, ocap, hO, _, _⟩ := id hi6
    subst hO
    have VS := hide (same19_any w6 _ _ u hi6 hA6.items (by omega))
    have HA6 := hide hA6
    clear hi6 hb6 hA6
    go_wp2_with fail
    refine (unhide VS).mono ?_
    rintro e w7 ⟨rfl, hb7⟩
    have HA7 := hide ((unhide HA6).go hb7)
    clear hb7
    go_wp2_with fail
    refine ((unhide V2) w7).mono ?_
    rintro e w8 ⟨xa, xc, rfl, hb8⟩
    have HA8 := hide ((unhide HA7).go hb8)
    clear hb8
    by_cases h70 : SB.size = 70
    · have V4 := hide ((unhide V3) w8)
      rw [if_pos h70] at V4
      have h70' : (SB.size : Int) = 70 := by omega
      clear V3
      go_wp2_with fail
      refine (unhide V4).mono ?_
      rintro e w9 ⟨ya, yc, rfl, hb9⟩
      have HA9 := hide ((unhide HA8).go hb9).below
      clear hb9
      go_wp2
      go_ret
      exact ⟨rfl, unhide HA9⟩
    · have V4 := hide ((unhide V3) w8)
      rw [if_neg h70] at V4
      clear V3
      go_wp2_with fail
      refine (unhide V4).mono ?_
      rintro e w9 ⟨ya, yc, rfl, hb9⟩
      have HA9 := hide ((unhide HA8).go hb9).below
      clear hb9
      go_wp2
      go_ret
      exact ⟨rfl, unhide HA9⟩

end Go.Proofs.Ytblomippkddgiaa.V
namespace Go.Proofs.Ytblomippkddgiaa.V
open Go.ChangeShapes Go.WideShapes Go.ChangeAt Go.RowKit

theorem bytes_two : ∀ (ks : List Bool) (v : List It), ks.length = v.length → v ≠ [] → 0 < (bytesOf ks v).length := by
  intro ks v h hv
  cases v with
  | nil => exact absurd rfl hv
  | cons x v => cases ks with
    | nil => simp at h
    | cons k ks =>
      simp only [bytesOf, List.length_append]
      have : 2 ≤ (enc8 k x).length := by
        unfold enc8
        cases k <;> simp [two8]
      omega

/- a value of a grown type has an item at least -/
theorem eat_nil {g : Nat → Nat} {P : List Nd} {hi : Nat} : ∀ d n f p, Placed g P hi d n f p → eat g f p [] = none := by
  intro d
  induction d with
  | zero => intro n f p h; exact absurd h.tk id
  | succ d ih =>
    intro n f p h
    obtain ⟨f, rfl⟩ : ∃ f', f = f' + 1 := ⟨f - 1, by have := h.fuel; have := tk_pos h.tk; omega⟩
    obtain ⟨x, hO⟩ := (parse (d + 1) n (f + 1) p h).2.2 d f rfl rfl
    have hlt := hO.letter
    have hf := hO.frm
    unfold form at hf
    by_cases ha : x.c = 97
    · obtain ⟨c, _, hpc⟩ := hO.one (Or.inl ha)
      have hdg := hO.digit (Or.inr (Or.inl ha))
      have hh : headOf g f p [] = some ([], List.replicate (g (p + 1) - 48) (p + 2), []) := by simp [headOf, hlt, ha]
      rw [eat_cons hh, joinE_nil]
      obtain ⟨k, hk⟩ : ∃ k, g (p + 1) - 48 = k + 1 := ⟨g (p + 1) - 48 - 1, by omega⟩
      rw [hk]
      simp only [List.replicate_succ, seqE, ih c f (p + 2) hpc]
    · by_cases hr : x.c = 114
      · obtain ⟨hml, hmk⟩ := hO.many (Or.inl hr)
        have hh : headOf g f p [] = some ([], Pt.kids g f p, []) := by simp [headOf, hlt, hr]
        rw [eat_cons hh, joinE_nil]
        obtain ⟨c, hc⟩ : ∃ c, x.ks[0]? = some c := ⟨_, List.getElem?_eq_getElem (by omega)⟩
        obtain ⟨q, hq, hpc⟩ := hmk 0 c hc
        cases hkids : Pt.kids g f p with
        | nil => rw [hkids] at hq; simp at hq
        | cons q' qs =>
          rw [hkids] at hq
          simp at hq
          subst hq
          simp only [seqE, ih c f q' hpc]
      · have hh : headOf g f p [] = none := by simp [headOf, hlt, ha, hr]
        rw [eat_none hh]

theorem row_zero {w : World} {B : Nat} {O : Value} (h : Row w B O []) : ∃ a c, O = .slice a 0 c := by
  rcases h.2 with ⟨hv, _⟩ | ⟨g, cap, cur, hv, _⟩
  · exact ⟨_, _, hv⟩
  · exact ⟨_, _, hv⟩

theorem coded_any (w : World) (va : Option Addr) (vn vc : Nat) (hV : RawOk w (.slice va vn vc)) : Calls Try.prog 6 #[.slice va vn vc] w fun e w' => e = .returned (.bool true) ∧ Below w.heap.size w w' := by
  have hW1 : (w.alloc (.cells #[.slice va vn vc, .int .i64 0] 45)).heap.size = w.heap.size + 1 := by simp
  have hb1 : Below w.heap.size w (w.alloc (.cells #[.slice va vn vc, .int .i64 0] 45)) := (Below.refl _ _).alloc (Nat.le_refl _) _
  have hGs : Gs w (w.heap.size + 1) w.heap.size (.slice va vn vc) [] (.slice none 0 0) 0 ((w.alloc (.cells #[.slice va vn vc, .int .i64 0] 45)).alloc (.cells #[.slice none 0 0] 49)) := by
    refine ⟨⟨?_, World.ownsRow_nil _ _ _ _, fun x hx => by simp at hx, by omega, by simp [Value.ownBlock], fun x hx => by simp at hx⟩, ?_, fun k hk => ?_, hb1.alloc (by omega) _⟩
    · have h := heap_alloc_new (w.alloc (.cells #[.slice va vn vc, .int .i64 0] 45)) (.cells #[.slice none 0 0] 49)
      rw [hW1] at h
      exact h
    · rw [Below.heap_alloc _ _ _ (by omega)]
      exact heap_alloc_new w _
    · rcases hk with rfl | hk | ⟨x, hx, _⟩
      · omega
      · simp [Value.ownBlock] at hk
      · simp at hx
  refine coded_big w va vn vc
    (fun w' => ∃ P NV m, Grown w ((w.alloc (.cells #[.slice va vn vc, .int .i64 0] 45)).alloc (.cells #[.slice none 0 0] 49)) (w.heap.size + 1) w.heap.size (.slice va vn vc) [] (.slice none 0 0) 0 4 w' P NV m)
    (fun s w' => ∃ P NV m, s = strN (txt P 4 0) ∧ Gs w (w.heap.size + 1) w.heap.size (.slice va vn vc) P NV m w' ∧ Tk P P.length 4 0 ∧ (txt P 4 0).length ≤ 27 ∧ P.length ≤ 9 ∧ m ≤ 10000) ?_ ?_ ?_
  · refine (grow_any w (w.heap.size + 1) w.heap.size (.slice va vn vc) hV (Nat.le_refl _) 3 (Nat.le_refl _) [] (.slice none 0 0) 0 _ hGs (by simp) (by decide)).mono ?_
    rintro e w' ⟨rfl, P, NV, m, hG⟩
    exact ⟨rfl, P, NV, m, hG⟩
  · rintro w' ⟨P, NV, m, hG⟩
    have hl := hG.text
    have h9 := hG.len.2
    have hm := hG.raw
    simp only [List.length_nil, Nat.mul_zero, Nat.add_zero] at hl
    have htk : Tk P P.length 4 0 := hG.tk
    refine (text_any (by omega) 4 0 htk (by omega) w' hG.gs.tree).mono ?_
    rintro e w'' ⟨rfl, hb⟩
    exact ⟨_, rfl, P, NV, m, rfl, hG.gs.go hb, htk, by omega, h9, by simpa using hm⟩
  · rintro s w' ⟨P, NV, m, rfl, hgs, htk, hl, h9, hm⟩
    obtain ⟨hpl, hchk⟩ := grown_ok htk (by omega)
    have hrl := lt_of_block hgs.raw
    have hb : Below w'.heap.size w' (w'.alloc (.cells #[.slice none 0 0, .int .i64 0] 54)) := (Below.refl _ _).alloc (Nat.le_refl _) _
    have hFS : FS w w' w.heap.size (.slice va vn vc) m [] 0 (.slice none 0 0) (w'.alloc (.cells #[.slice none 0 0, .int .i64 0] 54)) :=
      ⟨(hgs.go hb).raw, heap_alloc_new w' _, World.ownsRow_nil _ _ _ _, fun k hk _ => hb.block k hk, (hgs.go hb).below⟩
    have hc0 : (Pt.chk (nx (strN (txt P 4 0))) (strN (txt P 4 0)).size).1 = 0 := by rw [hchk]
    have hg := good_of hc0
    refine (fill_any (g := nx (strN (txt P 4 0))) (hi := P.length) hgs.tree hgs.sep (by omega) hV hrl (Nat.le_refl _) 4 0 ((strN (txt P 4 0)).size + 1) 0 m [] 0 _ _ hpl hFS (by omega) (by simp) (by simp)).mono ?_
    rintro e w'' ⟨rfl, u, ks, F, m', hF⟩
    have he := hF.eaten []
    rw [List.append_nil] at he
    obtain ⟨_, s2⟩ := eat_small _ _ _ hg.ok _ _ _ he
    have hK := kinds_of s2 hF.same
    have hfew := hF.few
    have hsm := hF.small
    have hune : u ≠ [] := by
      rintro rfl
      rw [eat_nil 4 0 _ 0 hpl] at he
      cases he
    have hpos := bytes_two ks u hF.same hune
    have hfs := hF.fs
    rw [List.nil_append, Nat.zero_add] at hfs
    have hu4 : u.length ≤ 10000 := by simpa using hfew
    refine ⟨rfl, F, u, bytesOf ks u, ⟨⟨by simp [World.cell?, hfs.cell], by simp [World.cell?, hfs.cell], lt_of_block hfs.cell⟩, row_items hfs.row, hfs.below, fun w3 => ?_, hpos, by omega, by omega⟩, fun w3 hI => ?_, fun h70 w3 => ⟨?_, fun l b hlb => ?_, ?_⟩⟩
    · have h := check_any (strN (txt P 4 0)) w3
      rw [hchk] at h
      exact h
    · have h := marshal_any (strN (txt P 4 0)) F u w3 hI (by omega)
      have hr : mRes (strN (txt P 4 0)) u = if 70 < (bytesOf ks u).length then (5, []) else (0, bytesOf ks u) := by
        simp [mRes, hc0, he, wRes]
      rw [hr] at h
      exact h
    · obtain ⟨b1, _, _⟩ := un_back _ u ks hc0 he hK h70
      have h := unmarshal_any (strN (txt P 4 0)) (bytesOf ks u) w3
      rw [b1] at h
      refine h.mono ?_
      rintro e w4 ⟨O, rfl, hrow, hbb⟩
      exact ⟨O, rfl, row_items hrow, hbb⟩
    · obtain ⟨_, b2, _⟩ := un_back _ u ks hc0 he hK h70
      have h := unmarshal_any (strN (txt P 4 0)) l w3
      rw [b2 l b hlb] at h
      refine h.mono ?_
      rintro e w4 ⟨O, rfl, hrow, hbb⟩
      obtain ⟨a, c, rfl⟩ := row_zero hrow
      exact ⟨a, c, rfl, hbb⟩
    · obtain ⟨_, _, b3⟩ := un_back _ u ks hc0 he hK h70
      have h := unmarshal_any (strN (txt P 4 0)) (bytesOf ks u ++ [0]) w3
      rw [b3] at h
      refine h.mono ?_
      rintro e w4 ⟨O, rfl, hrow, hbb⟩
      obtain ⟨a, c, rfl⟩ := row_zero hrow
      refine ⟨a, c, ?_, hbb⟩
      by_cases h7 : (bytesOf ks u).length = 70
      · simp [h7]
      · simp [h7]

theorem coded_laidOut : laidOutB Try.prog = true := by kernel_rfl
theorem coded_own : ownKnob Try.prog.godebug = none := by kernel_rfl
theorem bytes3 : Try.prog.bytesOf 3 = 8 := by kernel_rfl
theorem cells3 : Try.prog.cellsOf 3 = 1 := by kernel_rfl

theorem raw_of {H : Type} {enc : TypeId × Value → H} {W : World} {v : Value} {d : DataW H} {p : List MemPlace} {a0 : Option Addr} {n0 c0 : Nat} (hv : v = .slice a0 n0 c0) (h : DataW.Trod enc Try.prog W 0 (fun _ => true) true 42 v d p) :
    (v = .slice none 0 0) ∨ ∃ (ad : Addr) (len cap : Nat) (es sp : List (DataW H)), v = .slice (some ad) len cap ∧ d = .slice es sp ∧ es.length = len ∧ (len = 0 ∨ ∃ vb off, some ad = some (⟨vb, off, none⟩ : Addr) ∧ vb < W.heap.size ∧ ∀ i, i < len → ∃ c, In64 c ∧ W.cell? ⟨vb, off + i, none⟩ = some (.int .i64 c)) := by
  subst hv
  obtain ⟨fuel, h⟩ := h
  simp only [Value.cells] at h
  rcases Deep.open_slice1 Try.underlying42 cells3 h with ⟨h1, _⟩ | ⟨a, len, cap, m, n, V, D, Pl, h1, _, hl, hm, hmm, hx, hc⟩
  · left
    simpa using h1
  · right
    have hV : Value.slice a0 n0 c0 = .slice (some a) len cap := by simpa using h1
    rw [if_pos rfl] at hmm
    simp only [Prod.mk.injEq] at hx
    refine ⟨a, len, cap, _, _, hV, hx.1, by simp, ?_⟩
    by_cases h0 : len = 0
    · exact Or.inl h0
    · right
      obtain ⟨c0', _⟩ := hc 0 (by omega)
      have hsp : a.spot = none := by
        cases hsp : a.spot with
        | none => rfl
        | some y =>
          simp only [World.cell?, Addr.add] at c0'
          split at c0'
          · simp [hsp] at c0'
          · cases c0'
      obtain ⟨b, off, spt⟩ := a
      simp only at hsp
      subst hsp
      have had : ∀ o, (⟨b, off, none⟩ : Addr).add o = ⟨b, off + o, none⟩ := fun o => by simp [Addr.add]
      refine ⟨b, off, rfl, lt_of_cell (o := off + 0) (v := V 0) (by rw [had] at c0'; exact c0'), fun i hi => ?_⟩
      obtain ⟨e0, e1⟩ := hc i (by omega)
      obtain ⟨k, hk, _, hwf⟩ := DataW.trod_int Try.underlying3 e1
      have hk' : V i = .int .i64 k := by simpa using hk
      rw [had, hk'] at e0
      refine ⟨k, ?_, e0⟩
      unfold In64
      simp [Lit.wf] at hwf
      have hmin : IntKind.i64.min = -9223372036854775808 := by decide
      rw [hmin] at hwf
      exact hwf

set_option maxRecDepth 100000 in
theorem coded_lifted (os : Os) (started : os.Started) (H : Type) (enc : TypeId × Value → H) :
    ReturnsInHanded {} Try.checked os 6 .any (Rows.codedSpec.pre6 enc Try.prog Try.f6 Rows.codedRow.domain false) (Rows.codedSpec.post enc Try.prog Try.f6 false true false false) := by
  refine returnsInHanded_of_change_sized (C := Try.checked) coded_own started (by kernel_rfl) Try.func6
    (ChangeSpec.witness6 (enc := enc) (C := Try.checked) false ⟨#[], #[.slice none 0 0], []⟩ 8 (by kernel_rfl) (by kernel_rfl) (by kernel_rfl) (by kernel_rfl)) ?_
  intro W base args ds gs before hval0 hW _ hsz0 _
  have hval : ∀ (j : Nat) t v, Try.f6.params[j]? = some t → args[j]? = some v → Value.okWide Try.prog W .any base t v := hval0
  have hsz : (DataW.weightsEach Try.prog (Try.f6.params.toList ++ Rows.codedSpec.plain.varTypes Try.prog) (ds ++ gs)).all (· ≤ reachBytes) = true := hsz0
  have hW' := hW
  obtain ⟨p, q, hA0, hV, rfl, hfz, hnd⟩ := hW
  have hA : DataW.TrodAll enc Try.prog W 0 (fun _ => true) true Try.f6.params.toList args.toList ds p := hA0
  rw [Try.params6] at hA hval hsz
  obtain ⟨v0, d0, rfl, rfl, h0⟩ := trodAll_one hA
  obtain ⟨rfl, rfl⟩ := trodVars_none hV
  obtain ⟨a0, len, cap, hv0⟩ := okWide_slice Try.underlying42 (hval 0 42 v0 rfl rfl)
  clear hA0 hval0 hsz0
  simp only [List.append_nil] at hW'
  have hlt : ∀ x ∈ p, x.block < W.heap.size := fun x hx => by simpa using hW'.lt x (by simpa using hx)
  have main : Calls Try.prog 6 #[v0] W fun e w' => e = .returned (.bool true) ∧ Below W.heap.size W w' := by
    rcases raw_of hv0 h0 with h | ⟨ad, ln, cp, es, sp, hv, hd, hel, hr⟩
    · rw [h]
      exact coded_any W none 0 0 ⟨none, 0, 0, rfl, by omega, Or.inl rfl⟩
    · rw [hv]
      refine coded_any W (some ad) ln cp ⟨some ad, ln, cp, rfl, ?_, hr⟩
      have := sized_slice (P := Try.prog) hsz (j := 0) (t := 42) (e := 3) (elems := es) (spare := sp) rfl (by rw [hd]; rfl) Try.underlying42
      rw [bytes3, hel] at this
      have hr := reachBytes_lt
      have : ln * 8 ≤ (ln + sp.length) * 8 := Nat.mul_le_mul_right _ (by omega)
      omega
  refine main.mono fun e W' ⟨he, bel⟩ => ?_
  subst he
  exact ⟨_, rfl, _, _, _, [], p, [], hW', trodAll_mk1 (shut_bool Try.underlying4 _), trodAll_mk1 (Below.trod coded_laidOut (by kernel_rfl) (of_decide_eq_true (by kernel_rfl)) h0 bel hlt), rfl, bel.frame _, fun h => by cases h⟩

theorem coded_holds : Rows.CodedSaid :=
  OpenClaim.holds_of_wide 6 Try.f6 rfl rfl rfl rfl rfl rfl rfl ⟨rfl, rfl, rfl, rfl, rfl⟩ rfl rfl rfl rfl rfl (by kernel_rfl) Try.func6 (by kernel_rfl)
    (of_decide_eq_true (by kernel_rfl)) (by unfold Func.isWrapper; first | (rw [if_pos (by decide +kernel)]; kernel_rfl) | (rw [if_neg (by decide +kernel)]; exact ⟨rfl, rfl⟩))
    (fun os started H enc _ => coded_lifted os started H enc)
#print axioms coded_holds
end Go.Proofs.Ytblomippkddgiaa.V
