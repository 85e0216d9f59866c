/-
  Joined: Arg Arg2.
-/
import Derived.Test.YthofebmiggodhaaDoorJ40
/-
  Arguments that fit: they are written, and are short.
-/
namespace Go.Proofs.YthofebmiggodhaaDoor
open Go.RowKit

def e0 : ByteArray := ⟨#[]⟩
structure Fits (T : ByteArray) (v : List V.It) : Prop where
  chk : (V.Pt.chk (V.nx T) T.size).1 = 0
  zero : (V.mRes T v).1 = 0
  len : (V.mRes T v).2.length ≤ 70
  few : v.length ≤ 9000000000000
theorem fits_of {T : ByteArray} {v : List V.It} {ks : List Bool} (hc : (V.Pt.chk (V.nx T) T.size).1 = 0) (he : V.eat (V.nx T) (T.size + 1) 0 v = some (ks, [])) (hb : (V.bytesOf ks v).length ≤ 70) (hf : v.length ≤ 100) : Fits T v := by
  have e1 : V.mRes T v = (0, V.bytesOf ks v) := by
    unfold V.mRes
    rw [if_pos hc, he]
    unfold V.wRes
    simp only
    rw [if_pos trivial, if_neg (by omega)]
  exact ⟨hc, by rw [e1], by rw [e1]; exact hb, by omega⟩
theorem eat_num {g : Nat → Nat} {f p : Nat} {n : Int} {r : List V.It} (h1 : g p ≠ 97) (h2 : g p ≠ 114) (h3 : g p ≠ 115) (h4 : g p ≠ 117) (h5 : g p ≠ 113) (hl : V.loOf (g p) ≤ n) (hh : n ≤ V.hiOf g f p) : V.eat g (f + 1) p ((n, e0) :: r) = some ([false], r) := by
  have e : V.headOf g f p ((n, e0) :: r) = some ([false], [], r) := by
    unfold V.headOf
    rw [if_neg h1, if_neg h2]
    simp only
    rw [if_neg h3, if_pos ⟨rfl, hl, hh⟩, if_neg h4, if_neg h5]
  show (match V.headOf g f p ((n, e0) :: r) with
    | none => none
    | some (k0, qs, r) => V.joinE k0 (V.seqE (V.eat g f) qs r)) = _
  rw [e]
  rfl
theorem eat_q {g : Nat → Nat} {f p : Nat} {n : Int} {r : List V.It} (h5 : g p = 113) (hl : 0 ≤ n) (hh : n ≤ V.hiOf g f p) : V.eat g (f + 1) p ((n, e0) :: r) = V.joinE [false] (V.seqE (V.eat g f) (List.replicate n.toNat (p + 2)) r) := by
  have e : V.headOf g f p ((n, e0) :: r) = some ([false], List.replicate n.toNat (p + 2), r) := by
    unfold V.headOf
    rw [if_neg (by omega), if_neg (by omega)]
    simp only
    rw [if_neg (by omega), if_pos ⟨rfl, by unfold V.loOf; rw [if_neg (by omega)]; exact hl, hh⟩, if_neg (by omega), if_pos h5]
  show (match V.headOf g f p ((n, e0) :: r) with
    | none => none
    | some (k0, qs, r) => V.joinE k0 (V.seqE (V.eat g f) qs r)) = _
  rw [e]
theorem eat_r {g : Nat → Nat} {f p : Nat} {v : List V.It} (h : g p = 114) : V.eat g (f + 1) p v = V.joinE [] (V.seqE (V.eat g f) (V.Pt.kids g f p) v) := by
  have e : V.headOf g f p v = some ([], V.Pt.kids g f p, v) := by
    unfold V.headOf
    rw [if_neg (by omega), if_pos h]
  show (match V.headOf g f p v with
    | none => none
    | some (k0, qs, r) => V.joinE k0 (V.seqE (V.eat g f) qs r)) = _
  rw [e]
theorem eat_s {g : Nat → Nat} {f p : Nat} {S : ByteArray} {r : List V.It} (h3 : g p = 115) (hl : S.size ≤ 14) : V.eat g (f + 1) p ((0, S) :: r) = some ([true], r) := by
  have e : V.headOf g f p ((0, S) :: r) = some ([true], [], r) := by
    unfold V.headOf
    rw [if_neg (by omega), if_neg (by omega)]
    simp only
    rw [if_pos h3, if_pos ⟨trivial, hl⟩]
  show (match V.headOf g f p ((0, S) :: r) with
    | none => none
    | some (k0, qs, r) => V.joinE k0 (V.seqE (V.eat g f) qs r)) = _
  rw [e]
  rfl
theorem two_len (n : Int) : (V.two8 n).length = 2 := rfl
theorem enc_num (x : V.It) : (V.enc8 false x).length = 2 := rfl
theorem fits_one {T : ByteArray} {c : Nat} {n : Int} (hT : T.size = 1) (hc : (V.Pt.chk (V.nx T) T.size).1 = 0) (g0 : V.nx T 0 = c) (hcc : c = 105 ∨ c = 98 ∨ c = 99) (hl : V.loOf c ≤ n) (hh : n ≤ (if c = 98 then 1 else if c = 99 then 65535 else 32767)) : Fits T [(n, e0)] := by
  refine fits_of (ks := [false]) hc ?_ (by simp [V.bytesOf, enc_num]) (by simp)
  rw [hT]
  refine eat_num (by omega) (by omega) (by omega) (by omega) (by omega) (by rw [g0]; exact hl) ?_
  unfold V.hiOf
  rw [g0]
  rcases hcc with rfl | rfl | rfl
  · simpa using hh
  · simpa using hh
  · simpa using hh
theorem fits_i {n : Int} (h : -32768 ≤ n ∧ n ≤ 32767) : Fits ⟨#[105]⟩ [(n, e0)] := fits_one (c := 105) rfl (by decide +kernel) (by decide +kernel) (by omega) (by unfold V.loOf; simp; omega) (by simp; omega)
theorem fits_b {n : Int} (h : 0 ≤ n ∧ n ≤ 1) : Fits ⟨#[98]⟩ [(n, e0)] := fits_one (c := 98) rfl (by decide +kernel) (by decide +kernel) (by omega) (by unfold V.loOf; simp; omega) (by simp; omega)
theorem fits_c {n : Int} (h : 0 ≤ n ∧ n ≤ 5) : Fits ⟨#[99]⟩ [(n, e0)] := fits_one (c := 99) rfl (by decide +kernel) (by decide +kernel) (by omega) (by unfold V.loOf; simp; omega) (by simp; omega)
theorem fits_s {S : ByteArray} (h : S.size ≤ 14) : Fits ⟨#[115]⟩ [(0, S)] := by
  refine fits_of (ks := [true]) (by decide +kernel) (eat_s (by decide +kernel) h) ?_ (by simp)
  have hd : S.data.toList.length = S.size := by simp
  simp only [V.bytesOf, V.enc8, if_true, List.append_nil, List.length_append, two_len, hd]
  split <;> simp <;> omega
abbrev deskT : ByteArray := ⟨#[114, 40, 101, 51, 113, 51, 105, 41]⟩
theorem fits_desk {a : Int} {L : List Int} (ha : 0 ≤ a ∧ a ≤ 2) (hl : L.length ≤ 3) (hL : ∀ x ∈ L, -32768 ≤ x ∧ x ≤ 32767) : Fits deskT ((a, e0) :: ((L.length : Int), e0) :: L.map fun x => (x, e0)) := by
  have g0 : V.nx deskT 0 = 114 := by decide +kernel
  have g2 : V.nx deskT 2 = 101 := by decide +kernel
  have g3 : V.nx deskT 3 = 51 := by decide +kernel
  have g4 : V.nx deskT 4 = 113 := by decide +kernel
  have g5 : V.nx deskT 5 = 51 := by decide +kernel
  have g6 : V.nx deskT 6 = 105 := by decide +kernel
  have hk : V.Pt.kids (V.nx deskT) 8 0 = [2, 4] := by decide +kernel
  have e2 : ∀ r, V.eat (V.nx deskT) 8 2 ((a, e0) :: r) = some ([false], r) := fun r => eat_num (by omega) (by omega) (by omega) (by omega) (by omega) (by rw [g2]; unfold V.loOf; simp; omega) (by unfold V.hiOf; rw [g2]; simp only [show (2 + 1 : Nat) = 3 from rfl, g3]; simp; omega)
  have e6 : ∀ x r, x ∈ L → V.eat (V.nx deskT) 7 6 ((x, e0) :: r) = some ([false], r) := fun x r hx => eat_num (by omega) (by omega) (by omega) (by omega) (by omega) (by have := hL x hx; rw [g6]; unfold V.loOf; simp; omega) (by have := hL x hx; unfold V.hiOf; rw [g6]; simp; omega)
  have es : ∀ M : List Int, (∀ x ∈ M, x ∈ L) → V.seqE (V.eat (V.nx deskT) 7) (List.replicate M.length 6) (M.map fun x => (x, e0)) = some (List.replicate M.length false, []) := fun M => by
    induction M with
    | nil => intro _; rfl
    | cons x M ih =>
      intro hM
      simp only [List.length_cons, List.replicate_succ, List.map_cons, V.seqE]
      rw [e6 x _ (hM x (by simp)), ]
      simp only
      rw [ih (fun y hy => hM y (by simp [hy]))]
      rfl
  have e4 : V.eat (V.nx deskT) 8 4 (((L.length : Int), e0) :: L.map fun x => (x, e0)) = some (List.replicate (L.length + 1) false, []) := by
    rw [eat_q g4 (by omega) (by unfold V.hiOf; rw [g4]; simp only [show (4 + 1 : Nat) = 5 from rfl, g5]; simp; omega), Int.toNat_natCast, es L (fun x hx => hx)]
    simp [V.joinE, List.replicate_succ]
  have hall : V.eat (V.nx deskT) (deskT.size + 1) 0 ((a, e0) :: ((L.length : Int), e0) :: L.map fun x => (x, e0)) = some (List.replicate (L.length + 2) false, []) := by
    show V.eat (V.nx deskT) (8 + 1) 0 _ = _
    rw [eat_r g0, hk]
    simp only [V.seqE]
    rw [e2]
    simp only
    rw [e4]
    simp [V.joinE, List.replicate_succ]
  refine fits_of (by decide +kernel) hall ?_ (by simp; omega)
  have hb : ∀ (v : List V.It) (n : Nat), (V.bytesOf (List.replicate n false) v).length ≤ 2 * n := fun v => by
    induction v with
    | nil => intro n; cases n <;> simp [V.bytesOf, List.replicate_succ]
    | cons x v ih =>
      intro n
      cases n with
      | zero => simp [V.bytesOf]
      | succ n =>
        simp only [List.replicate_succ, V.bytesOf, List.length_append, enc_num]
        have := ih n
        omega
  have := hb ((a, e0) :: ((L.length : Int), e0) :: L.map fun x => (x, e0)) (L.length + 2)
  omega
end Go.Proofs.YthofebmiggodhaaDoor
/-
  The statements' argument.
-/
namespace Go.Proofs.YthofebmiggodhaaDoor
open Go.RowKit

def icells (x : V.It) : List Value := [.int .i64 x.1, .string x.2]
theorem icells_len (x : V.It) : (icells x).length = 2 := rfl
theorem items_row {w : World} {B : Nat} {X : Value} {v : List V.It} (h : w.ownsRow B 88 2 X v.length (tab icells v)) : V.Items w X v := by
  rcases h.2 with ⟨rfl, h0⟩ | ⟨g, cap, cur, rfl, _, hg, hcap, _, _, htk⟩
  · exact ⟨none, 0, by rw [h0], by omega, Or.inl (List.eq_nil_of_length_eq_zero h0)⟩
  · refine ⟨_, cap, rfl, hcap, Or.inr ⟨g, 0, rfl, lt_of_block hg, fun j x hj => ?_⟩⟩
    have hjl := (List.getElem?_eq_some_iff.1 hj).1
    have q : ∀ d, d < 2 → cur[j * 2 + d]? = (icells x)[d]? := fun d hd => by
      rw [← tab_get icells_len v j d x hj hd, ← htk, List.getElem?_take, if_pos (by omega)]
      simp
    have q0 := q 0 (by omega)
    have q1 := q 1 (by omega)
    constructor
    · simp [World.cell?, hg]
      simpa [icells] using q0
    · simp [World.cell?, hg]
      simpa [icells] using q1
theorem items_new (w : World) (x : V.It) : V.Items (w.alloc (.cells #[.int .i64 x.1, .string x.2] 88)) (.slice (some ⟨w.heap.size, 0, none⟩) 1 1) [x] :=
  items_row (B := 0) (World.ownsRow_lit (base := 0) (e := 88) (size := 2) w #[.int .i64 x.1, .string x.2] 1 (Nat.zero_le _) (by unfold maxLen; omega) rfl)
def lit14 : ByteArray := ⟨#[102, 111, 117, 114, 116, 101, 101, 110, 32, 98, 121, 116, 101, 115]⟩
theorem lit14_size (n : Nat) (h : n < 15) : (lit14.extract 0 n).size = n := by
  have : ∀ k, k < 15 → (lit14.extract 0 k).size = k := by decide +kernel
  exact this n h

def ArgPost (v : List V.It) (w : World) (e : Ending) (w' : World) : Prop := ∃ X, e = .returned X ∧ V.Items w' X v ∧ Below w.heap.size w w'

set_option maxRecDepth 100000 in
set_option maxHeartbeats 600000 in
theorem arg_00 (a b : Int) (ha : In64 a) : ∃ v, Fits ⟨#[105]⟩ v ∧ ∀ w, Calls Tryd.prog 22 #[.int .i64 0, .int .i64 0, .int .i64 a, .int .i64 b] w (ArgPost v w) := by
  obtain ⟨n, hn, P⟩ := pick_same a 65536 ha (by omega) (by omega)
  refine ⟨[((n : Int) - 32768, e0)], fits_i (by omega), fun w => ?_⟩
  have HP := hide P
  have g1 : IntKind.i64.wrap ((n : Int) - 32768) = (n : Int) - 32768 := by rw [IntKind.wrap_i64]; omega
  have HI := hide (items_new w ((n : Int) - 32768, e0))
  clear P
  unfold ArgPost
  go_enter Tryd.func22, Tryd.ntmps22
  go_wp2_with (first | (go_at_call 10; refine ((unhide HP) _).mono ?_; rintro e w1 ⟨rfl, hw1⟩; rw [hw1]; clear hw1))
  go_returns
  exact ⟨_, rfl, unhide HI, (Below.refl _ _).alloc (Nat.le_refl _) _⟩
set_option maxRecDepth 100000 in
set_option maxHeartbeats 600000 in
theorem arg_01 (a b : Int) (ha : In64 a) : ∃ v, Fits ⟨#[98]⟩ v ∧ ∀ w, Calls Tryd.prog 22 #[.int .i64 0, .int .i64 1, .int .i64 a, .int .i64 b] w (ArgPost v w) := by
  obtain ⟨n, hn, P⟩ := pick_same a 2 ha (by omega) (by omega)
  refine ⟨[((n : Int), e0)], fits_b (by omega), fun w => ?_⟩
  have HP := hide P
  have HI := hide (items_new w ((n : Int), e0))
  clear P
  unfold ArgPost
  go_enter Tryd.func22, Tryd.ntmps22
  go_wp2_with (first | (go_at_call 10; refine ((unhide HP) _).mono ?_; rintro e w1 ⟨rfl, hw1⟩; rw [hw1]; clear hw1))
  go_returns
  exact ⟨_, rfl, unhide HI, (Below.refl _ _).alloc (Nat.le_refl _) _⟩
set_option maxRecDepth 100000 in
set_option maxHeartbeats 600000 in
theorem arg_11 (a b : Int) (ha : In64 a) : ∃ v, Fits ⟨#[99]⟩ v ∧ ∀ w, Calls Tryd.prog 22 #[.int .i64 1, .int .i64 1, .int .i64 a, .int .i64 b] w (ArgPost v w) := by
  obtain ⟨n, hn, P⟩ := pick_same a 6 ha (by omega) (by omega)
  refine ⟨[((n : Int), e0)], fits_c (by omega), fun w => ?_⟩
  have HP := hide P
  have HI := hide (items_new w ((n : Int), e0))
  clear P
  unfold ArgPost
  go_enter Tryd.func22, Tryd.ntmps22
  go_wp2_with (first | (go_at_call 10; refine ((unhide HP) _).mono ?_; rintro e w1 ⟨rfl, hw1⟩; rw [hw1]; clear hw1))
  go_returns
  exact ⟨_, rfl, unhide HI, (Below.refl _ _).alloc (Nat.le_refl _) _⟩
set_option maxRecDepth 100000 in
set_option maxHeartbeats 600000 in
theorem arg_10 (a b : Int) (ha : In64 a) : ∃ v, Fits ⟨#[115]⟩ v ∧ ∀ w, Calls Tryd.prog 22 #[.int .i64 1, .int .i64 0, .int .i64 a, .int .i64 b] w (ArgPost v w) := by
  obtain ⟨n, hn, P⟩ := pick_same a 15 ha (by omega) (by omega)
  refine ⟨[(0, lit14.extract 0 n)], fits_s (by rw [lit14_size n hn]; omega), fun w => ?_⟩
  have HP := hide P
  have HI := hide (items_new w (0, lit14.extract 0 n))
  clear P
  unfold ArgPost
  go_enter Tryd.func22, Tryd.ntmps22
  go_wp2_with (first | (go_at_call 10; refine ((unhide HP) _).mono ?_; rintro e w1 ⟨rfl, hw1⟩; rw [hw1]; clear hw1))
  go_returns
  exact ⟨_, rfl, unhide HI, (Below.refl _ _).alloc (Nat.le_refl _) _⟩

theorem info88 : (Tryd.prog.info? 88).map (fun i => (i.zero, i.size, i.bytes)) = some (some (.agg #[.int .i64 0, .string ⟨#[]⟩]), 2, 24) := by kernel_rfl
theorem one_item (w : World) (n : Int) (j : Nat) (u : Value) (h : ([.int .i64 n, .string ⟨#[]⟩] : List Value)[j]? = some u) : (w.alloc (.cells #[.int .i64 n, .string ⟨#[]⟩] 88)).cell? ((⟨w.heap.size, 0, none⟩ : Addr).add j) = some u := by
  rw [Addr.add_lit, Nat.zero_add, World.cell?_alloc_new w _ _ j, ← List.getElem?_toArray] at *
  exact h
def deskL (m i : Nat) : List Int := (List.range i).map fun (j : Nat) => (m : Int) + (j : Int) - 30000
def deskV (a n m i : Nat) : List V.It := ((a : Int), e0) :: ((n : Int), e0) :: (deskL m i).map fun x => (x, e0)
theorem deskV_len (a n m i : Nat) : (deskV a n m i).length = i + 2 := by simp [deskV, deskL]
theorem deskV_snoc (a n m i : Nat) : deskV a n m (i + 1) = deskV a n m i ++ [((m : Int) + (i : Int) - 30000, e0)] := by
  simp [deskV, deskL, List.range_succ]

set_option maxRecDepth 100000 in
set_option maxHeartbeats 600000 in
theorem arg_20 (a b : Int) (ha : In64 a) (hb : In64 b) : ∃ v, Fits deskT v ∧ ∀ w, Calls Tryd.prog 22 #[.int .i64 2, .int .i64 0, .int .i64 a, .int .i64 b] w (ArgPost v w) := by
  obtain ⟨n, hn, P⟩ := pick_same b 4 hb (by omega) (by omega)
  obtain ⟨x, hx, Q⟩ := pick_same a 3 ha (by omega) (by omega)
  obtain ⟨m, hm, R⟩ := pick_same a 60000 ha (by omega) (by omega)
  have hF : Fits deskT (deskV x n m n) := by
    have hl : (deskL m n).length = n := by simp [deskL]
    have := fits_desk (a := (x : Int)) (L := deskL m n) (by omega) (by omega) (fun y hy => by
      obtain ⟨j, hj, rfl⟩ := List.mem_map.1 hy
      have := List.mem_range.1 hj
      omega)
    rw [hl] at this
    exact this
  refine ⟨_, hF, fun w => ?_⟩
  have HP := hide P
  have HQ := hide Q
  have HR := hide R
  obtain ⟨i0, hi, hz0, hz1, hz2⟩ := info_parts info88
  have HS : Hid ((w.alloc (.cells #[.int .i64 (x : Int), .string ⟨#[]⟩, .int .i64 (n : Int), .string ⟨#[]⟩] 88)).ownsRow w.heap.size 88 2 (.slice (some ⟨w.heap.size, 0, none⟩) 2 2) (0 + 2) (tab icells (deskV x n m 0))) :=
    World.ownsRow_lit (base := w.heap.size) (e := 88) (size := 2) w #[.int .i64 (x : Int), .string ⟨#[]⟩, .int .i64 (n : Int), .string ⟨#[]⟩] 2 (Nat.le_refl _) (by unfold maxLen; omega) rfl
  have HB : Hid (Below w.heap.size w (w.alloc (.cells #[.int .i64 (x : Int), .string ⟨#[]⟩, .int .i64 (n : Int), .string ⟨#[]⟩] 88))) := (Below.refl _ _).alloc (Nat.le_refl _) _
  clear P Q R hF
  unfold ArgPost
  go_enter Tryd.func22, Tryd.ntmps22
  go_wp2_with (first | (go_at_call 10; refine ((unhide HP) _).mono ?_; clear HP; rintro e w1 ⟨rfl, hw1⟩; rw [hw1]; clear hw1) | (go_at_call 10; refine ((unhide HQ) _).mono ?_; clear HQ; rintro e w1 ⟨rfl, hw1⟩; rw [hw1]; clear hw1))
  go_loopw [10, 11] (fun lv iv wr => ∃ i : Nat, i ≤ n ∧ iv = .int .i64 i ∧ wr.ownsRow w.heap.size 88 2 lv (i + 2) (tab icells (deskV x n m i)) ∧ Below w.heap.size w wr) (fun _ iv _ => n - (intOf iv).toNat)
  case atStart => exact ⟨0, Nat.zero_le _, rfl, unhide HS, unhide HB⟩
  case round =>
    obtain ⟨i, hin, rfl, hrow, hbl⟩ := hrel
    by_cases hlt : i < n
    · have hsz := hbl.size
      have hlts := fun q => World.ownsRow.lt hrow q
      obtain ⟨la, lc, hls⟩ := slice_of hrow
      subst hls
      have HRW := hide hrow
      have HBL := hide hbl
      have HLT := hide hlts
      have g1 : IntKind.i64.wrap ((m : Int) + (i : Int)) = (m : Int) + (i : Int) := by rw [IntKind.wrap_i64]; omega
      have g2 : IntKind.i64.wrap ((m : Int) + (i : Int) - 30000) = (m : Int) + (i : Int) - 30000 := by rw [IntKind.wrap_i64]; omega
      clear hrow hbl hlts
      go_wp2_with (first
        | (go_at_call 10; refine ((unhide HR) _).mono ?_; rintro e w1 ⟨rfl, hw1⟩; rw [hw1]; clear hw1)
        | (at_builtin; go_must (refine wpList_append_own_at _ rfl (.tmp 63) (.tmp 70) 45 rfl w.heap.size 88 i0 (.agg #[.int .i64 0, .string ⟨#[]⟩]) 2 24 Tryd.underlying45 hi hz0 hz1 hz2 rfl (by decide) (.slice la (i + 2) lc) (i + 2) (tab icells (deskV x n m i)) rfl (by exact (unhide HRW).alloc _) ⟨_, 0, none⟩ 1 1 [.int .i64 ((m : Int) + (i : Int) - 30000), .string ⟨#[]⟩] rfl rfl (by exact one_item _ _) (by simp [Value.oneCell']) (by unfold maxLen; omega) (by omega) (by simp; omega) ?_; intro v' wz hown hgrow _ hat)))
      have HRN : Hid (wz.ownsRow w.heap.size 88 2 v' (i + 1 + 2) (tab icells (deskV x n m (i + 1)))) := by
        rw [deskV_snoc, tab_snoc]
        exact hown
      have HBN := hide (((unhide HBL).alloc hsz _).grown hgrow (by simp; omega) (fun q hq => ((unhide HLT) q hq).1))
      clear hown hgrow hat
      go_wp2
      go_roundw
      case rel => exact ⟨i + 1, by omega, by go_num, unhide HRN, unhide HBN⟩
      case measure => simp [intOf]; omega
    · obtain rfl : i = n := by omega
      obtain ⟨la, lc, hls⟩ := slice_of hrow
      have HI : Hid (V.Items wr u10 (deskV x i m i)) := items_row (by rw [deskV_len]; exact hrow)
      have HBL := hide hbl
      clear hrow hbl hls
      go_wp2
      go_returns
      exact ⟨_, rfl, unhide HI, unhide HBL⟩
end Go.Proofs.YthofebmiggodhaaDoor
