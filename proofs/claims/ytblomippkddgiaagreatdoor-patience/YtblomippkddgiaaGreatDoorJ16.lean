/-
  Joined: VBytesA.
-/
import Derived.Test.YtblomippkddgiaaGreatDoorJ15
import Derived.Deep.RegionWith
/-
  The document's own 'two' and 'Bytes'.
-/
namespace Go.Proofs.YtblomippkddgiaaGreatDoor.V
open Go.RowKit

def b8 (n : Int) : UInt8 := UInt8.ofNat n.toNat
theorem b8_val {n : Int} (h0 : 0 ≤ n) (h1 : n ≤ 255) : ((b8 n).toNat : Int) = n := by
  unfold b8
  rw [UInt8.toNat_ofNat_of_lt' (by show n.toNat < 256; omega)]
  omega
/- a number in two bytes -/
def two8 (n : Int) : List UInt8 := [b8 (n % 65536 / 256), b8 (n % 256)]

theorem conv_two (w : World) (a b : Int) : (convert 199 9 (.slice (some ⟨w.heap.size, 0, none⟩) 2 2)).run Tryz.prog (w.alloc (.cells #[.int .u8 a, .int .u8 b] 5)) = .ok (.string ⟨[b8 a, b8 b].toArray⟩) (w.alloc (.cells #[.int .u8 a, .int .u8 b] 5)) := by
  rw [run_convert_bytes_string _ 199 9 5 _ _ _ Tryz.underlying199 Tryz.underlying5 Tryz.underlying9, run_bytesToString _ _ _ _ [a, b]]
  · rfl
  · simp [loadCells, go_sem]

set_option maxRecDepth 100000 in
set_option maxHeartbeats 400000 in
theorem two_pos (n : Int) (w : World) (h0 : 0 ≤ n) (h1 : n ≤ 65535) :
    Calls Tryz.prog 219 #[.int .i64 n] w fun e w' => e = .returned (.string ⟨(two8 n).toArray⟩) ∧ Below w.heap.size w w' := by
  have hc := conv_two w (n / 256) (n % 256)
  have e : two8 n = [b8 (n / 256), b8 (n % 256)] := by unfold two8; rw [show n % 65536 = n by omega]
  rw [e]
  clear e
  have hd : 0 ≤ n / 256 ∧ n / 256 ≤ 255 := by omega
  have hm : 0 ≤ n % 256 ∧ n % 256 ≤ 255 := by omega
  go_enter Tryz.func219, Tryz.ntmps219
  go_wp2
  go_ret
  exact ⟨rfl, (Below.refl _ _).alloc (Nat.le_refl _) _⟩

set_option maxRecDepth 100000 in
set_option maxHeartbeats 400000 in
theorem two_neg (n : Int) (w : World) (h0 : n < 0) (h1 : -32768 ≤ n) :
    Calls Tryz.prog 219 #[.int .i64 n] w fun e w' => e = .returned (.string ⟨(two8 n).toArray⟩) ∧ Below w.heap.size w w' := by
  have hc := conv_two w ((n + 65536) / 256) ((n + 65536) % 256)
  have e : two8 n = [b8 ((n + 65536) / 256), b8 ((n + 65536) % 256)] := by unfold two8; rw [show n % 65536 = n + 65536 by omega, show n % 256 = (n + 65536) % 256 by omega]
  rw [e]
  clear e
  have hd : 0 ≤ (n + 65536) / 256 ∧ (n + 65536) / 256 ≤ 255 := by omega
  have hm : 0 ≤ (n + 65536) % 256 ∧ (n + 65536) % 256 ≤ 255 := by omega
  go_enter Tryz.func219, Tryz.ntmps219
  go_wp2
  go_ret
  exact ⟨rfl, (Below.refl _ _).alloc (Nat.le_refl _) _⟩

theorem two_any (n : Int) (w : World) (h0 : -32768 ≤ n) (h1 : n ≤ 65535) :
    Calls Tryz.prog 219 #[.int .i64 n] w fun e w' => e = .returned (.string ⟨(two8 n).toArray⟩) ∧ Below w.heap.size w w' := by
  by_cases h : n < 0
  · exact two_neg n w h h0
  · exact two_pos n w (by omega) h1

set_option maxRecDepth 100000 in
set_option maxHeartbeats 400000 in
theorem fits_any (s : ByteArray) (V : Value) (a : Option Addr) (cap : Nat) (v : List It) (w : World) (hV : V = .slice a v.length cap) (res : Int) (H : Calls Tryz.prog 239 #[.string s, .int .i64 0, V, .int .i64 0] w fun e w' => e = .returned (.int .i64 res) ∧ Below w.heap.size w w') :
    Calls Tryz.prog 207 #[.string s, V] w fun e w' => e = .returned (.bool (res == (v.length : Int))) ∧ Below w.heap.size w w' := by
  subst hV
  have HH := hide H
  clear H
  go_enter Tryz.func207, Tryz.ntmps207
  go_wp2_with fail
  refine (unhide HH).mono ?_
  rintro e w1 ⟨rfl, hb1⟩
  go_wp2
  go_ret
  exact ⟨rfl, hb1⟩

def enc8 (k : Bool) (x : It) : List UInt8 := if k then two8 x.2.size ++ (x.2.data.toList ++ (if x.2.size % 2 = 1 then [0] else [])) else two8 x.1
def bytesOf : List Bool → List It → List UInt8
  | k :: ks, x :: v => enc8 k x ++ bytesOf ks v
  | _, _ => []

theorem bytesOf_snoc : ∀ (ks : List Bool) (v : List It) (k : Bool) (x : It), ks.length = v.length → bytesOf (ks ++ [k]) (v ++ [x]) = bytesOf ks v ++ enc8 k x := by
  intro ks
  induction ks with
  | nil => intro v k x h; cases v with
    | nil => simp [bytesOf]
    | cons y v => simp at h
  | cons a ks ih => intro v k x h; cases v with
    | nil => simp at h
    | cons y v =>
      simp only [List.cons_append, bytesOf]
      rw [ih v k x (by simpa using h), List.append_assoc]
theorem enc8_le (k : Bool) (x : It) (h : k = true → x.2.size ≤ 14) : (enc8 k x).length ≤ 17 := by
  unfold enc8
  cases k with
  | false => simp [two8]
  | true =>
    have h14 := h rfl
    have e : x.2.data.toList.length = x.2.size := by simp
    simp only [if_true, List.length_append, e]
    split <;> simp [two8] <;> omega

theorem cat3 (a t : List UInt8) (S : ByteArray) : ({ data := a.toArray } ++ { data := t.toArray } ++ S : ByteArray) = { data := (a ++ (t ++ (S.data.toList ++ []))).toArray } := by
  have h : S = { data := S.data.toList.toArray } := by simp
  rw [List.append_nil]
  conv => lhs; rw [h]
  rw [ByteArray.mk_append_mk, ByteArray.mk_append_mk, List.append_assoc]
theorem cat4 (a t : List UInt8) (S : ByteArray) : ({ data := a.toArray } ++ { data := t.toArray } ++ S ++ { data := #[0] } : ByteArray) = { data := (a ++ (t ++ (S.data.toList ++ [0]))).toArray } := by
  rw [cat3, List.append_nil, show ({ data := #[0] } : ByteArray) = { data := [0].toArray } from rfl, ByteArray.mk_append_mk]
  simp

/- a value's items, and which of them are strings -/
def Kinds (ks : List Bool) (v : List It) : Prop := ks.length = v.length ∧ ∀ (i : Nat) (k : Bool) (x : It), ks[i]? = some k → v[i]? = some x → (k = true → x.2.size ≤ 14) ∧ (k = false → -32768 ≤ x.1 ∧ x.1 ≤ 65535)
theorem bytesOf_le {ks : List Bool} {v : List It} (h : Kinds ks v) : ∀ i, i ≤ v.length → (bytesOf (ks.take i) (v.take i)).length ≤ 17 * i := by
  intro i
  induction i with
  | zero => intro _; simp [bytesOf]
  | succ i ih =>
    intro hi
    have hk := h.1
    obtain ⟨k, hkk⟩ : ∃ k, ks[i]? = some k := ⟨_, List.getElem?_eq_getElem (by omega)⟩
    obtain ⟨x, hx⟩ : ∃ x, v[i]? = some x := ⟨_, List.getElem?_eq_getElem (by omega)⟩
    rw [List.take_add_one, List.take_add_one, hkk, hx, Option.toList_some, Option.toList_some, bytesOf_snoc _ _ _ _ (by simp; omega), List.length_append]
    have h1 := ih (by omega)
    have h2 := enc8_le k x (h.2 i k x hkk hx).1
    omega
theorem bytesOf_step {ks : List Bool} {v : List It} (h : Kinds ks v) {i : Nat} {k : Bool} {x : It} (hk : ks[i]? = some k) (hx : v[i]? = some x) : bytesOf (ks.take (i + 1)) (v.take (i + 1)) = bytesOf (ks.take i) (v.take i) ++ enc8 k x := by
  have hl := h.1
  have h1 : i < ks.length := (List.getElem?_eq_some_iff.1 hk).1
  rw [List.take_add_one, List.take_add_one, hk, hx, Option.toList_some, Option.toList_some, bytesOf_snoc _ _ _ _ (by simp; omega)]

set_option maxRecDepth 100000 in
set_option maxHeartbeats 1000000 in
theorem bytes_any (s : ByteArray) (V : Value) (v : List It) (ks : List Bool) (w : World) (hI : Items w V v) (hn : v.length ≤ 100000) (hK : Kinds ks v)
    (HT : Calls Tryz.prog 240 #[.string s, .int .i64 0, V, .slice none 0 0] w fun e w' => ∃ O', e = .returned O' ∧ Outs w w' O' ks) :
    Calls Tryz.prog 208 #[.string s, V] w fun e w' => e = .returned (.string ⟨(bytesOf ks v).toArray⟩) ∧ Below w.heap.size w w' := by
  have HTT := hide HT
  have HII := hide hI
  have HKK := hide hK
  obtain ⟨a, cap, hV, _, _⟩ := hI
  subst hV
  clear HT hK
  go_enter Tryz.func208, Tryz.ntmps208
  go_wp2_with fail
  refine (unhide HTT).mono ?_
  rintro e w1 ⟨O, rfl, hO⟩
  have HOO := hide hO
  clear hO HTT
  go_wp2
  go_loopw [6, 7] (fun sv iv wr => ∃ i : Nat, i ≤ v.length ∧ iv = .int .i64 i ∧ sv = .string ⟨(bytesOf (ks.take i) (v.take i)).toArray⟩ ∧ Below w1.heap.size w1 wr) (fun _ iv _ => v.length - (intOf iv).toNat)
  case atStart => exact ⟨0, Nat.zero_le _, rfl, rfl, Below.refl _ _⟩
  case round =>
    obtain ⟨i, hi, rfl, rfl, hb⟩ := hrel
    have hacc := bytesOf_le (unhide HKK) i hi
    by_cases hlt : i < v.length
    · obtain ⟨x, hx⟩ : ∃ x, v[i]? = some x := ⟨_, List.getElem?_eq_getElem hlt⟩
      obtain ⟨k, hk⟩ : ∃ k, ks[i]? = some k := ⟨_, List.getElem?_eq_getElem (by have := (unhide HKK).1; omega)⟩
      have hor := (unhide HOO).go hb
      obtain ⟨b, off, cap', hV, hbl, f0, f1⟩ := ((unhide HII).below hor.below).at hx
      cases hV
      have hstep := bytesOf_step (unhide HKK) hk hx
      have hkd := (unhide HKK).2 i k x hk hx
      obtain ⟨og, ocap, rfl, fo⟩ : ∃ og ocap, O = .slice (some ⟨og, 0, none⟩) ks.length ocap ∧ wr.cell? ⟨og, i, none⟩ = some (.bool k) := by
        have hcl := fun g => hor.own.cells (g := g)
        rcases hor.own.2 with ⟨_, h0⟩ | ⟨g, c2, cur, hv, _⟩
        · have := (unhide HKK).1; omega
        · refine ⟨g, c2, hv, ?_⟩
          have := hcl g (by rw [hv]; rfl) i (.bool k) (by rw [List.getElem?_map, hk]; rfl)
          rw [show (⟨g, 0, none⟩ : Addr).add i = ⟨g, i, none⟩ by simp [Addr.add]; omega] at this
          exact this
      have hkl : (i : Int) < (ks.length : Int) := by have := (unhide HKK).1; omega
      generalize bytesOf (ks.take i) (v.take i) = acc at *
      have HST := hide hstep
      clear hstep hk hx hor
      cases k with
      | false =>
        obtain ⟨n1, n2⟩ := hkd.2 rfl
        have H2 := hide (fun w => two_any x.1 w n1 n2)
        have HR : Hid (bytesOf (ks.take (i + 1)) (v.take (i + 1)) = acc ++ two8 x.1) := by rw [unhide HST]; rfl
        clear HST hkd f1
        go_wp2_with fail
        refine ((unhide H2) _).mono ?_
        rintro e w2 ⟨rfl, hb2⟩
        have hb' := hb.trans (hb2.mono hb.size)
        have hs2 : (two8 x.1).length = 2 := rfl
        generalize two8 x.1 = tw at *
        go_wp2
        go_roundw
        case rel => exact ⟨i + 1, by omega, by go_num, by rw [unhide HR, ByteArray.mk_append_mk], hb'⟩
        case measure => simp [intOf]; omega
      | true =>
        have h14 := hkd.1 rfl
        obtain ⟨N, S⟩ := x
        simp only at h14 f0 f1
        have H2 := hide (fun w => two_any (S.size : Int) w (by omega) (by omega))
        have hs2 : (two8 (S.size : Int)).length = 2 := rfl
        have hSl : S.toList.length = S.size := by rw [ByteArray.toList_eq]; simp
        have HR : Hid (bytesOf (ks.take (i + 1)) (v.take (i + 1)) = acc ++ (two8 (S.size : Int) ++ (S.data.toList ++ (if S.size % 2 = 1 then [0] else [])))) := by rw [unhide HST]; rfl
        generalize two8 (S.size : Int) = tw at *
        clear HST hkd
        by_cases hodd : S.size % 2 = 1
        · have hoI : ((S.size : Int) % 2 == 1) = true := by simp; omega
          rw [if_pos hodd] at HR
          go_wp2_with fail
          go_region_with (go_at_call 219; refine ((unhide H2) _).mono ?_; rintro e w2 ⟨rfl, hb2⟩; have f1' := (hb2.cell (p := ⟨b, off + i * 2 + 1, none⟩) (by exact hbl)).trans f1)
          all_goals
            have hb' : Below w1.heap.size w1 w2 := hb.trans (Below.mono ⟨hb2.os, hb2.tape, hb2.output, hb2.size, hb2.block⟩ hb.size)
            go_wp2
            go_roundw
            case rel => exact ⟨i + 1, by omega, by go_num, by rw [unhide HR]; exact congrArg Value.string (cat4 acc tw S), hb'⟩
            case measure => simp [intOf]; omega
        · have hoI : ((S.size : Int) % 2 == 1) = false := by simp; omega
          rw [if_neg hodd] at HR
          go_wp2_with fail
          go_region_with (go_at_call 219; refine ((unhide H2) _).mono ?_; rintro e w2 ⟨rfl, hb2⟩; have f1' := (hb2.cell (p := ⟨b, off + i * 2 + 1, none⟩) (by exact hbl)).trans f1)
          all_goals
            have hb' : Below w1.heap.size w1 w2 := hb.trans (Below.mono ⟨hb2.os, hb2.tape, hb2.output, hb2.size, hb2.block⟩ hb.size)
            go_wp2
            go_roundw
            case rel => exact ⟨i + 1, by omega, by go_num, by rw [unhide HR]; exact congrArg Value.string (cat3 acc tw S), hb'⟩
            case measure => simp [intOf]; omega
    · obtain rfl : i = v.length := by omega
      rw [List.take_length, List.take_of_length_le (by have := (unhide HKK).1; omega)]
      go_wp2
      go_ret
      exact ⟨rfl, (unhide HOO).below.trans (hb.mono (unhide HOO).below.size)⟩
end Go.Proofs.YtblomippkddgiaaGreatDoor.V
