/-
  Joined: VValue VTexts VBytesA.
-/
import Derived.Test.YthofebmiggodhaaDoorJ10
import Derived.Deep.RegionWith
/-
  The document's own 'value' and 'Fits': by one induction with 'alone'.
-/
namespace Go.Proofs.YthofebmiggodhaaDoor.V
open Go.RowKit

theorem toList_nil {S : ByteArray} : S.toList = [] ↔ S.size = 0 := by
  rw [ByteArray.toList_eq]
  constructor
  · intro h
    have h2 := congrArg List.length h
    rw [Array.length_toList] at h2
    exact h2
  · intro h
    exact List.eq_nil_of_length_eq_zero (by rw [Array.length_toList]; exact h)

theorem eat_cons {g : Nat → Nat} {f p : Nat} {v : List It} {k0 : List Bool} {qs : List Nat} {r : List It} (h : headOf g f p v = some (k0, qs, r)) : eat g (f + 1) p v = joinE k0 (seqE (eat g f) qs r) := by
  simp only [eat, h]
theorem eat_none {g : Nat → Nat} {f p : Nat} {v : List It} (h : headOf g f p v = none) : eat g (f + 1) p v = none := by
  simp only [eat, h]

end Go.Proofs.YthofebmiggodhaaDoor.V
/-
  The document's own 'texts': which items of a value are strings.
-/
namespace Go.Proofs.YthofebmiggodhaaDoor.V
open Go.RowKit

theorem info4 : (Tryd.prog.info? 4).map (fun i => (i.zero, i.size, i.bytes)) = some (some (.bool false), 1, 1) := by kernel_rfl

/- a list of bools in memory of the call's own, all that was there before being as it was -/
structure Outs (w0 w : World) (O : Value) (outs : List Bool) : Prop where
  own : w.ownsRow w0.heap.size 4 1 O outs.length (outs.map Value.bool)
  below : Below w0.heap.size w0 w

theorem row_below {w w' : World} {B n size : Nat} {e : TypeId} {v : Value} {xs : List Value} (h : w.ownsRow B e size v n xs) (hb : Below w.heap.size w w') : w'.ownsRow B e size v n xs := by
  obtain ⟨hl, h⟩ := h
  refine ⟨hl, ?_⟩
  rcases h with h | ⟨g, cap, cur, hv, hg, hh, r⟩
  · exact Or.inl h
  · refine Or.inr ⟨g, cap, cur, hv, hg, ?_, r⟩
    rw [hb.block g (lt_of_block hh)]
    exact hh
theorem Outs.go {w0 w w' : World} {O : Value} {outs : List Bool} (h : Outs w0 w O outs) (hb : Below w.heap.size w w') : Outs w0 w' O outs := ⟨row_below h.own hb, h.below.trans (hb.mono h.below.size)⟩
theorem Outs.nil (w0 : World) : Outs w0 w0 (.slice none 0 0) [] := ⟨World.ownsRow_nil _ _ _ _, Below.refl _ _⟩
theorem Outs.shape {w0 w : World} {O : Value} {outs : List Bool} (h : Outs w0 w O outs) : ∃ a cap, O = .slice a outs.length cap := by
  rcases h.own.2 with ⟨hv, h0⟩ | ⟨g, cap, cur, hv, _⟩
  · exact ⟨none, 0, by rw [hv, h0]⟩
  · exact ⟨_, _, hv⟩

theorem seqE_take {E : Nat → List It → Eaten} {qs : List Nat} {v : List It} {ks : List Bool} {r : List It} (h : seqE E qs v = some (ks, r)) (k : Nat) : ∃ k1 r1, seqE E (qs.take k) v = some (k1, r1) := by
  cases hs : seqE E (qs.take k) v with
  | none => rw [seqE_none E hs] at h; cases h
  | some e => exact ⟨e.1, e.2, rfl⟩

/- one more type of the list -/
theorem seqE_one {E : Nat → List It → Eaten} {qs : List Nat} {v : List It} {ks : List Bool} {r : List It} (h : seqE E qs v = some (ks, r)) {k q : Nat} (hq : qs[k]? = some q) {k1 : List Bool} {r1 : List It} (h1 : seqE E (qs.take k) v = some (k1, r1)) :
    ∃ k2 r2, E q r1 = some (k2, r2) ∧ seqE E (qs.take (k + 1)) v = some (k1 ++ k2, r2) := by
  obtain ⟨ka, ra, h2⟩ := seqE_take h (k + 1)
  rw [List.take_add_one, hq, Option.toList_some, seqE_snoc, h1] at h2
  simp only at h2
  cases hE : E q r1 with
  | none => rw [hE] at h2; cases h2
  | some e =>
    refine ⟨e.1, e.2, rfl, ?_⟩
    rw [List.take_add_one, hq, Option.toList_some, seqE_snoc, h1]
    simp only [hE]
    rfl

theorem eat_some {g : Nat → Nat} {f p : Nat} {v : List It} {ks : List Bool} {r : List It} (h : eat g (f + 1) p v = some (ks, r)) : ∃ k0 qs r0 k, headOf g f p v = some (k0, qs, r0) ∧ seqE (eat g f) qs r0 = some (k, r) ∧ ks = k0 ++ k := by
  simp only [eat] at h
  cases hh : headOf g f p v with
  | none => rw [hh] at h; cases h
  | some e =>
    obtain ⟨k0, qs, r0⟩ := e
    rw [hh] at h
    simp only at h
    cases hs : seqE (eat g f) qs r0 with
    | none => rw [hs] at h; cases h
    | some e' =>
      obtain ⟨k, r'⟩ := e'
      rw [hs] at h
      simp only [joinE, Option.some.injEq, Prod.mk.injEq] at h
      obtain ⟨rfl, rfl⟩ := h
      exact ⟨k0, qs, r0, k, rfl, hs, rfl⟩

end Go.Proofs.YthofebmiggodhaaDoor.V
/-
  The document's own 'two' and 'Bytes'.
-/
namespace Go.Proofs.YthofebmiggodhaaDoor.V
open Go.RowKit

def b8 (n : Int) : UInt8 := UInt8.ofNat n.toNat
theorem b8_val {n : Int} (h0 : 0 ≤ n) (h1 : n ≤ 255) : ((b8 n).toNat : Int) = n := by
  unfold b8
  rw [UInt8.toNat_ofNat_of_lt' (by show n.toNat < 256; omega)]
  omega
/- a number in two bytes -/
def two8 (n : Int) : List UInt8 := [b8 (n % 65536 / 256), b8 (n % 256)]

theorem conv_two (w : World) (a b : Int) : (convert 138 9 (.slice (some ⟨w.heap.size, 0, none⟩) 2 2)).run Tryd.prog (w.alloc (.cells #[.int .u8 a, .int .u8 b] 5)) = .ok (.string ⟨[b8 a, b8 b].toArray⟩) (w.alloc (.cells #[.int .u8 a, .int .u8 b] 5)) := by
  rw [run_convert_bytes_string _ 138 9 5 _ _ _ Tryd.underlying138 Tryd.underlying5 Tryd.underlying9, run_bytesToString _ _ _ _ [a, b]]
  · rfl
  · simp [loadCells, go_sem]

def enc8 (k : Bool) (x : It) : List UInt8 := if k then two8 x.2.size ++ (x.2.data.toList ++ (if x.2.size % 2 = 1 then [0] else [])) else two8 x.1
def bytesOf : List Bool → List It → List UInt8
  | k :: ks, x :: v => enc8 k x ++ bytesOf ks v
  | _, _ => []

theorem bytesOf_snoc : ∀ (ks : List Bool) (v : List It) (k : Bool) (x : It), ks.length = v.length → bytesOf (ks ++ [k]) (v ++ [x]) = bytesOf ks v ++ enc8 k x := by
  intro ks
  induction ks with
  | nil => intro v k x h; cases v with
    | nil => simp [bytesOf]
    | cons y v => simp at h
  | cons a ks ih => intro v k x h; cases v with
    | nil => simp at h
    | cons y v =>
      simp only [List.cons_append, bytesOf]
      rw [ih v k x (by simpa using h), List.append_assoc]
theorem enc8_le (k : Bool) (x : It) (h : k = true → x.2.size ≤ 14) : (enc8 k x).length ≤ 17 := by
  unfold enc8
  cases k with
  | false => simp [two8]
  | true =>
    have h14 := h rfl
    have e : x.2.data.toList.length = x.2.size := by simp
    simp only [if_true, List.length_append, e]
    split <;> simp [two8] <;> omega

theorem cat3 (a t : List UInt8) (S : ByteArray) : ({ data := a.toArray } ++ { data := t.toArray } ++ S : ByteArray) = { data := (a ++ (t ++ (S.data.toList ++ []))).toArray } := by
  have h : S = { data := S.data.toList.toArray } := by simp
  rw [List.append_nil]
  conv => lhs; rw [h]
  rw [ByteArray.mk_append_mk, ByteArray.mk_append_mk, List.append_assoc]
theorem cat4 (a t : List UInt8) (S : ByteArray) : ({ data := a.toArray } ++ { data := t.toArray } ++ S ++ { data := #[0] } : ByteArray) = { data := (a ++ (t ++ (S.data.toList ++ [0]))).toArray } := by
  rw [cat3, List.append_nil, show ({ data := #[0] } : ByteArray) = { data := [0].toArray } from rfl, ByteArray.mk_append_mk]
  simp

/- a value's items, and which of them are strings -/
def Kinds (ks : List Bool) (v : List It) : Prop := ks.length = v.length ∧ ∀ (i : Nat) (k : Bool) (x : It), ks[i]? = some k → v[i]? = some x → (k = true → x.2.size ≤ 14) ∧ (k = false → -32768 ≤ x.1 ∧ x.1 ≤ 65535)
theorem bytesOf_le {ks : List Bool} {v : List It} (h : Kinds ks v) : ∀ i, i ≤ v.length → (bytesOf (ks.take i) (v.take i)).length ≤ 17 * i := by
  intro i
  induction i with
  | zero => intro _; simp [bytesOf]
  | succ i ih =>
    intro hi
    have hk := h.1
    obtain ⟨k, hkk⟩ : ∃ k, ks[i]? = some k := ⟨_, List.getElem?_eq_getElem (by omega)⟩
    obtain ⟨x, hx⟩ : ∃ x, v[i]? = some x := ⟨_, List.getElem?_eq_getElem (by omega)⟩
    rw [List.take_add_one, List.take_add_one, hkk, hx, Option.toList_some, Option.toList_some, bytesOf_snoc _ _ _ _ (by simp; omega), List.length_append]
    have h1 := ih (by omega)
    have h2 := enc8_le k x (h.2 i k x hkk hx).1
    omega
theorem bytesOf_step {ks : List Bool} {v : List It} (h : Kinds ks v) {i : Nat} {k : Bool} {x : It} (hk : ks[i]? = some k) (hx : v[i]? = some x) : bytesOf (ks.take (i + 1)) (v.take (i + 1)) = bytesOf (ks.take i) (v.take i) ++ enc8 k x := by
  have hl := h.1
  have h1 : i < ks.length := (List.getElem?_eq_some_iff.1 hk).1
  rw [List.take_add_one, List.take_add_one, hk, hx, Option.toList_some, Option.toList_some, bytesOf_snoc _ _ _ _ (by simp; omega)]

end Go.Proofs.YthofebmiggodhaaDoor.V
