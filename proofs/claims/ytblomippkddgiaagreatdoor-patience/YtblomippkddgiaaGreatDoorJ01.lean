/-
  Joined: Pack Wire.
-/
import Derived.Test.YtblomippkddgiaaGreatDoorJ00
import Derived.Lib.BufferWrite
import Derived.Lib.UnsafeStr
import Derived.Laws.MakeOwn
import Derived.Below
import Derived.Deep.RegionWith
/-
  Packets and their bytes, with no program in sight: what is right, what Seal makes, what Open reads; a packet comes back; a byte turned, less or more is refused.
-/
namespace Go.Proofs.YtblomippkddgiaaGreatDoor

structure Pk where
  kind : Int
  client : Int
  life : Int
  line : Int
  seq : Int
  uid : Int
  part : Int
  off : Int
  please : Bool
  body : List UInt8

def bodyOk (p : Pk) : Prop := if p.kind = 1 ∨ p.kind = 5 then (if p.part < p.off - 1 then p.body.length = 8 else p.body.length ≤ 8) else p.body.length = 0
instance (p : Pk) : Decidable (bodyOk p) := by unfold bodyOk; infer_instance
def RightP (p : Pk) : Prop := (1 ≤ p.kind ∧ p.kind ≤ 7) ∧ (0 ≤ p.client ∧ p.client ≤ 2) ∧ (1 ≤ p.life ∧ p.life ≤ 255) ∧ (0 ≤ p.line ∧ p.line ≤ 2) ∧ (1 ≤ p.seq ∧ p.seq ≤ 999) ∧ (1 ≤ p.uid ∧ p.uid ≤ 255) ∧ (1 ≤ p.off ∧ p.off ≤ 9) ∧ (0 ≤ p.part ∧ p.part ≤ p.off - 1) ∧ bodyOk p
instance (p : Pk) : Decidable (RightP p) := by unfold RightP; infer_instance

theorem body_le {p : Pk} (h : RightP p) : p.body.length ≤ 8 := by
  obtain ⟨_, _, _, _, _, _, _, _, h⟩ := h
  unfold bodyOk at h
  split at h
  · split at h <;> omega
  · omega

def b8 (n : Int) : UInt8 := UInt8.ofNat n.toNat
theorem b8_val {n : Int} (h0 : 0 ≤ n) (h1 : n ≤ 255) : ((b8 n).toNat : Int) = n := by
  unfold b8
  rw [UInt8.toNat_ofNat_of_lt' (by show n.toNat < 256; omega)]
  omega
theorem b8_nat (c : UInt8) : b8 (c.toNat : Int) = c := by
  unfold b8
  simp
theorem b8_inj {a b : Int} (a0 : 0 ≤ a) (a1 : a ≤ 255) (b0 : 0 ≤ b) (b1 : b ≤ 255) (h : b8 a = b8 b) : a = b := by
  have := congrArg (fun c => ((UInt8.toNat c : Nat) : Int)) h
  simp only [b8_val a0 a1, b8_val b0 b1] at this
  exact this
def two8 (n : Int) : List UInt8 := [b8 (n / 256), b8 (n % 256)]
def num2 (a c : UInt8) : Int := (a.toNat : Int) * 256 + (c.toNat : Int)
theorem num2_two {n : Int} (h0 : 0 ≤ n) (h1 : n ≤ 65535) : num2 (b8 (n / 256)) (b8 (n % 256)) = n := by
  unfold num2
  rw [b8_val (by omega) (by omega), b8_val (by omega) (by omega)]
  omega
theorem two_num2 (a c : UInt8) : two8 (num2 a c) = [a, c] := by
  unfold two8 num2
  have ha := a.toNat_lt
  have hc := c.toNat_lt
  rw [show ((a.toNat : Int) * 256 + (c.toNat : Int)) / 256 = (a.toNat : Int) by omega, show ((a.toNat : Int) * 256 + (c.toNat : Int)) % 256 = (c.toNat : Int) by omega, b8_nat, b8_nat]
theorem two8_inj {a b : Int} (a0 : 0 ≤ a) (a1 : a ≤ 65535) (b0 : 0 ≤ b) (b1 : b ≤ 65535) (h : two8 a = two8 b) : a = b := by
  unfold two8 at h
  simp only [List.cons.injEq, and_true] at h
  have h1 := b8_inj (by omega) (by omega) (by omega) (by omega) h.1
  have h2 := b8_inj (by omega) (by omega) (by omega) (by omega) h.2
  omega

def yes (b : Bool) : Int := if b then 1 else 0
def nums (p : Pk) : List Int := [p.kind, p.client, p.life, p.line, p.seq / 256, p.seq % 256, p.uid, p.part, p.off, yes p.please, (p.body.length : Int)]
def headB (p : Pk) : List UInt8 := (nums p).map b8 ++ p.body
def crcI (l : List UInt8) : Int := ((crc l).toNat : Int)
theorem crcI_lt (l : List UInt8) : 0 ≤ crcI l ∧ crcI l ≤ 65535 := by
  unfold crcI
  have := (crc l).isLt
  omega
def sealB (p : Pk) : List UInt8 := headB p ++ two8 (crcI (headB p))
theorem headB_length (p : Pk) : (headB p).length = 11 + p.body.length := by
  unfold headB nums
  simp
  omega
theorem sealB_length (p : Pk) : (sealB p).length = 13 + p.body.length := by
  unfold sealB
  rw [List.length_append, headB_length]
  simp [two8]
  omega

/- as the landed code reads -/
def fieldsP : List UInt8 → Option (Pk × List UInt8)
  | k :: c :: li :: ln :: s1 :: s2 :: u :: pa :: o :: f :: L :: r =>
    if f.toNat ≤ 1 ∧ L.toNat ≤ r.length then some (⟨k.toNat, c.toNat, li.toNat, ln.toNat, num2 s1 s2, u.toNat, pa.toNat, o.toNat, (f.toNat : Int) == 1, r.take L.toNat⟩, r.drop L.toNat) else none
  | _ => none
def sumP (l r : List UInt8) : Option (List UInt8) := match r with
  | a :: b :: t => if num2 a b = crcI (l.take (l.length - r.length)) then some t else none
  | _ => none
def readP (l : List UInt8) : Option Pk := match fieldsP l with
  | none => none
  | some (p, r) => if RightP p then (match sumP l r with | some [] => some p | _ => none) else none

theorem fields_some {l : List UInt8} {p : Pk} {r : List UInt8} (h : fieldsP l = some (p, r)) : l = headB p ++ r := by
  unfold fieldsP at h
  split at h
  · rename_i k c li ln s1 s2 u pa o f L t
    split at h
    · rename_i hc
      simp only [Option.some.injEq, Prod.mk.injEq] at h
      obtain ⟨rfl, rfl⟩ := h
      unfold headB nums
      have ha := s1.toNat_lt
      have hb := s2.toNat_lt
      have hf : b8 (yes ((f.toNat : Int) == 1)) = f := by
        have : f.toNat = 0 ∨ f.toNat = 1 := by omega
        rcases this with h | h
        · have e : f = 0 := UInt8.toNat_inj.1 h
          subst e; rfl
        · have e : f = 1 := UInt8.toNat_inj.1 h
          subst e; rfl
      have hL : ((List.take L.toNat t).length : Int) = (L.toNat : Int) := by
        rw [List.length_take]
        omega
      have h1 : num2 s1 s2 / 256 = (s1.toNat : Int) := by unfold num2; omega
      have h2 : num2 s1 s2 % 256 = (s2.toNat : Int) := by unfold num2; omega
      simp only [List.map_cons, List.map_nil, hL, hf, h1, h2, b8_nat, List.cons_append, List.nil_append, List.take_append_drop]
    · cases h
  · cases h

theorem fields_seal {p : Pk} (h : RightP p) : fieldsP (sealB p) = some (p, two8 (crcI (headB p))) := by
  have hb := body_le h
  obtain ⟨h1, h2, h3, h4, h5, h6, h7, h8, _⟩ := h
  unfold sealB
  generalize hT : two8 (crcI (headB p)) = T
  have hTl : T.length = 2 := by rw [← hT]; rfl
  clear hT
  unfold headB nums
  simp only [List.map_cons, List.map_nil, List.cons_append, List.nil_append]
  unfold fieldsP
  obtain ⟨kind, client, life, line, seq, uid, part, off, please, body⟩ := p
  simp only at hb h1 h2 h3 h4 h5 h6 h7 h8 ⊢
  have e1 := b8_val (n := kind) (by omega) (by omega)
  have e2 := b8_val (n := client) (by omega) (by omega)
  have e3 := b8_val (n := life) (by omega) (by omega)
  have e4 := b8_val (n := line) (by omega) (by omega)
  have e5 := num2_two (n := seq) (by omega) (by omega)
  have e6 := b8_val (n := uid) (by omega) (by omega)
  have e7 := b8_val (n := part) (by omega) (by omega)
  have e8 := b8_val (n := off) (by omega) (by omega)
  have e9 : ((b8 (yes please)).toNat : Int) = yes please := b8_val (by unfold yes; split <;> omega) (by unfold yes; split <;> omega)
  have e10 := b8_val (n := (body.length : Int)) (by omega) (by omega)
  have e11 : (b8 (body.length : Int)).toNat = body.length := by omega
  rw [if_pos]
  · rw [e1, e2, e3, e4, e5, e6, e7, e8, e9, e11, List.take_append_of_le_length (Nat.le_refl _), List.take_length, List.drop_append_of_le_length (Nat.le_refl _), List.drop_length, List.nil_append]
    cases please <;> rfl
  · refine ⟨?_, ?_⟩
    · unfold yes at e9
      split at e9 <;> (unfold yes; simp_all; try omega)
    · rw [e11, List.length_append]
      omega

theorem take_head (m t : List UInt8) : (m ++ t).take ((m ++ t).length - t.length) = m := by
  rw [List.length_append, Nat.add_sub_cancel, List.take_left]

theorem readP_iff (l : List UInt8) (p : Pk) : readP l = some p ↔ RightP p ∧ l = sealB p := by
  constructor
  · intro h
    unfold readP at h
    cases hf : fieldsP l with
    | none => rw [hf] at h; cases h
    | some x =>
      obtain ⟨q, r⟩ := x
      have hl := fields_some hf
      rw [hf] at h
      simp only at h
      split at h
      · rename_i hr
        split at h
        · rename_i hs
          cases h
          refine ⟨hr, ?_⟩
          unfold sumP at hs
          split at hs
          · rename_i a b t
            split at hs
            · rename_i hn
              cases hs
              have e : l.take (l.length - [a, b].length) = headB p := by rw [hl]; exact take_head _ _
              rw [e] at hn
              unfold sealB
              rw [hl, ← hn, two_num2]
            · cases hs
          · cases hs
        · cases h
      · cases h
  · rintro ⟨hr, rfl⟩
    unfold readP
    rw [fields_seal hr]
    simp only
    rw [if_pos hr]
    have hc := crcI_lt (headB p)
    have e : sumP (sealB p) (two8 (crcI (headB p))) = some [] := by
      have e2 : (sealB p).take ((sealB p).length - (two8 (crcI (headB p))).length) = headB p := take_head _ _
      have e3 := num2_two hc.1 hc.2
      show (if num2 (b8 (crcI (headB p) / 256)) (b8 (crcI (headB p) % 256)) = crcI ((sealB p).take ((sealB p).length - (two8 (crcI (headB p))).length)) then some [] else none) = some []
      rw [e2, e3, if_pos rfl]
    rw [e]

/- as the document's answer reads -/
def refP (l : List UInt8) : Pk := ⟨(l.getD 0 0).toNat, (l.getD 1 0).toNat, (l.getD 2 0).toNat, (l.getD 3 0).toNat, num2 (l.getD 4 0) (l.getD 5 0), (l.getD 6 0).toNat, (l.getD 7 0).toNat, (l.getD 8 0).toNat, ((l.getD 9 0).toNat : Int) == 1, (l.drop 11).take (l.length - 13)⟩
def openR (l : List UInt8) : Option Pk := if l.length < 13 then none else if RightP (refP l) then (if sealB (refP l) = l then some (refP l) else none) else none

theorem refP_seal {p : Pk} (h : RightP p) : refP (sealB p) = p := by
  have hb := body_le h
  have hlen := sealB_length p
  obtain ⟨h1, h2, h3, h4, h5, h6, h7, h8, _⟩ := h
  unfold refP
  rw [hlen]
  unfold sealB
  generalize hT : two8 (crcI (headB p)) = T
  clear hT hlen
  unfold headB nums
  obtain ⟨kind, client, life, line, seq, uid, part, off, please, body⟩ := p
  simp only at hb h1 h2 h3 h4 h5 h6 h7 h8 ⊢
  have e1 := b8_val (n := kind) (by omega) (by omega)
  have e2 := b8_val (n := client) (by omega) (by omega)
  have e3 := b8_val (n := life) (by omega) (by omega)
  have e4 := b8_val (n := line) (by omega) (by omega)
  have e5 := num2_two (n := seq) (by omega) (by omega)
  have e6 := b8_val (n := uid) (by omega) (by omega)
  have e7 := b8_val (n := part) (by omega) (by omega)
  have e8 := b8_val (n := off) (by omega) (by omega)
  have e9 : ((b8 (yes please)).toNat : Int) = yes please := b8_val (by unfold yes; split <;> omega) (by unfold yes; split <;> omega)
  simp only [List.map_cons, List.map_nil, List.cons_append, List.nil_append, List.getD_cons_zero, List.getD_cons_succ, List.drop_succ_cons, List.drop_zero]
  rw [e1, e2, e3, e4, e5, e6, e7, e8, e9, show 13 + body.length - 13 = body.length by omega, List.take_append_of_le_length (Nat.le_refl _), List.take_length]
  cases please <;> rfl

theorem openR_iff (l : List UInt8) (p : Pk) : openR l = some p ↔ RightP p ∧ l = sealB p := by
  unfold openR
  constructor
  · intro h
    split at h
    · cases h
    · split at h
      · rename_i hr
        split at h
        · rename_i hs
          cases h
          exact ⟨hr, hs.symm⟩
        · cases h
      · cases h
  · rintro ⟨hr, rfl⟩
    have := sealB_length p
    rw [if_neg (by omega), refP_seal hr, if_pos hr, if_pos rfl]
theorem openR_readP (l : List UInt8) : openR l = readP l := by
  apply Option.ext
  intro p
  exact (openR_iff l p).trans (readP_iff l p).symm

theorem readP_seal {p : Pk} (h : RightP p) : readP (sealB p) = some p := (readP_iff _ _).2 ⟨h, rfl⟩

theorem seal_ten (p : Pk) : (sealB p)[10]? = some (b8 (p.body.length : Int)) := by
  unfold sealB headB nums
  simp

theorem read_none {l : List UInt8} (h : ∀ q, RightP q → l ≠ sealB q) : readP l = none := by
  cases hr : readP l with
  | none => rfl
  | some q =>
    obtain ⟨h1, h2⟩ := (readP_iff _ _).1 hr
    exact absurd h2 (h q h1)

theorem same_body {p q : Pk} (h : RightP p) (k : RightP q) (e : b8 (p.body.length : Int) = b8 (q.body.length : Int)) : p.body.length = q.body.length := by
  have h1 := body_le h
  have h2 := body_le k
  have := b8_inj (by omega) (by omega) (by omega) (by omega) e
  omega
theorem seal_less {p : Pk} (h : RightP p) : readP ((sealB p).take ((sealB p).length - 1)) = none := by
  apply read_none
  intro q hq e
  have l1 := sealB_length p
  have l2 := sealB_length q
  have h10 := congrArg (·[10]?) e
  simp only [List.getElem?_take] at h10
  rw [if_pos (by omega), seal_ten, seal_ten] at h10
  have hb := same_body h hq (Option.some.inj h10)
  have hl := congrArg List.length e
  rw [List.length_take] at hl
  omega
theorem seal_more {p : Pk} (h : RightP p) (c : UInt8) : readP (sealB p ++ [c]) = none := by
  apply read_none
  intro q hq e
  have l1 := sealB_length p
  have l2 := sealB_length q
  have h10 : (sealB p ++ [c])[10]? = (sealB q)[10]? := by rw [e]
  rw [List.getElem?_append_left (by omega), seal_ten, seal_ten] at h10
  have hb := same_body h hq (Option.some.inj h10)
  have hl := congrArg List.length e
  rw [List.length_append, List.length_singleton] at hl
  omega

theorem seal_turned (p : Pk) (i : Nat) (c : UInt8) (hi : i < (sealB p).length) (hc : (sealB p)[i]? ≠ some c) : readP ((sealB p).set i c) = none := by
  apply read_none
  intro q _ e
  have l1 := sealB_length p
  have l2 := sealB_length q
  have hl := congrArg List.length e
  rw [List.length_set] at hl
  have hh : (headB p).length = (headB q).length := by rw [headB_length, headB_length]; omega
  have cp := crcI_lt (headB p)
  have cq := crcI_lt (headB q)
  unfold sealB at e hc
  by_cases hlt : i < (headB p).length
  · rw [List.set_append_left _ _ hlt] at e
    obtain ⟨e1, e2⟩ := List.append_inj e (by rw [List.length_set]; exact hh)
    have e3 := two8_inj cp.1 cp.2 cq.1 cq.2 e2
    rw [List.getElem?_append_left hlt] at hc
    obtain ⟨x, hx⟩ : ∃ x, (headB p)[i]? = some x := ⟨_, List.getElem?_eq_getElem hlt⟩
    have hx' := (List.getElem?_eq_some_iff.1 hx)
    have d1 : headB p = (headB p).take i ++ x :: (headB p).drop (i + 1) := by
      conv => lhs; rw [← List.take_append_drop i (headB p), List.drop_eq_getElem_cons hlt]
      rw [hx'.2]
    have d2 : headB q = (headB p).take i ++ c :: (headB p).drop (i + 1) := by
      rw [← e1, List.set_eq_take_append_cons_drop, if_pos hlt]
    have hne : x ≠ c := by
      intro hxc
      rw [hx, hxc] at hc
      exact hc rfl
    refine crc_flip ((headB p).take i) ((headB p).drop (i + 1)) x c hne ?_
    rw [← d1, ← d2]
    apply BitVec.eq_of_toNat_eq
    unfold crcI at e3
    omega
  · rw [List.set_append_right _ _ (by omega)] at e
    obtain ⟨e1, e2⟩ := List.append_inj e hh
    rw [← e1] at e2
    have h2 : (two8 (crcI (headB p))).length = 2 := rfl
    have hj : i - (headB p).length < (two8 (crcI (headB p))).length := by
      rw [h2]
      have := headB_length p
      omega
    rw [List.getElem?_append_right (by omega)] at hc
    apply hc
    have := congrArg (·[i - (headB p).length]?) e2
    simp only [List.getElem?_set_self hj] at this
    exact this.symm

end Go.Proofs.YtblomippkddgiaaGreatDoor
/-
  The landed code's reader of bytes, as packets use it: bytes taken, a number in one byte and in two, a copy of a string.
-/
namespace Go.Proofs.YtblomippkddgiaaGreatDoor
open Go.RowKit

abbrev faultOf (n q : Nat) : Value := .agg #[.int .i64 n, .int .i64 q]
abbrev gaveUp (n q : Nat) : Ending := .panicked [{ v := .iface 86 (faultOf n q), recovered := false }]

theorem lt_of_block {w : World} {k : Nat} {o : Obj} (h : w.heap[k]? = some o) : k < w.heap.size := by
  rcases Nat.lt_or_ge k w.heap.size with hh | hh
  · exact hh
  · rw [Array.getElem?_eq_none hh] at h
    cases h
theorem str_extract (l : List UInt8) (a b : Nat) : (str l).extract a b = str ((l.drop a).take (b - a)) := by
  apply ByteArray.ext
  simp [ByteArray.data_extract, List.extract_eq_take_drop]
def u8s (l : List UInt8) : List Value := l.map fun c => Value.int .u8 (c.toNat : Int)
theorem info5 : (Tryz.prog.info? 5).map (fun i => (i.zero, i.size, i.bytes)) = some (some (.int .u8 0), 1, 1) := by kernel_rfl

theorem run_copied (w : World) (l : List UInt8) (M : Array Value) (hM : M.size = l.length) :
    (Builtin.copy_ #[199, 9] 3 #[.slice (some ⟨w.heap.size, 0, none⟩) l.length l.length, .string (str l)]).run Tryz.prog (w.alloc (.cells M 5)) = .ok (goInt l.length) ((w.alloc (.cells M 5)).setRow w.heap.size (u8s l).toArray) := by
  have h := Lib.run_copy_row_string (P := Tryz.prog) (w.alloc (.cells M 5)) 199 9 3 5 w.heap.size 0 l.length l.length (str l) M 5 Tryz.underlying199 (by kernel_rfl) (heap_alloc_new w _) (by rw [str_size]; exact Nat.le_refl _) (by rw [str_size]; omega)
  rw [str_size] at h
  have e : M.toList.drop (0 + l.length) = [] := List.drop_of_length_le (by rw [Array.length_toList]; omega)
  have e2 : M.toList.take 0 ++ Lib.byteCells (str l).data.toList ++ M.toList.drop (0 + l.length) = u8s l := by
    rw [e, List.take_zero, List.nil_append, List.append_nil]
    rfl
  rw [e2] at h
  exact h

theorem below_laid (w : World) (M : Array Value) (Y : Array Value) (n : Nat) : Below w.heap.size w (((w.alloc (.cells M 5)).setRow w.heap.size Y).freeze ⟨w.heap.size, 0, none⟩ n) := by
  refine Lib.below_freeze (p := ⟨w.heap.size, 0, none⟩) ?_ (Nat.le_refl _) _
  exact ((Below.refl w.heap.size w).alloc (Nat.le_refl _) _).trans ⟨rfl, rfl, rfl, by simp [World.setRow], fun k hk => setRow_other _ _ _ _ (by omega)⟩

theorem run_shared (w : World) (l : List UInt8) (M : Array Value) (h0 : l ≠ []) (hl : l.length ≤ 1000) :
    (Builtin.unsafeString_ #[338, 3] 9 #[.pointer (some ⟨w.heap.size, 0, none⟩), .int .i64 l.length]).run Tryz.prog ((w.alloc (.cells M 5)).setRow w.heap.size (u8s l).toArray) = .ok (.string (str l)) (((w.alloc (.cells M 5)).setRow w.heap.size (u8s l).toArray).freeze ⟨w.heap.size, 0, none⟩ l.length) := by
  have hg := setRow_heap (w.alloc (.cells M 5)) w.heap.size M (u8s l).toArray 5 (0, 0) (heap_alloc_new w _)
  have hsz : (u8s l).toArray.size = l.length := by simp [u8s]
  refine Lib.run_unsafeString_row (P := Tryz.prog) _ 338 3 9 5 Tryz.underlying338 (by kernel_rfl) w.heap.size l.length ?_ l h0 (Nat.le_refl _) (by omega) fun j x hx => ?_
  · unfold World.shape?
    rw [hg]
    simp [u8s]
  · refine Lib.cells_of_row hg l.length j _ ?_
    rw [List.toList_toArray, List.take_of_length_le (by simp [u8s])]
    unfold u8s
    rw [List.getElem?_map, hx]
    rfl

set_option maxRecDepth 100000 in
set_option maxHeartbeats 1000000 in
theorem clone_low (l : List UInt8) (w : World) (hl : l.length ≤ 1000) : Calls Tryz.prog 229 #[.string (str l)] w fun e w' => e = .returned (.string (str l)) ∧ Below w.heap.size w w' := by
  have hsz := str_size l
  by_cases h0 : l = []
  · subst h0
    go_enter Tryz.func229, Tryz.ntmps229
    go_wp2
    go_ret
    exact ⟨rfl, Below.refl _ _⟩
  · obtain ⟨i0, hi, hz0, hz1, hz2⟩ := info_parts info5
    have hpos : 0 < l.length := List.length_pos_iff.2 h0
    obtain ⟨M, hM⟩ : ∃ M, M = madeCells (Value.int .u8 0).cells (l.length * 1) := ⟨_, rfl⟩
    have hMs : M.size = l.length := by rw [hM, size_madeCells]; omega
    have hmk : ∀ W : World, (Instr.makeSlice 199 (.int .i64 (l.length : Int)) (.int .i64 (l.length : Int))).run Tryz.prog W = .ok (.slice (some ⟨W.heap.size, 0, none⟩) l.length l.length) (W.alloc (.cells M 5)) := fun W => by
      have h := run_make (P := Tryz.prog) W 199 5 i0 (.int .u8 0) Tryz.underlying199 hi hz0 .i64 .i64 (l.length : Int) (l.length : Int) (by omega) (Int.le_refl _) (by rw [hz2]; omega) (by omega)
      rw [hz1, Int.toNat_natCast, ← hM] at h
      exact h
    have hcp := run_copied w l M hMs
    have hus := run_shared w l M h0 hl
    have HB := hide (below_laid w M (u8s l).toArray l.length)
    have hne : ((l.length : Int) == 0) = false := by simp; omega
    generalize hY : (u8s l).toArray = Y at *
    generalize hS : str l = S at *
    clear hM hY h0 hS
    generalize l.length = n at *
    subst hsz
    go_enter Tryz.func229, Tryz.ntmps229
    go_wp2
    go_ret
    exact ⟨rfl, unhide HB⟩

set_option maxRecDepth 100000 in
set_option maxHeartbeats 400000 in
theorem clone_any (l : List UInt8) (w : World) (hl : l.length ≤ 1000) : Calls Tryz.prog 184 #[.string (str l)] w fun e w' => e = .returned (.string (str l)) ∧ Below w.heap.size w w' := by
  have H := hide (clone_low l w hl)
  generalize hS : str l = S at *
  clear hS
  go_enter Tryz.func184, Tryz.ntmps184
  go_wp2_with fail
  refine (unhide H).mono ?_
  rintro e w1 ⟨rfl, hb⟩
  go_wp2
  go_ret
  exact ⟨rfl, hb⟩

/- the reader lies in block b: what is left of the bytes -/
def Rd (w : World) (b : Nat) (l : List UInt8) : Prop := w.heap[b]? = some (.cells #[.string (str l), .int .i64 7] 127 (0, 0))
theorem Rd.left {w : World} {b : Nat} {l : List UInt8} (h : Rd w b l) : w.cell? ⟨b, 0, none⟩ = some (.string (str l)) := by
  unfold Rd at h
  simp [World.cell?, h]
theorem Rd.wrong {w : World} {b : Nat} {l : List UInt8} (h : Rd w b l) : w.cell? ⟨b, 1, none⟩ = some (.int .i64 7) := by
  unfold Rd at h
  simp [World.cell?, h]
theorem Rd.thaw {w : World} {b : Nat} {l : List UInt8} (h : Rd w b l) (o : Nat) : w.frozen? ⟨b, o, none⟩ = false := by
  unfold Rd at h
  simp [World.frozen?, h]
theorem Rd.lt {w : World} {b : Nat} {l : List UInt8} (h : Rd w b l) : b < w.heap.size := lt_of_block h
theorem Rd.set {w : World} {b : Nat} {l : List UInt8} (h : Rd w b l) (l' : List UInt8) : Rd (w.setCell ⟨b, 0, none⟩ (.string (str l'))) b l' := by
  unfold Rd at h ⊢
  simp only [World.setCell, Array.getElem?_modify, h]
  simp
theorem Rd.below {w w' : World} {b B : Nat} {l : List UInt8} (h : Rd w b l) (hb : Below B w w') (hB : b < B) : Rd w' b l := by
  unfold Rd at h ⊢
  rw [hb.block b hB]
  exact h

set_option maxRecDepth 100000 in
set_option maxHeartbeats 400000 in
theorem refuse_any (b : Nat) (l : List UInt8) (w : World) (h : Rd w b l) : Calls Tryz.prog 120 #[.pointer (some ⟨b, 0, none⟩)] w fun e w' => e = gaveUp 7 0 ∧ w' = w := by
  have h1 := h.wrong
  clear h
  go_enter Tryz.func120, Tryz.ntmps120
  go_wp2
  exact ⟨rfl, rfl, rfl⟩

set_option maxRecDepth 100000 in
set_option maxHeartbeats 1000000 in
theorem take_ok (b : Nat) (l : List UInt8) (n : Nat) (w : World) (h : Rd w b l) (hn : n ≤ l.length) (hl : l.length ≤ 9223372036854775807) :
    Calls Tryz.prog 190 #[.pointer (some ⟨b, 0, none⟩), .int .i64 n] w fun e w' => e = .returned (.string (str (l.take n))) ∧ w' = w.setCell ⟨b, 0, none⟩ (.string (str (l.drop n))) := by
  have h1 := h.left
  have h2 := h.thaw 0
  have hsz := str_size l
  have e1 : (str l).extract 0 n = str (l.take n) := by rw [str_extract]; simp
  have e2 : (str l).extract n (str l).size = str (l.drop n) := by
    rw [str_extract, str_size, List.take_of_length_le (by rw [List.length_drop]; omega)]
  generalize hS : str l = S at *
  generalize hA : str (l.take n) = A at *
  generalize hB : str (l.drop n) = B at *
  clear hS hA hB h
  generalize l.length = m at *
  subst hsz
  have hlt : ¬ ((S.size : Int) < (n : Int)) := by omega
  go_enter Tryz.func190, Tryz.ntmps190
  go_wp2
  go_ret
  exact ⟨rfl, rfl⟩
set_option maxRecDepth 100000 in
set_option maxHeartbeats 1000000 in
theorem take_no (b : Nat) (l : List UInt8) (n : Nat) (w : World) (h : Rd w b l) (hn : ¬ n ≤ l.length) :
    Calls Tryz.prog 190 #[.pointer (some ⟨b, 0, none⟩), .int .i64 n] w fun e w' => e = gaveUp 7 0 ∧ w' = w := by
  have h1 := h.left
  have hsz := str_size l
  have HN := hide (refuse_any b l w h)
  generalize hS : str l = S at *
  clear hS h
  have hlt : ((S.size : Int) < (n : Int)) := by omega
  clear hn hsz
  go_enter Tryz.func190, Tryz.ntmps190
  go_wp2_with fail
  refine (unhide HN).mono ?_
  rintro e w1 ⟨rfl, rfl⟩
  go_wp2
  exact ⟨rfl, rfl, rfl⟩

/- of what was there nothing has turned but block b -/
structure Only (b : Nat) (w w' : World) : Prop where
  below : Below b w w'
  size : w.heap.size ≤ w'.heap.size
  block : ∀ k, k < w.heap.size → k ≠ b → w'.heap[k]? = w.heap[k]?
theorem Only.refl (b : Nat) (w : World) : Only b w w := ⟨Below.refl _ _, Nat.le_refl _, fun _ _ _ => rfl⟩
theorem Only.trans {b : Nat} {u v w : World} (h : Only b u v) (k : Only b v w) : Only b u w := ⟨h.below.trans k.below, Nat.le_trans h.size k.size, fun i hi hb => (k.block i (Nat.lt_of_lt_of_le hi h.size) hb).trans (h.block i hi hb)⟩
theorem Only.set (b o : Nat) (w : World) (x : Value) : Only b w (w.setCell ⟨b, o, none⟩ x) := ⟨(Below.refl _ _).setCell (by simp) _, by simp, fun _ _ hk => Below.heap_setCell _ _ _ _ (by simpa using hk)⟩
theorem Only.of_below {b : Nat} {w w' : World} (h : Below w.heap.size w w') (hb : b ≤ w.heap.size) : Only b w w' := ⟨h.mono hb, h.size, fun k hk _ => h.block k hk⟩

/- a byte; or too few -/
def byteP (b : Nat) (l : List UInt8) (w : World) (e : Ending) (w' : World) : Prop := Only b w w' ∧ ((l = [] ∧ e = gaveUp 7 0) ∨ ∃ c r, l = c :: r ∧ e = .returned (.int .i64 (c.toNat : Int)) ∧ Rd w' b r)
set_option maxRecDepth 100000 in
set_option maxHeartbeats 1000000 in
theorem byte_any (b : Nat) (l : List UInt8) (w : World) (h : Rd w b l) (hl : l.length ≤ 9223372036854775807) : Calls Tryz.prog 113 #[.pointer (some ⟨b, 0, none⟩)] w (byteP b l w) := by
  cases l with
  | nil =>
    have H := hide (take_no b [] 1 w h (by simp))
    clear h
    go_enter Tryz.func113, Tryz.ntmps113
    go_wp2_with fail
    refine (unhide H).mono ?_
    rintro e w1 ⟨rfl, rfl⟩
    go_wp2
    exact ⟨rfl, Only.refl _ _, Or.inl ⟨rfl, rfl⟩⟩
  | cons c r =>
    have H := hide (take_ok b (c :: r) 1 w h (by simp) hl)
    have HS := hide (h.set r)
    rw [show (c :: r).take 1 = [c] from rfl, show (c :: r).drop 1 = r from rfl] at H
    have i0 : (str [c])[0]'(by rw [str_size]; simp) = c := rfl
    have hc := c.toNat_lt
    have hw : wrap64 (c.toNat : Int) = (c.toNat : Int) := by unfold wrap64; omega
    clear h
    go_enter Tryz.func113, Tryz.ntmps113
    go_wp2_with fail
    refine (unhide H).mono ?_
    rintro e w1 ⟨rfl, rfl⟩
    go_wp2
    go_ret
    exact ⟨Only.set _ _ _ _, Or.inr ⟨c, r, rfl, rfl, unhide HS⟩⟩

end Go.Proofs.YtblomippkddgiaaGreatDoor
