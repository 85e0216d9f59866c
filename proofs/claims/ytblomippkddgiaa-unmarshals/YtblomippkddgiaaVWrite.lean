/-
  The landed code's Write: a value's bytes, or it gives up.
-/
import Derived.Test.YtblomippkddgiaaVWriterC
import Derived.Laws.IdiomStrings
import Derived.Lib.BufferRead
namespace Go.Proofs.Ytblomippkddgiaa.V
open Go.RowKit

theorem row_conv {w : World} {B : Nat} {O : Value} {out : List UInt8} (h : w.ownsRow B 5 1 O out.length (u8s out)) : (convert 67 9 O).run Try.prog w = .ok (.string ⟨out.toArray⟩) w := by
  have hcl := fun g => h.cells (g := g)
  rcases h.2 with ⟨hv, h0⟩ | ⟨g, cap, cur, hv, _⟩
  · have : out = [] := List.eq_nil_of_length_eq_zero h0
    subst this
    rw [hv]
    exact Lib.run_convert_nil_bytes w 67 9 5 0 Try.underlying67 (by kernel_rfl) Try.underlying9
  · rw [hv]
    refine run_convert_bytes_back w 67 9 5 ⟨g, 0, none⟩ cap out Try.underlying67 (by kernel_rfl) Try.underlying9 fun j hj => ?_
    refine hcl g (by rw [hv]; rfl) j _ ?_
    unfold u8s
    rw [List.getElem?_map, List.getElem?_eq_getElem hj]
    rfl

def wRes (e : Eaten) (v : List It) : Nat × List UInt8 := match e with
  | none => (4, [])
  | some (ks, r) => if r = [] then (if 70 < (bytesOf ks v).length then (5, []) else (0, bytesOf ks v)) else (4, [])
def WPost (res : Nat × List UInt8) (e : Ending) : Prop := if res.1 = 0 then e = .returned (.string ⟨res.2.toArray⟩) else e = gaveUp res.1 0

set_option maxRecDepth 100000 in
set_option maxHeartbeats 400000 in
theorem tooBig_any (n : Nat) (w : World) : Calls Try.prog 57 #[.int .i64 n] w fun e w' => e = .returned (.bool (decide (70 < n))) ∧ w' = w := by
  have e : (decide (70 < n)) = (decide ((70 : Int) < (n : Int))) := by
    rw [Bool.eq_iff_iff]
    simp
    omega
  rw [e]
  go_enter Try.func57, Try.ntmps57
  go_wp2
  go_ret
  exact ⟨rfl, rfl⟩

abbrev wr94 (V : Value) : Obj := .cells #[V, .slice none 0 0] 110

set_option maxRecDepth 100000 in
set_option maxHeartbeats 1000000 in
theorem write_none (w : World) (x0 x1 : Int) (ea va : Option Addr) (en ec vn vc : Nat)
    (HK : Calls Try.prog 55 #[.agg #[.int .u8 x0, .int .i64 x1, .slice ea en ec], .iface 112 (.pointer (some ⟨w.heap.size + 1, 0, none⟩))] ((w.alloc (box63 x0 x1 ea en ec)).alloc (wr94 (.slice va vn vc))) fun e w' => e = gaveUp 4 0 ∧ Below w.heap.size w w') :
    Calls Try.prog 34 #[.agg #[.int .u8 x0, .int .i64 x1, .slice ea en ec], .slice va vn vc] w fun e w' => e = gaveUp 4 0 ∧ Below w.heap.size w w' := by
  have HKK := hide HK
  clear HK
  go_enter Try.func34, Try.ntmps34
  go_wp2_with fail
  refine (unhide HKK).mono ?_
  rintro e w1 ⟨rfl, hb⟩
  go_wp2
  exact ⟨rfl, rfl, hb⟩

/- what the writer leaves, to Write's eyes -/
structure WLeft (w w' : World) (n : Nat) (out : List UInt8) (a : Option Addr) (cap : Nat) (O : Value) : Prop where
  left : w'.cell? ⟨w.heap.size + 1, 0, none⟩ = some (.slice a n cap)
  lout : w'.cell? ⟨w.heap.size + 1, 1, none⟩ = some O
  own : w'.ownsRow (w.heap.size + 2) 5 1 O out.length (u8s out)
  below : Below w.heap.size w w'

set_option maxRecDepth 100000 in
set_option maxHeartbeats 1000000 in
theorem write_more (w : World) (x0 x1 : Int) (ea va : Option Addr) (en ec vn vc : Nat) (n : Nat) (out : List UInt8) (hn : 0 < n)
    (HK : Calls Try.prog 55 #[.agg #[.int .u8 x0, .int .i64 x1, .slice ea en ec], .iface 112 (.pointer (some ⟨w.heap.size + 1, 0, none⟩))] ((w.alloc (box63 x0 x1 ea en ec)).alloc (wr94 (.slice va vn vc))) fun e w' => e = .returned (.tuple #[]) ∧ ∃ a cap O, WLeft w w' n out a cap O) :
    Calls Try.prog 34 #[.agg #[.int .u8 x0, .int .i64 x1, .slice ea en ec], .slice va vn vc] w fun e w' => e = gaveUp 4 0 ∧ Below w.heap.size w w' := by
  have HKK := hide HK
  have HN := hide noValue_any
  clear HK
  go_enter Try.func34, Try.ntmps34
  go_wp2_with fail
  refine (unhide HKK).mono ?_
  rintro e w1 ⟨rfl, a, cap, O, hL⟩
  have c0 := hL.left
  have hb := hL.below
  have hbz := hb.size
  clear hL
  go_wp2_with fail
  refine ((unhide HN) _).mono ?_
  rintro e w2 ⟨rfl, hb2⟩
  go_wp2
  exact ⟨rfl, rfl, hb.trans (hb2.mono hbz)⟩

set_option maxRecDepth 100000 in
set_option maxHeartbeats 1000000 in
theorem write_big (w : World) (x0 x1 : Int) (ea va : Option Addr) (en ec vn vc : Nat) (out : List UInt8) (hn : 70 < out.length)
    (HK : Calls Try.prog 55 #[.agg #[.int .u8 x0, .int .i64 x1, .slice ea en ec], .iface 112 (.pointer (some ⟨w.heap.size + 1, 0, none⟩))] ((w.alloc (box63 x0 x1 ea en ec)).alloc (wr94 (.slice va vn vc))) fun e w' => e = .returned (.tuple #[]) ∧ ∃ a cap O, WLeft w w' 0 out a cap O) :
    Calls Try.prog 34 #[.agg #[.int .u8 x0, .int .i64 x1, .slice ea en ec], .slice va vn vc] w fun e w' => e = gaveUp 5 0 ∧ Below w.heap.size w w' := by
  have HKK := hide HK
  have HB := hide (fun w => tooBig_any out.length w)
  rw [show decide (70 < out.length) = true by simp [hn]] at HB
  clear HK hn
  go_enter Try.func34, Try.ntmps34
  go_wp2_with fail
  refine (unhide HKK).mono ?_
  rintro e w1 ⟨rfl, a, cap, O, hL⟩
  have c0 := hL.left
  have c1 := hL.lout
  have hb := hL.below
  obtain ⟨oa, oc, rfl⟩ : ∃ a c, O = .slice a out.length c := by
    rcases hL.own.2 with ⟨hv, h0⟩ | ⟨g, cap, cur, hv, _⟩
    · exact ⟨none, 0, by rw [hv, h0]⟩
    · exact ⟨_, _, hv⟩
  clear hL
  go_wp2_with fail
  refine ((unhide HB) _).mono ?_
  rintro e w2 ⟨rfl, rfl⟩
  go_wp2
  exact ⟨rfl, rfl, hb⟩

set_option maxRecDepth 100000 in
set_option maxHeartbeats 1000000 in
theorem write_ok (w : World) (x0 x1 : Int) (ea va : Option Addr) (en ec vn vc : Nat) (out : List UInt8) (hn : ¬ 70 < out.length)
    (HK : Calls Try.prog 55 #[.agg #[.int .u8 x0, .int .i64 x1, .slice ea en ec], .iface 112 (.pointer (some ⟨w.heap.size + 1, 0, none⟩))] ((w.alloc (box63 x0 x1 ea en ec)).alloc (wr94 (.slice va vn vc))) fun e w' => e = .returned (.tuple #[]) ∧ ∃ a cap O, WLeft w w' 0 out a cap O) :
    Calls Try.prog 34 #[.agg #[.int .u8 x0, .int .i64 x1, .slice ea en ec], .slice va vn vc] w fun e w' => e = .returned (.string ⟨out.toArray⟩) ∧ Below w.heap.size w w' := by
  have HKK := hide HK
  have HB := hide (fun w => tooBig_any out.length w)
  rw [show decide (70 < out.length) = false by simp; omega] at HB
  clear HK hn
  go_enter Try.func34, Try.ntmps34
  go_wp2_with fail
  refine (unhide HKK).mono ?_
  rintro e w1 ⟨rfl, a, cap, O, hL⟩
  have c0 := hL.left
  have c1 := hL.lout
  have hb := hL.below
  have hcv := row_conv hL.own
  obtain ⟨oa, oc, rfl⟩ : ∃ a c, O = .slice a out.length c := by
    rcases hL.own.2 with ⟨hv, h0⟩ | ⟨g, cap, cur, hv, _⟩
    · exact ⟨none, 0, by rw [hv, h0]⟩
    · exact ⟨_, _, hv⟩
  clear hL
  go_wp2_with fail
  refine ((unhide HB) _).mono ?_
  rintro e w2 ⟨rfl, rfl⟩
  go_wp2
  go_ret
  exact ⟨rfl, hb⟩

theorem write_any (s : ByteArray) (S : Nat → Prop) (c0 c1 c2 V : Value) (v : List It) (w : World) (hR : Rep w S (nx s) (s.size + 1) 0 c0 c1 c2) (hO : Okp s (s.size + 1) 0) (hd : Pt.dep (nx s) (s.size + 1) 0 ≤ 4) (hI : Items w V v) (hn : v.length ≤ 9000000000000) :
    Calls Try.prog 34 #[.agg #[c0, c1, c2], V] w fun e w' => WPost (wRes (eat (nx s) (s.size + 1) 0 v) v) e ∧ Below w.heap.size w w' := by
  obtain ⟨⟨x0, rfl⟩, ⟨x1, rfl⟩, ⟨ea, en, ec, rfl⟩⟩ := rep_shape hR
  obtain ⟨va, vc, rfl⟩ : ∃ a c, V = .slice a v.length c := by
    obtain ⟨a, c, h, _⟩ := hI
    exact ⟨a, c, h⟩
  have hb0 : Below w.heap.size w (w.alloc (box63 x0 x1 ea en ec)) := (Below.refl w.heap.size w).alloc (Nat.le_refl _) _
  have hR0 : Rep (w.alloc (box63 x0 x1 ea en ec)) S (nx s) (s.size + 1) 0 (.int .u8 x0) (.int .i64 x1) (.slice ea en ec) := rep_above ⟨hb0.size, fun k _ hl => hb0.block k hl⟩ hR
  have hz : (w.alloc (box63 x0 x1 ea en ec)).heap.size = w.heap.size + 1 := by simp
  have hws : WS (w.alloc (box63 x0 x1 ea en ec)) ((w.alloc (box63 x0 x1 ea en ec)).alloc (wr94 (.slice va v.length vc))) (.slice va v.length vc) v (.slice none 0 0) [] := by
    refine ⟨?_, hI.below hb0, (Below.refl _ _).alloc (Nat.le_refl _) _, World.ownsRow_nil _ _ _ _⟩
    unfold Wr
    show ((w.alloc (box63 x0 x1 ea en ec)).heap.push _)[(w.alloc (box63 x0 x1 ea en ec)).heap.size]? = _
    rw [Array.getElem?_push_size]
  have hM : 10 ^ Pt.dep (nx s) (s.size + 1) 0 ≤ 10 ^ 4 := Nat.pow_le_pow_right (by decide) hd
  have HK := carry_any (writer_carries (w.alloc (box63 x0 x1 ea en ec))) s (s.size + 1) 0 S _ _ _ hR0 hO _ 0 (v, []) _ ⟨_, _, hws, rfl, hn, Nat.le_refl _⟩ (by omega)
  have hptr : (writer (w.alloc (box63 x0 x1 ea en ec))).I = .iface 112 (.pointer (some ⟨w.heap.size + 1, 0, none⟩)) := by
    show Value.iface 112 (.pointer (some ⟨(w.alloc (box63 x0 x1 ea en ec)).heap.size, 0, none⟩)) = _
    rw [hz]
  rw [hptr] at HK
  have hce := carry_eat (nx s) (s.size + 1) 0 v []
  rw [show carryP (writer (w.alloc (box63 x0 x1 ea en ec))).num (writer (w.alloc (box63 x0 x1 ea en ec))).txt (nx s) (s.size + 1) 0 (v, []) = carryP wNum wTxt (nx s) (s.size + 1) 0 (v, []) from rfl, hce] at HK
  have hbb : ∀ w', Below (w.alloc (box63 x0 x1 ea en ec)).heap.size (w.alloc (box63 x0 x1 ea en ec)) w' → Below w.heap.size w w' := fun w' h => hb0.trans (h.mono (by omega))
  cases he : eat (nx s) (s.size + 1) 0 v with
  | none =>
    rw [he] at HK
    refine (write_none w x0 x1 ea va en ec v.length vc (HK.mono ?_)).mono ?_
    · rintro e w' (⟨rfl, _, hb⟩ | ⟨rfl, x', hx, _⟩)
      · exact ⟨rfl, hbb w' hb⟩
      · cases hx
    · rintro e w' ⟨rfl, hb⟩
      exact ⟨rfl, hb⟩
  | some a =>
    obtain ⟨ks, r⟩ := a
    rw [he] at HK
    have HL : Calls Try.prog 55 #[.agg #[.int .u8 x0, .int .i64 x1, .slice ea en ec], .iface 112 (.pointer (some ⟨w.heap.size + 1, 0, none⟩))] ((w.alloc (box63 x0 x1 ea en ec)).alloc (wr94 (.slice va v.length vc))) fun e w' => e = .returned (.tuple #[]) ∧ ∃ a cap O, WLeft w w' r.length (bytesOf ks v) a cap O := by
      refine HK.mono ?_
      rintro e w' (⟨rfl, hx, _⟩ | ⟨rfl, x', hx, c', O', _, ⟨L, Ov, hw2, _⟩, _⟩)
      · cases hx
      · cases hx
        simp only [List.nil_append] at hw2
        obtain ⟨la, lc, hLs, _⟩ := hw2.items
        subst hLs
        have h1 := hw2.wr.left
        have h2 := hw2.wr.out
        have h3 := hw2.own
        rw [hz] at h1 h2 h3
        exact ⟨rfl, la, lc, Ov, h1, h2, h3, hbb w' hw2.below⟩
    cases r with
    | cons y r =>
      refine (write_more w x0 x1 ea va en ec v.length vc _ _ (by simp) HL).mono ?_
      rintro e w' ⟨rfl, hb⟩
      exact ⟨rfl, hb⟩
    | nil =>
      by_cases hbig : 70 < (bytesOf ks v).length
      · refine (write_big w x0 x1 ea va en ec v.length vc _ hbig HL).mono ?_
        rintro e w' ⟨rfl, hb⟩
        refine ⟨?_, hb⟩
        simp [WPost, wRes, hbig]
      · refine (write_ok w x0 x1 ea va en ec v.length vc _ hbig HL).mono ?_
        rintro e w' ⟨rfl, hb⟩
        refine ⟨?_, hb⟩
        simp [WPost, wRes, hbig]

end Go.Proofs.Ytblomippkddgiaa.V
