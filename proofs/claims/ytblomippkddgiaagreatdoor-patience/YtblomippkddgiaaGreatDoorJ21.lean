/-
  Joined: VWrite VMarshalFace VTypes.
-/
import Derived.Test.YtblomippkddgiaaGreatDoorJ20
import Derived.Laws.IdiomStrings
import Derived.Lib.BufferRead
import Derived.Test.YtblomippkddgiaaGreatDoorJ12
import Derived.Test.YtblomippkddgiaaGreatDoorJ08
import Derived.ProofKit
import Derived.OpenShut
import Derived.ShutString
import Derived.ChangeOld
import Derived.Below
/-
  The landed code's Write: a value's bytes, or it gives up.
-/
namespace Go.Proofs.YtblomippkddgiaaGreatDoor.V
open Go.RowKit

theorem row_conv {w : World} {B : Nat} {O : Value} {out : List UInt8} (h : w.ownsRow B 5 1 O out.length (u8s out)) : (convert 199 9 O).run Tryz.prog w = .ok (.string ⟨out.toArray⟩) w := by
  have hcl := fun g => h.cells (g := g)
  rcases h.2 with ⟨hv, h0⟩ | ⟨g, cap, cur, hv, _⟩
  · have : out = [] := List.eq_nil_of_length_eq_zero h0
    subst this
    rw [hv]
    exact Lib.run_convert_nil_bytes w 199 9 5 0 Tryz.underlying199 (by kernel_rfl) Tryz.underlying9
  · rw [hv]
    refine run_convert_bytes_back w 199 9 5 ⟨g, 0, none⟩ cap out Tryz.underlying199 (by kernel_rfl) Tryz.underlying9 fun j hj => ?_
    refine hcl g (by rw [hv]; rfl) j _ ?_
    unfold u8s
    rw [List.getElem?_map, List.getElem?_eq_getElem hj]
    rfl

def wRes (e : Eaten) (v : List It) : Nat × List UInt8 := match e with
  | none => (4, [])
  | some (ks, r) => if r = [] then (if 70 < (bytesOf ks v).length then (5, []) else (0, bytesOf ks v)) else (4, [])
def WPost (res : Nat × List UInt8) (e : Ending) : Prop := if res.1 = 0 then e = .returned (.string ⟨res.2.toArray⟩) else e = gaveUp res.1 0

set_option maxRecDepth 100000 in
set_option maxHeartbeats 400000 in
theorem tooBig_any (n : Nat) (w : World) : Calls Tryz.prog 127 #[.int .i64 n] w fun e w' => e = .returned (.bool (decide (70 < n))) ∧ w' = w := by
  have e : (decide (70 < n)) = (decide ((70 : Int) < (n : Int))) := by
    rw [Bool.eq_iff_iff]
    simp
    omega
  rw [e]
  go_enter Tryz.func127, Tryz.ntmps127
  go_wp2
  go_ret
  exact ⟨rfl, rfl⟩

abbrev wr94 (V : Value) : Obj := .cells #[V, .slice none 0 0] 201

set_option maxRecDepth 100000 in
set_option maxHeartbeats 1000000 in
theorem write_none (w : World) (x0 x1 : Int) (ea va : Option Addr) (en ec vn vc : Nat)
    (HK : Calls Tryz.prog 125 #[.agg #[.int .u8 x0, .int .i64 x1, .slice ea en ec], .iface 203 (.pointer (some ⟨w.heap.size + 1, 0, none⟩))] ((w.alloc (box63 x0 x1 ea en ec)).alloc (wr94 (.slice va vn vc))) fun e w' => e = gaveUp 4 0 ∧ Below w.heap.size w w') :
    Calls Tryz.prog 77 #[.agg #[.int .u8 x0, .int .i64 x1, .slice ea en ec], .slice va vn vc] w fun e w' => e = gaveUp 4 0 ∧ Below w.heap.size w w' := by
  have HKK := hide HK
  clear HK
  go_enter Tryz.func77, Tryz.ntmps77
  go_wp2_with fail
  refine (unhide HKK).mono ?_
  rintro e w1 ⟨rfl, hb⟩
  go_wp2
  exact ⟨rfl, rfl, hb⟩

/- what the writer leaves, to Write's eyes -/
structure WLeft (w w' : World) (n : Nat) (out : List UInt8) (a : Option Addr) (cap : Nat) (O : Value) : Prop where
  left : w'.cell? ⟨w.heap.size + 1, 0, none⟩ = some (.slice a n cap)
  lout : w'.cell? ⟨w.heap.size + 1, 1, none⟩ = some O
  own : w'.ownsRow (w.heap.size + 2) 5 1 O out.length (u8s out)
  below : Below w.heap.size w w'

set_option maxRecDepth 100000 in
set_option maxHeartbeats 1000000 in
theorem write_more (w : World) (x0 x1 : Int) (ea va : Option Addr) (en ec vn vc : Nat) (n : Nat) (out : List UInt8) (hn : 0 < n)
    (HK : Calls Tryz.prog 125 #[.agg #[.int .u8 x0, .int .i64 x1, .slice ea en ec], .iface 203 (.pointer (some ⟨w.heap.size + 1, 0, none⟩))] ((w.alloc (box63 x0 x1 ea en ec)).alloc (wr94 (.slice va vn vc))) fun e w' => e = .returned (.tuple #[]) ∧ ∃ a cap O, WLeft w w' n out a cap O) :
    Calls Tryz.prog 77 #[.agg #[.int .u8 x0, .int .i64 x1, .slice ea en ec], .slice va vn vc] w fun e w' => e = gaveUp 4 0 ∧ Below w.heap.size w w' := by
  have HKK := hide HK
  have HN := hide noValue_any
  clear HK
  go_enter Tryz.func77, Tryz.ntmps77
  go_wp2_with fail
  refine (unhide HKK).mono ?_
  rintro e w1 ⟨rfl, a, cap, O, hL⟩
  have c0 := hL.left
  have hb := hL.below
  have hbz := hb.size
  clear hL
  go_wp2_with fail
  refine ((unhide HN) _).mono ?_
  rintro e w2 ⟨rfl, hb2⟩
  go_wp2
  exact ⟨rfl, rfl, hb.trans (hb2.mono hbz)⟩

set_option maxRecDepth 100000 in
set_option maxHeartbeats 1000000 in
theorem write_big (w : World) (x0 x1 : Int) (ea va : Option Addr) (en ec vn vc : Nat) (out : List UInt8) (hn : 70 < out.length)
    (HK : Calls Tryz.prog 125 #[.agg #[.int .u8 x0, .int .i64 x1, .slice ea en ec], .iface 203 (.pointer (some ⟨w.heap.size + 1, 0, none⟩))] ((w.alloc (box63 x0 x1 ea en ec)).alloc (wr94 (.slice va vn vc))) fun e w' => e = .returned (.tuple #[]) ∧ ∃ a cap O, WLeft w w' 0 out a cap O) :
    Calls Tryz.prog 77 #[.agg #[.int .u8 x0, .int .i64 x1, .slice ea en ec], .slice va vn vc] w fun e w' => e = gaveUp 5 0 ∧ Below w.heap.size w w' := by
  have HKK := hide HK
  have HB := hide (fun w => tooBig_any out.length w)
  rw [show decide (70 < out.length) = true by simp [hn]] at HB
  clear HK hn
  go_enter Tryz.func77, Tryz.ntmps77
  go_wp2_with fail
  refine (unhide HKK).mono ?_
  rintro e w1 ⟨rfl, a, cap, O, hL⟩
  have c0 := hL.left
  have c1 := hL.lout
  have hb := hL.below
  obtain ⟨oa, oc, rfl⟩ : ∃ a c, O = .slice a out.length c := by
    rcases hL.own.2 with ⟨hv, h0⟩ | ⟨g, cap, cur, hv, _⟩
    · exact ⟨none, 0, by rw [hv, h0]⟩
    · exact ⟨_, _, hv⟩
  clear hL
  go_wp2_with fail
  refine ((unhide HB) _).mono ?_
  rintro e w2 ⟨rfl, rfl⟩
  go_wp2
  exact ⟨rfl, rfl, hb⟩

set_option maxRecDepth 100000 in
set_option maxHeartbeats 1000000 in
theorem write_ok (w : World) (x0 x1 : Int) (ea va : Option Addr) (en ec vn vc : Nat) (out : List UInt8) (hn : ¬ 70 < out.length)
    (HK : Calls Tryz.prog 125 #[.agg #[.int .u8 x0, .int .i64 x1, .slice ea en ec], .iface 203 (.pointer (some ⟨w.heap.size + 1, 0, none⟩))] ((w.alloc (box63 x0 x1 ea en ec)).alloc (wr94 (.slice va vn vc))) fun e w' => e = .returned (.tuple #[]) ∧ ∃ a cap O, WLeft w w' 0 out a cap O) :
    Calls Tryz.prog 77 #[.agg #[.int .u8 x0, .int .i64 x1, .slice ea en ec], .slice va vn vc] w fun e w' => e = .returned (.string ⟨out.toArray⟩) ∧ Below w.heap.size w w' := by
  have HKK := hide HK
  have HB := hide (fun w => tooBig_any out.length w)
  rw [show decide (70 < out.length) = false by simp; omega] at HB
  clear HK hn
  go_enter Tryz.func77, Tryz.ntmps77
  go_wp2_with fail
  refine (unhide HKK).mono ?_
  rintro e w1 ⟨rfl, a, cap, O, hL⟩
  have c0 := hL.left
  have c1 := hL.lout
  have hb := hL.below
  have hcv := row_conv hL.own
  obtain ⟨oa, oc, rfl⟩ : ∃ a c, O = .slice a out.length c := by
    rcases hL.own.2 with ⟨hv, h0⟩ | ⟨g, cap, cur, hv, _⟩
    · exact ⟨none, 0, by rw [hv, h0]⟩
    · exact ⟨_, _, hv⟩
  clear hL
  go_wp2_with fail
  refine ((unhide HB) _).mono ?_
  rintro e w2 ⟨rfl, rfl⟩
  go_wp2
  go_ret
  exact ⟨rfl, hb⟩

theorem write_any (s : ByteArray) (S : Nat → Prop) (c0 c1 c2 V : Value) (v : List It) (w : World) (hR : Rep w S (nx s) (s.size + 1) 0 c0 c1 c2) (hO : Okp s (s.size + 1) 0) (hd : Pt.dep (nx s) (s.size + 1) 0 ≤ 4) (hI : Items w V v) (hn : v.length ≤ 9000000000000) :
    Calls Tryz.prog 77 #[.agg #[c0, c1, c2], V] w fun e w' => WPost (wRes (eat (nx s) (s.size + 1) 0 v) v) e ∧ Below w.heap.size w w' := by
  obtain ⟨⟨x0, rfl⟩, ⟨x1, rfl⟩, ⟨ea, en, ec, rfl⟩⟩ := rep_shape hR
  obtain ⟨va, vc, rfl⟩ : ∃ a c, V = .slice a v.length c := by
    obtain ⟨a, c, h, _⟩ := hI
    exact ⟨a, c, h⟩
  have hb0 : Below w.heap.size w (w.alloc (box63 x0 x1 ea en ec)) := (Below.refl w.heap.size w).alloc (Nat.le_refl _) _
  have hR0 : Rep (w.alloc (box63 x0 x1 ea en ec)) S (nx s) (s.size + 1) 0 (.int .u8 x0) (.int .i64 x1) (.slice ea en ec) := rep_above ⟨hb0.size, fun k _ hl => hb0.block k hl⟩ hR
  have hz : (w.alloc (box63 x0 x1 ea en ec)).heap.size = w.heap.size + 1 := by simp
  have hws : WS (w.alloc (box63 x0 x1 ea en ec)) ((w.alloc (box63 x0 x1 ea en ec)).alloc (wr94 (.slice va v.length vc))) (.slice va v.length vc) v (.slice none 0 0) [] := by
    refine ⟨?_, hI.below hb0, (Below.refl _ _).alloc (Nat.le_refl _) _, World.ownsRow_nil _ _ _ _⟩
    unfold Wr
    show ((w.alloc (box63 x0 x1 ea en ec)).heap.push _)[(w.alloc (box63 x0 x1 ea en ec)).heap.size]? = _
    rw [Array.getElem?_push_size]
  have hM : 10 ^ Pt.dep (nx s) (s.size + 1) 0 ≤ 10 ^ 4 := Nat.pow_le_pow_right (by decide) hd
  have HK := carry_any (writer_carries (w.alloc (box63 x0 x1 ea en ec))) s (s.size + 1) 0 S _ _ _ hR0 hO _ 0 (v, []) _ ⟨_, _, hws, rfl, hn, Nat.le_refl _⟩ (by omega)
  have hptr : (writer (w.alloc (box63 x0 x1 ea en ec))).I = .iface 203 (.pointer (some ⟨w.heap.size + 1, 0, none⟩)) := by
    show Value.iface 203 (.pointer (some ⟨(w.alloc (box63 x0 x1 ea en ec)).heap.size, 0, none⟩)) = _
    rw [hz]
  rw [hptr] at HK
  have hce := carry_eat (nx s) (s.size + 1) 0 v []
  rw [show carryP (writer (w.alloc (box63 x0 x1 ea en ec))).num (writer (w.alloc (box63 x0 x1 ea en ec))).txt (nx s) (s.size + 1) 0 (v, []) = carryP wNum wTxt (nx s) (s.size + 1) 0 (v, []) from rfl, hce] at HK
  have hbb : ∀ w', Below (w.alloc (box63 x0 x1 ea en ec)).heap.size (w.alloc (box63 x0 x1 ea en ec)) w' → Below w.heap.size w w' := fun w' h => hb0.trans (h.mono (by omega))
  cases he : eat (nx s) (s.size + 1) 0 v with
  | none =>
    rw [he] at HK
    refine (write_none w x0 x1 ea va en ec v.length vc (HK.mono ?_)).mono ?_
    · rintro e w' (⟨rfl, _, hb⟩ | ⟨rfl, x', hx, _⟩)
      · exact ⟨rfl, hbb w' hb⟩
      · cases hx
    · rintro e w' ⟨rfl, hb⟩
      exact ⟨rfl, hb⟩
  | some a =>
    obtain ⟨ks, r⟩ := a
    rw [he] at HK
    have HL : Calls Tryz.prog 125 #[.agg #[.int .u8 x0, .int .i64 x1, .slice ea en ec], .iface 203 (.pointer (some ⟨w.heap.size + 1, 0, none⟩))] ((w.alloc (box63 x0 x1 ea en ec)).alloc (wr94 (.slice va v.length vc))) fun e w' => e = .returned (.tuple #[]) ∧ ∃ a cap O, WLeft w w' r.length (bytesOf ks v) a cap O := by
      refine HK.mono ?_
      rintro e w' (⟨rfl, hx, _⟩ | ⟨rfl, x', hx, c', O', _, ⟨L, Ov, hw2, _⟩, _⟩)
      · cases hx
      · cases hx
        simp only [List.nil_append] at hw2
        obtain ⟨la, lc, hLs, _⟩ := hw2.items
        subst hLs
        have h1 := hw2.wr.left
        have h2 := hw2.wr.out
        have h3 := hw2.own
        rw [hz] at h1 h2 h3
        exact ⟨rfl, la, lc, Ov, h1, h2, h3, hbb w' hw2.below⟩
    cases r with
    | cons y r =>
      refine (write_more w x0 x1 ea va en ec v.length vc _ _ (by simp) HL).mono ?_
      rintro e w' ⟨rfl, hb⟩
      exact ⟨rfl, hb⟩
    | nil =>
      by_cases hbig : 70 < (bytesOf ks v).length
      · refine (write_big w x0 x1 ea va en ec v.length vc _ hbig HL).mono ?_
        rintro e w' ⟨rfl, hb⟩
        refine ⟨?_, hb⟩
        simp [WPost, wRes, hbig]
      · refine (write_ok w x0 x1 ea va en ec v.length vc _ hbig HL).mono ?_
        rintro e w' ⟨rfl, hb⟩
        refine ⟨?_, hb⟩
        simp [WPost, wRes, hbig]

end Go.Proofs.YtblomippkddgiaaGreatDoor.V
/-
  The face: Marshal catches what Read or Write gave up with.
-/
namespace Go.Proofs.YtblomippkddgiaaGreatDoor.V
open Go.RowKit

theorem field_fault (n q : Nat) (w : World) : (Instr.field 86 (faultOf n q) 0).run Tryz.prog w = .ok (.int .i64 n) w := by kernel_rfl

set_option maxRecDepth 100000 in
set_option maxHeartbeats 1000000 in
theorem mcatch_panicking (a0 a1 B : Nat) (n q : Nat) (older : List PanicEntry) (w : World) (h0 : w.cell? ⟨a0, 0, none⟩ = some (.string ⟨#[]⟩)) (h1 : w.cell? ⟨a1, 0, none⟩ = some (.int .i64 0)) (z0 : w.frozen? ⟨a0, 0, none⟩ = false) (z1 : w.frozen? ⟨a1, 0, none⟩ = false) (hb0 : B ≤ a0) (hb1 : B ≤ a1) (hne : ¬ a0 = a1) :
    CallsD Tryz.prog 76 #[.pointer (some ⟨a0, 0, none⟩), .pointer (some ⟨a1, 0, none⟩)] (.panicking ({ v := .iface 86 (faultOf n q), recovered := false } :: older)) w fun e u' w' =>
      e = .returned (.tuple #[]) ∧ u' = .panicking ({ v := .iface 86 (faultOf n q), recovered := true } :: older) ∧ w'.cell? ⟨a0, 0, none⟩ = some (.string ⟨#[]⟩) ∧ w'.cell? ⟨a1, 0, none⟩ = some (.int .i64 n) ∧ Below B w w' := by
  refine callsD_of_wpS Tryz.func76 rfl fun c₀ cs hu => ?_
  apply wpS_seq
  apply wpS_region
  simp [wpOpsS, go_sem, recoverD, hu, Tryz.ntmps76, Exit.thenS]
  rw [show (#[Value.pointer (some { block := a0, off := 0 }), Value.pointer (some { block := a1, off := 0 })] ++ ((Array.replicate 7 undef).setIfInBounds 1 (Value.iface 86 (faultOf n q))).setIfInBounds 0 (Value.iface 86 (faultOf n q))) = #[.pointer (some { block := a0, off := 0 }), .pointer (some { block := a1, off := 0 }), .iface 86 (faultOf n q), .iface 86 (faultOf n q), undef, undef, undef, undef, undef] from rfl]
  refine wpS_of_wp ?_
  have hfl := field_fault n q
  have l0 := lt_of_cell h0
  have l1 := lt_of_cell h1
  go_wp2_with fail
  refine (caught_any n q _).mono ?_
  rintro e w1 ⟨rfl, hb⟩
  have s1 := hb.size
  have g0 : w1.cell? ⟨a0, 0, none⟩ = some (.string ⟨#[]⟩) := (hb.cell (p := ⟨a0, 0, none⟩) l0).trans h0
  have g1 : w1.cell? ⟨a1, 0, none⟩ = some (.int .i64 0) := (hb.cell (p := ⟨a1, 0, none⟩) l1).trans h1
  have y0 : w1.frozen? ⟨a0, 0, none⟩ = false := (hb.frozen (p := ⟨a0, 0, none⟩) l0).trans z0
  have y1 : w1.frozen? ⟨a1, 0, none⟩ = false := (hb.frozen (p := ⟨a1, 0, none⟩) l1).trans z1
  have m0 : a0 < w1.heap.size := by omega
  have m1 : a1 < w1.heap.size := by omega
  have e2 : ¬ a1 = a0 := by omega
  clear h0 h1 z0 z1
  go_wp2
  have F0 : ((w1.setCell { block := a0, off := 0 } (.string ⟨#[]⟩)).setCell { block := a1, off := 0 } (Value.int IntKind.i64 ↑n)).cell? ⟨a0, 0, none⟩ = some (.string ⟨#[]⟩) := by simp [go_sem, g0]
  have F1 : ((w1.setCell { block := a0, off := 0 } (.string ⟨#[]⟩)).setCell { block := a1, off := 0 } (Value.int IntKind.i64 ↑n)).cell? ⟨a1, 0, none⟩ = some (.int .i64 n) := by simp [go_sem, g1]
  have FB : Below B w ((w1.setCell { block := a0, off := 0 } (.string ⟨#[]⟩)).setCell { block := a1, off := 0 } (Value.int IntKind.i64 ↑n)) :=
    ((hb.mono (by omega)).setCell (by simpa using hb0) _).setCell (by simpa using hb1) _
  show bodyPostS Tryz.prog Tryz.f76 c₀ cs _ _ _ _ _
  exact ⟨rfl, _, rfl, _, results_none rfl _ _ _, rfl, rfl, F0, F1, FB⟩

theorem mcatch_idle (p0 p1 : Addr) (w : World) :
    CallsD Tryz.prog 76 #[.pointer (some p0), .pointer (some p1)] .returning w fun e u' w' => e = .returned (.tuple #[]) ∧ u' = .returning ∧ w' = w := by
  refine callsD_of_wpS Tryz.func76 rfl fun c₀ cs hu => ?_
  apply wpS_seq
  apply wpS_region
  simp [wpOpsS, go_sem, recoverD, hu, Tryz.ntmps76, Exit.thenS]
  rw [show (#[Value.pointer (some p0), Value.pointer (some p1)] ++ ((Array.replicate 7 undef).setIfInBounds 1 (Value.nilIface)).setIfInBounds 0 (Value.nilIface)) = #[.pointer (some p0), .pointer (some p1), .nilIface, .nilIface, undef, undef, undef, undef, undef] from rfl]
  refine wpS_of_wp ?_
  go_wp2
  exact ⟨rfl, .returning, by cases c₀; simp_all, _, results_none rfl _ _ _, rfl, rfl, rfl⟩

abbrev mface (w : World) : World := (w.alloc (.cells #[.string ⟨#[]⟩] 9)).alloc (.cells #[.int .i64 0] 32)

set_option maxRecDepth 100000 in
set_option maxHeartbeats 1000000 in
theorem marshal_bad (s : ByteArray) (V : Value) (w : World) (n q : Nat) (H : Calls Tryz.prog 78 #[.string s] (mface w) fun e w' => e = gaveUp n q ∧ Below (mface w).heap.size (mface w) w') :
    Calls Tryz.prog 42 #[.string s, V] w fun e w' => e = .returned (.tuple #[.string ⟨#[]⟩, .int .i64 n]) ∧ Below w.heap.size w w' := by
  have hmf : ∀ (fn : Fn) (first cap : Array Value) (w : World), (Instr.makeFunc fn first cap).run Tryz.prog w = .ok (.func fn first cap) w := fun _ _ _ _ => rfl
  have HH := hide H
  clear H
  go_enter_defers Tryz.func42, Tryz.ntmps42
  go_wp2_with fail
  refine (unhide HH).mono ?_
  rintro e w1 ⟨rfl, hb⟩
  have hs := hb.size
  simp at hs
  have c0 : w1.cell? ⟨w.heap.size, 0, none⟩ = some (.string ⟨#[]⟩) := (hb.cell (p := ⟨w.heap.size, 0, none⟩) (by simp; omega)).trans (by simp [go_sem])
  have c1 : w1.cell? ⟨w.heap.size + 1, 0, none⟩ = some (.int .i64 0) := (hb.cell (p := ⟨w.heap.size + 1, 0, none⟩) (by simp)).trans (by simp [go_sem])
  have z0 : w1.frozen? ⟨w.heap.size, 0, none⟩ = false := (hb.frozen (p := ⟨w.heap.size, 0, none⟩) (by simp; omega)).trans (by simp [go_sem])
  have z1 : w1.frozen? ⟨w.heap.size + 1, 0, none⟩ = false := (hb.frozen (p := ⟨w.heap.size + 1, 0, none⟩) (by simp)).trans (by simp [go_sem])
  have hb0 : Below w.heap.size w w1 := (((Below.refl _ _).alloc (Nat.le_refl _) _).alloc (by simp) _).trans (hb.mono (by simp; omega))
  go_wp2
  refine leaves_cons (f := 76) (args := #[.pointer (some ⟨w.heap.size, 0, none⟩), .pointer (some ⟨w.heap.size + 1, 0, none⟩)]) (by simp) (by simp [go_sem]) ?_
  refine (mcatch_panicking w.heap.size (w.heap.size + 1) w.heap.size n q [] _ c0 c1 z0 z1 (Nat.le_refl _) (by omega) (by omega)).mono ?_
  rintro e u' w'' ⟨rfl, rfl, f0, f1, fb⟩
  simp [Leaves, settle, results, Tryz.results42, go_sem, f0, f1]
  exact hb0.trans fb

set_option maxRecDepth 100000 in
set_option maxHeartbeats 1000000 in
theorem marshal_worse (s : ByteArray) (V : Value) (w : World) (n q : Nat) (B : Value → World → Prop) (H : Calls Tryz.prog 78 #[.string s] (mface w) fun e w' => ∃ T, e = .returned T ∧ B T w' ∧ Below (mface w).heap.size (mface w) w')
    (H2 : ∀ T w', B T w' → Below (mface w).heap.size (mface w) w' → Calls Tryz.prog 77 #[T, V] w' fun e w'' => e = gaveUp n q ∧ Below w'.heap.size w' w'') :
    Calls Tryz.prog 42 #[.string s, V] w fun e w' => e = .returned (.tuple #[.string ⟨#[]⟩, .int .i64 n]) ∧ Below w.heap.size w w' := by
  have hmf : ∀ (fn : Fn) (first cap : Array Value) (w : World), (Instr.makeFunc fn first cap).run Tryz.prog w = .ok (.func fn first cap) w := fun _ _ _ _ => rfl
  have HH := hide H
  have HH2 := hide H2
  clear H H2
  go_enter_defers Tryz.func42, Tryz.ntmps42
  go_wp2_with fail
  refine (unhide HH).mono ?_
  rintro e w0 ⟨T, rfl, hB, hb1⟩
  have HC := hide ((unhide HH2) T w0 hB hb1)
  go_wp2_with fail
  refine (unhide HC).mono ?_
  rintro e w1 ⟨rfl, hb2⟩
  have hb := hb1.trans (hb2.mono hb1.size)
  have hs := hb.size
  simp at hs
  have c0 : w1.cell? ⟨w.heap.size, 0, none⟩ = some (.string ⟨#[]⟩) := (hb.cell (p := ⟨w.heap.size, 0, none⟩) (by simp; omega)).trans (by simp [go_sem])
  have c1 : w1.cell? ⟨w.heap.size + 1, 0, none⟩ = some (.int .i64 0) := (hb.cell (p := ⟨w.heap.size + 1, 0, none⟩) (by simp)).trans (by simp [go_sem])
  have z0 : w1.frozen? ⟨w.heap.size, 0, none⟩ = false := (hb.frozen (p := ⟨w.heap.size, 0, none⟩) (by simp; omega)).trans (by simp [go_sem])
  have z1 : w1.frozen? ⟨w.heap.size + 1, 0, none⟩ = false := (hb.frozen (p := ⟨w.heap.size + 1, 0, none⟩) (by simp)).trans (by simp [go_sem])
  have hb0 : Below w.heap.size w w1 := (((Below.refl _ _).alloc (Nat.le_refl _) _).alloc (by simp) _).trans (hb.mono (by simp; omega))
  go_wp2
  refine leaves_cons (f := 76) (args := #[.pointer (some ⟨w.heap.size, 0, none⟩), .pointer (some ⟨w.heap.size + 1, 0, none⟩)]) (by simp) (by simp [go_sem]) ?_
  refine (mcatch_panicking w.heap.size (w.heap.size + 1) w.heap.size n q [] _ c0 c1 z0 z1 (Nat.le_refl _) (by omega) (by omega)).mono ?_
  rintro e u' w'' ⟨rfl, rfl, f0, f1, fb⟩
  simp [Leaves, settle, results, Tryz.results42, go_sem, f0, f1]
  exact hb0.trans fb

set_option maxRecDepth 100000 in
set_option maxHeartbeats 1000000 in
theorem marshal_good (s : ByteArray) (V : Value) (w : World) (r : ByteArray) (B : Value → World → Prop) (H : Calls Tryz.prog 78 #[.string s] (mface w) fun e w' => ∃ T, e = .returned T ∧ B T w' ∧ Below (mface w).heap.size (mface w) w')
    (H2 : ∀ T w', B T w' → Below (mface w).heap.size (mface w) w' → Calls Tryz.prog 77 #[T, V] w' fun e w'' => e = .returned (.string r) ∧ Below w'.heap.size w' w'') :
    Calls Tryz.prog 42 #[.string s, V] w fun e w' => e = .returned (.tuple #[.string r, .int .i64 0]) ∧ Below w.heap.size w w' := by
  have hmf : ∀ (fn : Fn) (first cap : Array Value) (w : World), (Instr.makeFunc fn first cap).run Tryz.prog w = .ok (.func fn first cap) w := fun _ _ _ _ => rfl
  have HH := hide H
  have HH2 := hide H2
  clear H H2
  go_enter_defers Tryz.func42, Tryz.ntmps42
  go_wp2_with fail
  refine (unhide HH).mono ?_
  rintro e w0 ⟨T, rfl, hB, hb1⟩
  have HC := hide ((unhide HH2) T w0 hB hb1)
  go_wp2_with fail
  refine (unhide HC).mono ?_
  rintro e w1 ⟨rfl, hb2⟩
  have hb := hb1.trans (hb2.mono hb1.size)
  have hs := hb.size
  simp at hs
  have c0 : w1.cell? ⟨w.heap.size, 0, none⟩ = some (.string ⟨#[]⟩) := (hb.cell (p := ⟨w.heap.size, 0, none⟩) (by simp; omega)).trans (by simp [go_sem])
  have c1 : w1.cell? ⟨w.heap.size + 1, 0, none⟩ = some (.int .i64 0) := (hb.cell (p := ⟨w.heap.size + 1, 0, none⟩) (by simp)).trans (by simp [go_sem])
  have z0 : w1.frozen? ⟨w.heap.size, 0, none⟩ = false := (hb.frozen (p := ⟨w.heap.size, 0, none⟩) (by simp; omega)).trans (by simp [go_sem])
  have z1 : w1.frozen? ⟨w.heap.size + 1, 0, none⟩ = false := (hb.frozen (p := ⟨w.heap.size + 1, 0, none⟩) (by simp)).trans (by simp [go_sem])
  have hb0 : Below w.heap.size w w1 := (((Below.refl _ _).alloc (Nat.le_refl _) _).alloc (by simp) _).trans (hb.mono (by simp; omega))
  go_wp2
  refine leaves_cons (f := 76) (args := #[.pointer (some ⟨w.heap.size, 0, none⟩), .pointer (some ⟨w.heap.size + 1, 0, none⟩)]) (by simp) (by simp [go_sem]) ?_
  refine (mcatch_idle _ _ _).mono ?_
  rintro e u' w'' ⟨rfl, rfl, rfl⟩
  simp [Leaves, settle, results, Tryz.results42, go_sem, c0, c1]
  exact (hb0.setCell (by simp) _).setCell (by simp) _

end Go.Proofs.YtblomippkddgiaaGreatDoor.V
/-
  Proved: errandlaw.Types returns true for every text, of any length, and leaves its argument as it was: the landed Check answers, error and place, what the document's own Check answers. No condition.
-/
namespace Go.Proofs.YtblomippkddgiaaGreatDoor.V
open Go.ChangeShapes Go.WideShapes Go.ChangeAt Go.RowKit
open Go.ChangeMaps (open_string shut_string)

abbrev chkTuple (r : Nat × Nat) : Ending := .returned (.tuple #[.int .i64 r.1, .int .i64 r.2])

theorem check_any (s : ByteArray) (w : World) : Calls Tryz.prog 146 #[.string s] w fun e w' => e = chkTuple (Pt.chk (nx s) s.size) ∧ Below w.heap.size w w' := by
  by_cases hs : s.size ≤ 40
  · have hn : ¬ 40 < s.size := by omega
    cases hT : (Pt.ty (nx s) (s.size + 1) 0).1 with
    | false =>
      have e1 : Pt.chk (nx s) s.size = (2, (Pt.ty (nx s) (s.size + 1) 0).2) := by simp [Pt.chk, hn, hT]
      rw [e1]
      exact check_bad s w _ _ (read_wrong s (face w) hs hT)
    | true =>
      obtain ⟨_, hb, _⟩ := Pt.agree (g := nx s) (n := s.size) (fun p hp => nx_out hp) (s.size + 1) 0 0 1 0 [] (by omega) (by omega)
      obtain ⟨q1, q2⟩ := hb hT
      by_cases hq : (Pt.ty (nx s) (s.size + 1) 0).2 < s.size
      · have e1 : Pt.chk (nx s) s.size = (2, (Pt.ty (nx s) (s.size + 1) 0).2) := by simp [Pt.chk, hn, hT, hq]
        rw [e1]
        exact check_bad s w _ _ (read_more s (face w) hs hT hq)
      · have H := read_end s (face w) hs hT (by omega)
        by_cases h4 : 4 < Pt.dep (nx s) (s.size + 1) 0
        · have e1 : Pt.chk (nx s) s.size = (3, 0) := by simp [Pt.chk, hn, hT, hq, h4]
          rw [e1]
          simp only [h4, if_true] at H
          exact check_bad s w _ _ H
        · have e1 : Pt.chk (nx s) s.size = (0, 0) := by simp [Pt.chk, hn, hT, hq, h4]
          rw [e1]
          simp only [h4, if_false] at H
          refine check_good s w (H.mono ?_)
          rintro e w' ⟨⟨c0, c1, c2, h, _⟩, hb⟩
          exact ⟨⟨c0, c1, c2, h⟩, hb⟩
  · have e1 : Pt.chk (nx s) s.size = (1, 0) := by
      have : 40 < s.size := by omega
      simp [Pt.chk, this]
    rw [e1]
    exact check_bad s w _ _ (read_long s (face w) hs)

theorem ref_any (s : ByteArray) (w : World) : Calls Tryz.prog 147 #[.string s] w fun e w' => e = chkTuple (Pt.chk (nx s) s.size) ∧ Below w.heap.size w w' := by
  by_cases hs : s.size ≤ 40
  · have h := ref_short s w hs
    rw [Pt.run_chk (fun p hp => nx_out hp) hs] at h
    exact h
  · have e1 : Pt.chk (nx s) s.size = (1, 0) := by
      have : 40 < s.size := by omega
      simp [Pt.chk, this]
    rw [e1]
    exact ref_long s w hs

theorem chk_one : Pt.chk (nx { data := #[114, 40, 101, 51, 113, 51, 105, 41] }) 8 = (0, 0) := by decide +kernel
theorem chk_two : Pt.chk (nx { data := #[114, 40, 98, 98, 98, 98, 98, 98, 98, 41] }) 10 = (2, 8) := by decide +kernel
theorem check_one (w : World) : Calls Tryz.prog 146 #[.string { data := #[114, 40, 101, 51, 113, 51, 105, 41] }] w fun e w' => e = .returned (.tuple #[.int .i64 0, .int .i64 0]) ∧ Below w.heap.size w w' := by
  have h := check_any { data := #[114, 40, 101, 51, 113, 51, 105, 41] } w
  rw [show ({ data := #[114, 40, 101, 51, 113, 51, 105, 41] } : ByteArray).size = 8 from rfl, chk_one] at h
  exact h
theorem check_two (w : World) : Calls Tryz.prog 146 #[.string { data := #[114, 40, 98, 98, 98, 98, 98, 98, 98, 41] }] w fun e w' => e = .returned (.tuple #[.int .i64 2, .int .i64 8]) ∧ Below w.heap.size w w' := by
  have h := check_any { data := #[114, 40, 98, 98, 98, 98, 98, 98, 98, 41] } w
  rw [show ({ data := #[114, 40, 98, 98, 98, 98, 98, 98, 98, 41] } : ByteArray).size = 10 from rfl, chk_two] at h
  exact h

set_option maxHeartbeats 400000 in
theorem types_any (s : ByteArray) (w : World) : Calls Tryz.prog 89 #[.string s] w fun e w' => e = .returned (.bool true) ∧ Below w.heap.size w w' := by
  have H1 := hide (fun w => check_any s w)
  have H2 := hide (fun w => ref_any s w)
  generalize Pt.chk (nx s) s.size = res at *
  obtain ⟨a, b⟩ := res
  go_enter Tryz.func89, Tryz.ntmps89
  go_wp2_with fail
  refine ((unhide H1) _).mono ?_
  rintro e w1 ⟨rfl, hb1⟩
  go_wp2_with fail
  refine ((unhide H2) _).mono ?_
  rintro e w2 ⟨rfl, hb2⟩
  go_wp2_with (go_at_call 88; go_in)
  go_ret
  exact ⟨rfl, hb1.trans (hb2.mono hb1.size)⟩

theorem own : ownKnob Tryz.prog.godebug = none := by kernel_rfl

end Go.Proofs.YtblomippkddgiaaGreatDoor.V
