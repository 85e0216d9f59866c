/-
  Joined: Call Call2 Maps.
-/
import Derived.Test.YthofebmiggodhaaDoorJ29
import Derived.Test.YthofebmiggodhaaDoorJ30
import Derived.Test.YthofebmiggodhaaDoorJ24
import Derived.StringKeys
/-
  A client begins a call.
-/
namespace Go.Proofs.YthofebmiggodhaaDoor
open Go.RowKit

abbrev put8s (w : World) (b k : Nat) (st sq u : Int) (S : ByteArray) (a wt tr : Int) : World := (((((((w.setCell ⟨b, k * 8, none⟩ (.int .i64 st)).setCell ⟨b, k * 8 + 1, none⟩ (.int .i64 sq)).setCell ⟨b, k * 8 + 2, none⟩ (.slice none 0 0)).setCell ⟨b, k * 8 + 3, none⟩ (.int .i64 u)).setCell ⟨b, k * 8 + 4, none⟩ (.string S)).setCell ⟨b, k * 8 + 5, none⟩ (.int .i64 a)).setCell ⟨b, k * 8 + 6, none⟩ (.int .i64 wt)).setCell ⟨b, k * 8 + 7, none⟩ (.int .i64 tr)
theorem put8s_eq (w : World) (b k : Nat) (st sq u : Int) (m : List UInt8) (a wt tr : Int) : put8s w b k st sq u (str m) a wt tr = put8 w b k ⟨st, sq, u, m, a, wt, tr⟩ := rfl
theorem drew_at (w : World) (b : Nat) : w.drew.heap[b]? = w.heap[b]? := rfl
set_option maxRecDepth 100000 in
set_option maxHeartbeats 400000 in
theorem begin_any (w : World) (b k : Nat) (u : Int) (m : List UInt8) (xs : List LLn) (x : LLn) (h : w.heap[b]? = some (.cells (tab LLn.cells xs).toArray 108 (0, 0))) (hx : xs[k]? = some x) (hs : 0 ≤ x.seq ∧ x.seq ≤ 1000) :
    Calls Tryd.prog 55 #[.pointer (some ⟨b, k * 8, none⟩), .agg #[.int .i64 u, .string (str m), .int .i64 0, .int .i64 0, .int .i64 0]] w fun e w' => e = .returned (.tuple #[]) ∧ w'.heap[b]? = some (.cells (tab LLn.cells (xs.set k ⟨1, x.seq + 1, u, m, 0, 0, 0⟩)).toArray 108 (0, 0)) ∧ Keeps (fun q => q = b) w w' := by
  have hlt := lt_of_block h
  obtain ⟨BX, hBX⟩ : ∃ BX, w.alloc (.cells #[.int .i64 u, .string (str m), .int .i64 0, .int .i64 0, .int .i64 0] 106) = BX := ⟨_, rfl⟩
  have hb : Below w.heap.size w BX := by
    rw [← hBX]
    exact (Below.refl _ _).alloc (Nat.le_refl _) _
  have hbx : BX.heap[w.heap.size]? = some (.cells #[.int .i64 u, .string (str m), .int .i64 0, .int .i64 0, .int .i64 0] 106 (0, 0)) := by
    rw [← hBX]
    exact heap_alloc_new w _
  have h' := (hb.block b hlt).trans h
  obtain ⟨a0, a1, a2, a3, a4, a5, a6, a7⟩ := lnAt h' hx
  have z0 := open_list (off := k * 8) h'
  have z1 := open_list (off := k * 8 + 1) h'
  have z2 := open_list (off := k * 8 + 2) h'
  have z3 := open_list (off := k * 8 + 3) h'
  have z4 := open_list (off := k * 8 + 4) h'
  have z5 := open_list (off := k * 8 + 5) h'
  have z6 := open_list (off := k * 8 + 6) h'
  have z7 := open_list (off := k * 8 + 7) h'
  obtain ⟨XS, hXS⟩ : ∃ XS, XS = xs.set k ⟨1, x.seq + 1, u, m, 0, 0, 0⟩ := ⟨_, rfl⟩
  rw [← hXS]
  have HP : Hid ((put8s BX b k 1 (x.seq + 1) u (str m) 0 0 0).drew.heap[b]? = some (.cells (tab LLn.cells XS).toArray 108 (0, 0)) ∧ Keeps (fun q => q = b) w (put8s BX b k 1 (x.seq + 1) u (str m) 0 0 0).drew) := by
    have q := put_all (w := BX) h' hx ⟨1, x.seq + 1, u, m, 0, 0, 0⟩
    rw [hXS, put8s_eq]
    generalize put8 BX b k ⟨1, x.seq + 1, u, m, 0, 0, 0⟩ = W8 at q ⊢
    rw [drew_at]
    exact ⟨q.1, ((Keeps.ofBelow hb _).trans q.2).drew⟩
  clear hXS
  generalize str m = SM at *
  have c0 : BX.cell? ⟨w.heap.size, 0, none⟩ = some (.int .i64 u) := cell_of hbx 0 _ rfl
  have c1 : BX.cell? ⟨w.heap.size, 1, none⟩ = some (.string SM) := cell_of hbx 1 _ rfl
  have c2 : BX.cell? ⟨w.heap.size, 2, none⟩ = some (.int .i64 0) := cell_of hbx 2 _ rfl
  have c3 : BX.cell? ⟨w.heap.size, 3, none⟩ = some (.int .i64 0) := cell_of hbx 3 _ rfl
  have c4 : BX.cell? ⟨w.heap.size, 4, none⟩ = some (.int .i64 0) := cell_of hbx 4 _ rfl
  have e1 : IntKind.i64.wrap (x.seq + 1) = x.seq + 1 := by rw [IntKind.wrap_i64]; omega
  have HBX := hide hBX
  have hlb := lt_of_block h'
  generalize x.seq = sq at *
  clear h hx hBX hb hbx h'
  go_enter Tryd.func55, Tryd.ntmps55
  go_wp2_with fail
  rw [unhide HBX]
  go_region
  all_goals
    go_wp2
    go_returns
    exact ⟨rfl, unhide HP⟩

set_option maxRecDepth 100000 in
set_option maxHeartbeats 400000 in
theorem rest_any (w : World) (cb b k : Nat) (rt tr : Int) (xs : List LLn) (x : LLn) (h : w.heap[b]? = some (.cells (tab LLn.cells xs).toArray 108 (0, 0))) (hx : xs[k]? = some x) (b4 : w.cell? ⟨cb, 4, none⟩ = some (.int .i64 rt)) (b5 : w.cell? ⟨cb, 5, none⟩ = some (.int .i64 tr)) (hne : ¬ cb = b) :
    Calls Tryd.prog 56 #[ptr cb, .pointer (some ⟨b, k * 8, none⟩)] w fun e w' => e = .returned (.tuple #[]) ∧ w'.heap[b]? = some (.cells (tab LLn.cells (xs.set k { x with wait := rt, tries := tr })).toArray 108 (0, 0)) ∧ Keeps (fun q => q = b) w w' := by
  obtain ⟨a0, a1, a2, a3, a4, a5, a6, a7⟩ := lnAt h hx
  have z6 := open_list (off := k * 8 + 6) h
  have z7 := open_list (off := k * 8 + 7) h
  have e1 := put_step (j := 6) (x' := { x with wait := rt }) (v := .int .i64 rt) h hx (by omega) rfl
  have e2 := put_step (j := 7) (x' := { x with wait := rt, tries := tr }) (v := .int .i64 tr) e1.1 e1.2 (by omega) rfl
  simp only [List.set_set] at e2
  have hl1 := lt_of_cell b4
  have hl2 := lt_of_block h
  have hne' : ¬ b = cb := fun e => hne e.symm
  have HP := hide e2.1
  clear e1 e2 h hx
  go_enter Tryd.func56, Tryd.ntmps56
  go_wp2
  go_returns
  exact ⟨rfl, unhide HP, (keeps_one _).trans (keeps_one _)⟩
end Go.Proofs.YthofebmiggodhaaDoor
/-
  A client's Call that is taken.
-/
namespace Go.Proofs.YthofebmiggodhaaDoor
open Go.RowKit

set_option maxRecDepth 100000 in
set_option maxHeartbeats 1000000 in
theorem call_ok_walk (w : World) (cb lb bm nl k : Nat) (uid proc kind : Int) (X : Value) (T T2 : ByteArray) (SM : ByteArray) (st sq sq' : Int) (A B C : World → Prop) (hk : k < nl)
    (b2 : w.cell? ⟨cb, 2, none⟩ = some (.map (some bm))) (b3 : w.cell? ⟨cb, 3, none⟩ = some (.slice (some ⟨lb, 0, none⟩) nl nl)) (a0 : w.cell? ⟨lb, k * 8, none⟩ = some (.int .i64 st)) (a1 : w.cell? ⟨lb, k * 8 + 1, none⟩ = some (.int .i64 sq))
    (hlook : (Instr.lookup 100 (.map (some bm)) (.int .i64 uid) true).run Tryd.prog w = .ok (.tuple #[.int .i64 kind, .bool true]) w)
    (hst : ¬ st = 1) (hsq : ¬ sq = 999)
    (H17 : Hid (∀ w', Below w.heap.size w w' → Calls Tryd.prog 17 #[.int .i64 kind, .int .i64 proc] w' fun e w'' => e = .returned (.tuple #[.string T, .string T2, .int .i64 0]) ∧ Below w'.heap.size w' w''))
    (H54 : Hid (∀ w', Below w.heap.size w w' → Calls Tryd.prog 54 #[.int .i64 proc, .string T, X] w' fun e w'' => e = .returned (.string SM) ∧ Below w'.heap.size w' w''))
    (H55 : Hid (∀ w', Below w.heap.size w w' → Calls Tryd.prog 55 #[.pointer (some ⟨lb, k * 8, none⟩), .agg #[.int .i64 uid, .string SM, .int .i64 0, .int .i64 0, .int .i64 0]] w' fun e w'' => e = .returned (.tuple #[]) ∧ A w''))
    (H56 : Hid (∀ w', A w' → Calls Tryd.prog 56 #[ptr cb, .pointer (some ⟨lb, k * 8, none⟩)] w' fun e w'' => e = .returned (.tuple #[]) ∧ B w''))
    (H57 : Hid (∀ w', B w' → Calls Tryd.prog 57 #[ptr cb, .int .i64 (k : Int), .bool false] w' fun e w'' => e = .returned (.tuple #[]) ∧ C w''))
    (HSQ : Hid (∀ w', C w' → w'.cell? ⟨lb, k * 8 + 1, none⟩ = some (.int .i64 sq'))) :
    Calls Tryd.prog 41 #[ptr cb, .int .i64 (k : Int), .int .i64 uid, .int .i64 proc, X] w fun e w' => e = .returned (.tuple #[.int .i64 sq', .int .i64 0]) ∧ C w' := by
  have e1 : (st == 1) = false := by simpa using hst
  have e2 : (sq == 999) = false := by simpa using hsq
  have q1 : (0 : Int) ≤ (k : Int) := by omega
  have q2 : (k : Int) < (nl : Int) := by omega
  have hlc := lt_of_cell b2
  have hll := lt_of_cell a0
  clear hst hsq
  go_enter Tryd.func41, Tryd.ntmps41
  go_wp2_with (first | (go_at_call 48; go_in))
  refine ((unhide H17) _ (Below.refl _ _)).mono ?_
  rintro e w1 ⟨rfl, hb1⟩
  have HB1 := hide hb1
  go_wp2_with fail
  refine ((unhide H54) _ (unhide HB1)).mono ?_
  rintro e w2 ⟨rfl, hb2⟩
  have hb12 := hb1.trans (hb2.mono hb1.size)
  have d3 : w2.cell? ⟨cb, 3, none⟩ = some (.slice (some ⟨lb, 0, none⟩) nl nl) := (hb12.cell (p := ⟨cb, 3, none⟩) hlc).trans b3
  have f0 : w2.cell? ⟨lb, k * 8, none⟩ = some (.int .i64 st) := (hb12.cell (p := ⟨lb, k * 8, none⟩) hll).trans a0
  have f1 : w2.cell? ⟨lb, k * 8 + 1, none⟩ = some (.int .i64 sq) := (hb12.cell (p := ⟨lb, k * 8 + 1, none⟩) hll).trans a1
  have HB2 := hide hb12
  clear hb1 hb2 hb12 hlook a0 a1 b2 b3
  go_wp2_with fail
  refine ((unhide H55) _ (unhide HB2)).mono ?_
  rintro e w3 ⟨rfl, hA⟩
  have HA := hide hA
  clear hA d3 f0 f1
  go_wp2_with fail
  refine ((unhide H56) _ (unhide HA)).mono ?_
  rintro e w4 ⟨rfl, hB⟩
  have HB := hide hB
  clear hB
  go_wp2_with fail
  refine ((unhide H57) _ (unhide HB)).mono ?_
  rintro e w5 ⟨rfl, hC⟩
  have g1 := (unhide HSQ) _ hC
  have HC := hide hC
  clear hC
  go_wp2
  go_returns
  exact ⟨rfl, unhide HC⟩
end Go.Proofs.YthofebmiggodhaaDoor
/-
  Maps of the landed code: looking up, laying down, striking.
-/
namespace Go.Proofs.YthofebmiggodhaaDoor
open Go.RowKit Go.Maps

theorem zero3 (w : World) : (zeroValue 3).run Tryd.prog w = .ok (.int .i64 0) w := by kernel_rfl
theorem wf64 {u : Int} (h : -9223372036854775808 ≤ u ∧ u ≤ 9223372036854775807) : (Lit.int .i64 u).wf = true := by
  simp [Lit.wf, IntKind.min, IntKind.max, IntKind.bits, IntKind.signed]
  omega

section
variable {α : Type} {w : World} {k t : TypeId} {b n : Nat} {lit : α → Lit} {g : α → Option Int}

theorem Mp.look (h : Mp w k b lit g n) (K : Keyed Tryd.prog k) (ht : Tryd.prog.underlying t = some (.map k 3)) {key : Value} {a : α} (hkey : keyOf Tryd.prog k key = some (lit a)) : (Instr.lookup t (.map (some b)) key true).run Tryd.prog w = .ok (.tuple #[.int .i64 ((g a).getD 0), .bool (g a).isSome]) w := by
  obtain ⟨D, h1, h2, h3⟩ := h
  obtain ⟨v, ps, hrun, hv⟩ := h1.look_ok K ht (zero3 w) (plainElem_int Tryd.underlying3 (wf64 (by omega))) hkey
  obtain ⟨c, rfl, hc, _⟩ := plainElem_int_inv Tryd.underlying3 hv
  simp only [Prod.mk.injEq] at hc
  rw [hrun, (h3 a).1]
  cases hg : g a with
  | some x =>
    have := (h3 a).2 x hg
    rw [hc.1] at this
    cases this
    rfl
  | none =>
    have hn := (h3 a).1
    rw [hg] at hn
    have := atKey_of_not_has hn (.lit (.int .i64 0))
    rw [hc.1] at this
    cases this
    rfl

theorem Mp.put (h : Mp w k b lit g n) (K : Keyed Tryd.prog k) (ht : Tryd.prog.underlying t = some (.map k 3)) (hn : n < 1000) {key : Value} {a : α} (hkey : keyOf Tryd.prog k key = some (lit a)) (hl : ∀ x y, lit x = lit y → x = y) (hil : WideAt.IsKeyLit (lit a)) {v : Int} (hv : -9223372036854775808 ≤ v ∧ v ≤ 9223372036854775807) (g' : α → Option Int) (hg' : ∀ x, (x = a → g' x = some v) ∧ (¬ x = a → g' x = g x)) :
    ∃ w', (Instr.mapUpdate t (.map (some b)) key (.int .i64 v)).run Tryd.prog w = .ok () w' ∧ Mp w' k b lit g' (if (g a).isSome then n else n + 1) ∧ w.mapTurned w' b := by
  obtain ⟨D, h1, h2, h3⟩ := h
  obtain ⟨w', hrun, h4, h5⟩ := h1.store K ht (by unfold maxLen; omega) hkey (plainElem_int Tryd.underlying3 (wf64 hv))
  have hs := size_put (k := lit a) (h1.tidy K) (.lit (.int .i64 v))
  rw [(h3 a).1, h2] at hs
  refine ⟨w', hrun, ⟨_, ?_, hs, fun x => ?_⟩, h5⟩
  · obtain ⟨es, cl, q1, q2, q3, q4⟩ := h4
    refine ⟨es, cl, q1, q2, ?_, q4⟩
    rw [← hs, q4]
    simp [Maps.size, length_sorted]
  · by_cases hx : x = a
    · subst hx
      rw [(hg' x).1 rfl]
      refine ⟨has_put_same h1.isMap hil _, fun y hy => ?_⟩
      cases hy
      exact atKey_put_same h1.isMap hil _ _
    · have hne : lit x ≠ lit a := fun e => hx (hl _ _ e)
      rw [(hg' x).2 hx, has_put_other hne]
      refine ⟨(h3 x).1, fun y hy => ?_⟩
      rw [atKey_put_other hne]
      exact (h3 x).2 y hy

theorem Mp.len (h : Mp w k b lit g n) (ht : Tryd.prog.underlying t = some (.map k 3)) (ty : TypeId) : (Builtin.len_ #[t] ty #[.map (some b)]).run Tryd.prog w = .ok (.int .i64 (n : Int)) w := by
  obtain ⟨D, h1, h2, h3⟩ := h
  rw [h1.len ht ty, h2]
end

theorem Mp.made (w : World) (k : TypeId) {α : Type} (lit : α → Lit) : Mp (w.alloc (.map #[] 0)) k w.heap.size lit (fun _ => none) 0 :=
  ⟨.map [], World.ownsMap_made w _ _ _, rfl, fun _ => ⟨rfl, fun _ h => by cases h⟩⟩

theorem look_int {w : World} {b n : Nat} {g : Int → Option Int} (h : Mp w 3 b keyI g n) {u : Int} (hu : -9223372036854775808 ≤ u ∧ u ≤ 9223372036854775807) : (Instr.lookup 100 (.map (some b)) (.int .i64 u) true).run Tryd.prog w = .ok (.tuple #[.int .i64 ((g u).getD 0), .bool (g u).isSome]) w :=
  h.look (int_keyed Tryd.underlying3) Tryd.underlying100 (keyOf_int_mk Tryd.underlying3 (wf64 hu))
theorem look_str {w : World} {b n : Nat} {g : List UInt8 → Option Int} (h : Mp w 9 b keyS g n) {s : List UInt8} (hs : s.length ≤ maxLen) : (Instr.lookup 111 (.map (some b)) (.string (str s)) true).run Tryd.prog w = .ok (.tuple #[.int .i64 ((g s).getD 0), .bool (g s).isSome]) w :=
  h.look (string_keyed Tryd.underlying9) Tryd.underlying111 (by rw [Go.WideMaps.keyOf_string_mk Tryd.underlying9 (by rw [str_size]; exact hs)])
theorem put_int {w : World} {b n : Nat} {g : Int → Option Int} (h : Mp w 3 b keyI g n) (hn : n < 1000) {u v : Int} (hu : -9223372036854775808 ≤ u ∧ u ≤ 9223372036854775807) (hv : -9223372036854775808 ≤ v ∧ v ≤ 9223372036854775807) (g' : Int → Option Int) (hg' : ∀ x, (x = u → g' x = some v) ∧ (¬ x = u → g' x = g x)) :
    ∃ w', (Instr.mapUpdate 100 (.map (some b)) (.int .i64 u) (.int .i64 v)).run Tryd.prog w = .ok () w' ∧ Mp w' 3 b keyI g' (if (g u).isSome then n else n + 1) ∧ w.mapTurned w' b :=
  h.put (int_keyed Tryd.underlying3) Tryd.underlying100 hn (keyOf_int_mk Tryd.underlying3 (wf64 hu)) (fun x y e => by cases e; rfl) trivial hv g' hg'
theorem put_str {w : World} {b n : Nat} {g : List UInt8 → Option Int} (h : Mp w 9 b keyS g n) (hn : n < 1000) {s : List UInt8} (hs : s.length ≤ maxLen) {v : Int} (hv : -9223372036854775808 ≤ v ∧ v ≤ 9223372036854775807) (g' : List UInt8 → Option Int) (hg' : ∀ x, (x = s → g' x = some v) ∧ (¬ x = s → g' x = g x)) :
    ∃ w', (Instr.mapUpdate 111 (.map (some b)) (.string (str s)) (.int .i64 v)).run Tryd.prog w = .ok () w' ∧ Mp w' 9 b keyS g' (if (g s).isSome then n else n + 1) ∧ w.mapTurned w' b :=
  h.put (string_keyed Tryd.underlying9) Tryd.underlying111 hn (by rw [Go.WideMaps.keyOf_string_mk Tryd.underlying9 (by rw [str_size]; exact hs)]) (fun x y e => by cases e; rfl) trivial hv g' hg'
theorem turned_keeps {w w' : World} {b : Nat} (h : w.mapTurned w' b) : Keeps (fun k => k = b) w w' := by
  have hg := h.grown
  exact ⟨hg.os, hg.tape, hg.output, hg.size, fun k hk hne => hg.block k hk (fun e => hne (by cases e; rfl))⟩
end Go.Proofs.YthofebmiggodhaaDoor
