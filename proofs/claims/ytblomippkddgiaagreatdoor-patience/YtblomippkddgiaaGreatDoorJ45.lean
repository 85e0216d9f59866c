/-
  Joined: VShort Maps Call Call2.
-/
import Derived.Test.YtblomippkddgiaaGreatDoorJ22
import Derived.Test.YtblomippkddgiaaGreatDoorJ34
import Derived.StringKeys
import Derived.Test.YtblomippkddgiaaGreatDoorJ44
/-
  The arguments of the five procedures are short.
-/
namespace Go.Proofs.YtblomippkddgiaaGreatDoor.V

/- what a value comes to, of a type that is one -/
def eaten (s : ByteArray) (v : List It) : Option (List UInt8) := match eat (nx s) (s.size + 1) 0 v with
  | some (ks, []) => some (bytesOf ks v)
  | _ => none
/- what is written is what is eaten, where it is not too long -/
theorem eaten_mRes (s : ByteArray) (hc : (Pt.chk (nx s) s.size).1 = 0) (v : List It) (hb : ∀ out, eaten s v = some out → out.length ≤ 70) : (match eaten s v with | some out => mRes s v = (0, out) | none => ¬ (mRes s v).1 = 0) := by
  have hmr : mRes s v = wRes (eat (nx s) (s.size + 1) 0 v) v := by simp [mRes, hc]
  rw [hmr]
  unfold eaten at hb ⊢
  cases he : eat (nx s) (s.size + 1) 0 v with
  | none => simp [wRes]
  | some x =>
    obtain ⟨ks, r⟩ := x
    rw [he] at hb
    cases r with
    | cons y r => simp [wRes]
    | nil =>
      have := hb _ rfl
      simp [wRes, this]
theorem eat_leaf {g : Nat → Nat} {f p : Nat} {v r : List It} {ks : List Bool} (h : eat g (f + 1) p v = some (ks, r)) (h97 : g p ≠ 97) (h114 : g p ≠ 114) (h115 : g p ≠ 115) (h117 : g p ≠ 117) (h113 : g p ≠ 113) : ks = [false] := by
  unfold eat headOf at h
  rw [if_neg h97, if_neg h114] at h
  cases v with
  | nil => cases h
  | cons x v =>
    simp only at h
    rw [if_neg h115] at h
    split at h
    · cases h
    · rename_i k0 qs r0 hh
      split at hh
      · cases hh
        simp only [seqE, joinE] at h
        cases h
        rfl
      · cases hh
theorem eat_str {g : Nat → Nat} {f p : Nat} {v r : List It} {ks : List Bool} (h : eat g (f + 1) p v = some (ks, r)) (h115 : g p = 115) : ks = [true] ∧ ∃ x, v = x :: r ∧ x.2.size ≤ 14 := by
  unfold eat headOf at h
  rw [if_neg (by omega), if_neg (by omega)] at h
  cases v with
  | nil => cases h
  | cons x v =>
    simp only at h
    rw [if_pos h115] at h
    split at h
    · cases h
    · rename_i k0 qs r0 hh
      split at hh
      · rename_i hx
        cases hh
        simp only [seqE, joinE] at h
        cases h
        exact ⟨rfl, x, rfl, hx.2⟩
      · cases hh
theorem seq_leaf {E : Nat → List It → Eaten} {q : Nat} (hE : ∀ v ks r, E q v = some (ks, r) → ks = [false]) : ∀ (k : Nat) (v r : List It) (ks : List Bool), seqE E (List.replicate k q) v = some (ks, r) → ks = List.replicate k false
  | 0, v, r, ks, h => by
    simp only [List.replicate_zero, seqE] at h
    cases h
    rfl
  | k + 1, v, r, ks, h => by
    rw [List.replicate_succ, seqE] at h
    cases he : E q v with
    | none => rw [he] at h; cases h
    | some x =>
      obtain ⟨k1, r1⟩ := x
      rw [he] at h
      simp only at h
      cases hs : seqE E (List.replicate k q) r1 with
      | none => rw [hs] at h; cases h
      | some y =>
        obtain ⟨k2, r2⟩ := y
        rw [hs] at h
        simp only [joinE] at h
        cases h
        rw [hE v k1 r1 he, seq_leaf hE k r1 _ _ hs, List.replicate_succ]
        rfl
/- numbers alone: two bytes each -/
theorem bytes_nums : ∀ (k : Nat) (v : List It), (bytesOf (List.replicate k false) v).length ≤ 2 * k
  | 0, v => by simp [bytesOf]
  | k + 1, [] => by simp [List.replicate_succ, bytesOf]
  | k + 1, x :: v => by
    have := bytes_nums k v
    rw [List.replicate_succ, bytesOf, List.length_append]
    simp only [enc8, two8]
    simp
    omega
theorem eaten_leaf {s : ByteArray} {v : List It} {out : List UInt8} (h : eaten s v = some out) (h97 : nx s 0 ≠ 97) (h114 : nx s 0 ≠ 114) (h115 : nx s 0 ≠ 115) (h117 : nx s 0 ≠ 117) (h113 : nx s 0 ≠ 113) : out.length ≤ 70 := by
  unfold eaten at h
  split at h
  · rename_i ks he
    cases h
    rw [eat_leaf he h97 h114 h115 h117 h113]
    have := bytes_nums 1 v
    simp only [List.replicate_one] at this
    omega
  · cases h
theorem eaten_str {s : ByteArray} {v : List It} {out : List UInt8} (h : eaten s v = some out) (h115 : nx s 0 = 115) : out.length ≤ 70 := by
  unfold eaten at h
  split at h
  · rename_i ks he
    cases h
    obtain ⟨h1, x, h2, h3⟩ := eat_str he h115
    rw [h1, h2]
    have e0 : x.2.data.toList.length = x.2.size := Array.length_toList
    have e1 : (if x.2.size % 2 = 1 then [(0 : UInt8)] else []).length ≤ 1 := by split <;> simp
    have e2 : (bytesOf [true] (x :: [])).length = (two8 x.2.size).length + (x.2.data.toList.length + (if x.2.size % 2 = 1 then [(0 : UInt8)] else []).length) := by
      simp only [bytesOf, enc8, if_true, List.append_nil, List.length_append]
    have e3 : (two8 x.2.size).length = 2 := rfl
    omega
  · cases h
/- r(e3q3i) -/
def deskT : ByteArray := { data := #[114, 40, 101, 51, 113, 51, 105, 41] }
theorem desk_kids : Pt.kids (nx deskT) 8 0 = [2, 4] := by decide +kernel
theorem desk_at : nx deskT 0 = 114 ∧ nx deskT 2 = 101 ∧ nx deskT 4 = 113 ∧ nx deskT 6 = 105 := by decide +kernel
theorem desk_hi : hiOf (nx deskT) 7 4 = 3 := by decide +kernel
theorem eaten_desk {v : List It} {out : List UInt8} (h : eaten deskT v = some out) : out.length ≤ 70 := by
  unfold eaten at h
  obtain ⟨a0, a2, a4, a6⟩ := desk_at
  split at h
  · rename_i ks he
    cases h
    rw [show deskT.size + 1 = 8 + 1 from rfl] at he
    unfold eat headOf at he
    rw [if_neg (by omega), if_pos a0, desk_kids] at he
    simp only [seqE] at he
    cases h1 : eat (nx deskT) 8 2 v with
    | none => rw [h1] at he; cases he
    | some x1 =>
      obtain ⟨k1, r1⟩ := x1
      rw [h1] at he
      simp only at he
      have e1 := eat_leaf (f := 7) h1 (by omega) (by omega) (by omega) (by omega) (by omega)
      cases h2 : eat (nx deskT) 8 4 r1 with
      | none => rw [h2] at he; cases he
      | some x2 =>
        obtain ⟨k2, r2⟩ := x2
        rw [h2] at he
        simp only [joinE] at he
        cases he
        have e2 : ∃ n, n ≤ 4 ∧ k2 = List.replicate n false := by
          rw [show (8 : Nat) = 7 + 1 from rfl] at h2
          unfold eat headOf at h2
          rw [if_neg (by omega), if_neg (by omega)] at h2
          cases r1 with
          | nil => cases h2
          | cons x r1 =>
            simp only at h2
            rw [if_neg (show ¬ nx deskT 4 = 115 by omega)] at h2
            split at h2
            · cases h2
            · rename_i k0 qs r0 hh
              split at hh
              · rename_i hx
                rw [if_neg (by omega)] at hh
                cases hh
                cases hs : seqE (eat (nx deskT) 7) (List.replicate x.1.toNat 6) r1 with
                | none => rw [hs] at h2; cases h2
                | some y =>
                  obtain ⟨k3, r3⟩ := y
                  rw [hs] at h2
                  simp only [joinE] at h2
                  cases h2
                  have e3 := seq_leaf (E := eat (nx deskT) 7) (q := 6) (fun v ks r hq => eat_leaf (f := 6) hq (by omega) (by omega) (by omega) (by omega) (by omega)) x.1.toNat r1 _ _ hs
                  have hhi := hx.2.2
                  rw [desk_hi] at hhi
                  exact ⟨x.1.toNat + 1, by omega, by rw [e3, List.replicate_succ]; rfl⟩
              · cases hh
        obtain ⟨n, hn, e2⟩ := e2
        subst e1 e2
        have := bytes_nums (n + 1) v
        rw [List.replicate_succ] at this
        simp only [List.append_nil, List.singleton_append, List.nil_append]
        omega
  · cases h
theorem mRes_four {s : ByteArray} {v : List It} (hc : (Pt.chk (nx s) s.size).1 = 0) (hb : ∀ out, eaten s v = some out → out.length ≤ 70) (h : ¬ (mRes s v).1 = 0) : (mRes s v).1 = 4 := by
  have hm : mRes s v = wRes (eat (nx s) (s.size + 1) 0 v) v := by unfold mRes; rw [if_pos hc]
  rw [hm] at h ⊢
  unfold eaten at hb
  cases he : eat (nx s) (s.size + 1) 0 v with
  | none => rfl
  | some x =>
    obtain ⟨ks, r⟩ := x
    rw [he] at h hb
    cases r with
    | nil =>
      have := hb _ rfl
      have hn : ¬ 70 < (bytesOf ks v).length := by omega
      simp [wRes, hn] at h
    | cons y r => rfl
end Go.Proofs.YtblomippkddgiaaGreatDoor.V
/-
  Maps of the landed code: looking up, laying down, striking.
-/
namespace Go.Proofs.YtblomippkddgiaaGreatDoor
open Go.RowKit Go.Maps

theorem zero3 (w : World) : (zeroValue 3).run Tryz.prog w = .ok (.int .i64 0) w := by kernel_rfl
theorem wf64 {u : Int} (h : -9223372036854775808 ≤ u ∧ u ≤ 9223372036854775807) : (Lit.int .i64 u).wf = true := by
  simp [Lit.wf, IntKind.min, IntKind.max, IntKind.bits, IntKind.signed]
  omega

section
variable {α : Type} {w : World} {k t : TypeId} {b n : Nat} {lit : α → Lit} {g : α → Option Int}

theorem Mp.look (h : Mp w k b lit g n) (K : Keyed Tryz.prog k) (ht : Tryz.prog.underlying t = some (.map k 3)) {key : Value} {a : α} (hkey : keyOf Tryz.prog k key = some (lit a)) : (Instr.lookup t (.map (some b)) key true).run Tryz.prog w = .ok (.tuple #[.int .i64 ((g a).getD 0), .bool (g a).isSome]) w := by
  obtain ⟨D, h1, h2, h3⟩ := h
  obtain ⟨v, ps, hrun, hv⟩ := h1.look_ok K ht (zero3 w) (plainElem_int Tryz.underlying3 (wf64 (by omega))) hkey
  obtain ⟨c, rfl, hc, _⟩ := plainElem_int_inv Tryz.underlying3 hv
  simp only [Prod.mk.injEq] at hc
  rw [hrun, (h3 a).1]
  cases hg : g a with
  | some x =>
    have := (h3 a).2 x hg
    rw [hc.1] at this
    cases this
    rfl
  | none =>
    have hn := (h3 a).1
    rw [hg] at hn
    have := atKey_of_not_has hn (.lit (.int .i64 0))
    rw [hc.1] at this
    cases this
    rfl

theorem Mp.put (h : Mp w k b lit g n) (K : Keyed Tryz.prog k) (ht : Tryz.prog.underlying t = some (.map k 3)) (hn : n < 1000) {key : Value} {a : α} (hkey : keyOf Tryz.prog k key = some (lit a)) (hl : ∀ x y, lit x = lit y → x = y) (hil : WideAt.IsKeyLit (lit a)) {v : Int} (hv : -9223372036854775808 ≤ v ∧ v ≤ 9223372036854775807) (g' : α → Option Int) (hg' : ∀ x, (x = a → g' x = some v) ∧ (¬ x = a → g' x = g x)) :
    ∃ w', (Instr.mapUpdate t (.map (some b)) key (.int .i64 v)).run Tryz.prog w = .ok () w' ∧ Mp w' k b lit g' (if (g a).isSome then n else n + 1) ∧ w.mapTurned w' b := by
  obtain ⟨D, h1, h2, h3⟩ := h
  obtain ⟨w', hrun, h4, h5⟩ := h1.store K ht (by unfold maxLen; omega) hkey (plainElem_int Tryz.underlying3 (wf64 hv))
  have hs := size_put (k := lit a) (h1.tidy K) (.lit (.int .i64 v))
  rw [(h3 a).1, h2] at hs
  refine ⟨w', hrun, ⟨_, ?_, hs, fun x => ?_⟩, h5⟩
  · obtain ⟨es, cl, q1, q2, q3, q4⟩ := h4
    refine ⟨es, cl, q1, q2, ?_, q4⟩
    rw [← hs, q4]
    simp [Maps.size, length_sorted]
  · by_cases hx : x = a
    · subst hx
      rw [(hg' x).1 rfl]
      refine ⟨has_put_same h1.isMap hil _, fun y hy => ?_⟩
      cases hy
      exact atKey_put_same h1.isMap hil _ _
    · have hne : lit x ≠ lit a := fun e => hx (hl _ _ e)
      rw [(hg' x).2 hx, has_put_other hne]
      refine ⟨(h3 x).1, fun y hy => ?_⟩
      rw [atKey_put_other hne]
      exact (h3 x).2 y hy

theorem Mp.len (h : Mp w k b lit g n) (ht : Tryz.prog.underlying t = some (.map k 3)) (ty : TypeId) : (Builtin.len_ #[t] ty #[.map (some b)]).run Tryz.prog w = .ok (.int .i64 (n : Int)) w := by
  obtain ⟨D, h1, h2, h3⟩ := h
  rw [h1.len ht ty, h2]
end

theorem Mp.made (w : World) (k : TypeId) {α : Type} (lit : α → Lit) : Mp (w.alloc (.map #[] 0)) k w.heap.size lit (fun _ => none) 0 :=
  ⟨.map [], World.ownsMap_made w _ _ _, rfl, fun _ => ⟨rfl, fun _ h => by cases h⟩⟩

set_option maxRecDepth 100000 in
theorem look_int {w : World} {b n : Nat} {g : Int → Option Int} (h : Mp w 3 b keyI g n) {u : Int} (hu : -9223372036854775808 ≤ u ∧ u ≤ 9223372036854775807) : (Instr.lookup 131 (.map (some b)) (.int .i64 u) true).run Tryz.prog w = .ok (.tuple #[.int .i64 ((g u).getD 0), .bool (g u).isSome]) w :=
  h.look (int_keyed Tryz.underlying3) Tryz.underlying131 (keyOf_int_mk Tryz.underlying3 (wf64 hu))
set_option maxRecDepth 100000 in
theorem look_str {w : World} {b n : Nat} {g : List UInt8 → Option Int} (h : Mp w 9 b keyS g n) {s : List UInt8} (hs : s.length ≤ maxLen) : (Instr.lookup 159 (.map (some b)) (.string (str s)) true).run Tryz.prog w = .ok (.tuple #[.int .i64 ((g s).getD 0), .bool (g s).isSome]) w :=
  h.look (string_keyed Tryz.underlying9) Tryz.underlying159 (by rw [Go.WideMaps.keyOf_string_mk Tryz.underlying9 (by rw [str_size]; exact hs)])
set_option maxRecDepth 100000 in
theorem put_int {w : World} {b n : Nat} {g : Int → Option Int} (h : Mp w 3 b keyI g n) (hn : n < 1000) {u v : Int} (hu : -9223372036854775808 ≤ u ∧ u ≤ 9223372036854775807) (hv : -9223372036854775808 ≤ v ∧ v ≤ 9223372036854775807) (g' : Int → Option Int) (hg' : ∀ x, (x = u → g' x = some v) ∧ (¬ x = u → g' x = g x)) :
    ∃ w', (Instr.mapUpdate 131 (.map (some b)) (.int .i64 u) (.int .i64 v)).run Tryz.prog w = .ok () w' ∧ Mp w' 3 b keyI g' (if (g u).isSome then n else n + 1) ∧ w.mapTurned w' b :=
  h.put (int_keyed Tryz.underlying3) Tryz.underlying131 hn (keyOf_int_mk Tryz.underlying3 (wf64 hu)) (fun x y e => by cases e; rfl) trivial hv g' hg'
set_option maxRecDepth 100000 in
theorem put_str {w : World} {b n : Nat} {g : List UInt8 → Option Int} (h : Mp w 9 b keyS g n) (hn : n < 1000) {s : List UInt8} (hs : s.length ≤ maxLen) {v : Int} (hv : -9223372036854775808 ≤ v ∧ v ≤ 9223372036854775807) (g' : List UInt8 → Option Int) (hg' : ∀ x, (x = s → g' x = some v) ∧ (¬ x = s → g' x = g x)) :
    ∃ w', (Instr.mapUpdate 159 (.map (some b)) (.string (str s)) (.int .i64 v)).run Tryz.prog w = .ok () w' ∧ Mp w' 9 b keyS g' (if (g s).isSome then n else n + 1) ∧ w.mapTurned w' b :=
  h.put (string_keyed Tryz.underlying9) Tryz.underlying159 hn (by rw [Go.WideMaps.keyOf_string_mk Tryz.underlying9 (by rw [str_size]; exact hs)]) (fun x y e => by cases e; rfl) trivial hv g' hg'
theorem turned_keeps {w w' : World} {b : Nat} (h : w.mapTurned w' b) : Keeps (fun k => k = b) w w' := by
  have hg := h.grown
  exact ⟨hg.os, hg.tape, hg.output, hg.size, fun k hk hne => hg.block k hk (fun e => hne (by cases e; rfl))⟩
end Go.Proofs.YtblomippkddgiaaGreatDoor
/-
  A client begins a call.
-/
namespace Go.Proofs.YtblomippkddgiaaGreatDoor
open Go.RowKit

theorem drew_at (w : World) (b : Nat) : w.drew.heap[b]? = w.heap[b]? := rfl
abbrev put10s (w : World) (b k : Nat) (st sq u pc : Int) (S : ByteArray) (a : Int) (S2 : ByteArray) (wt tr : Int) : World := (((((((((w.setCell ⟨b, k * 10, none⟩ (.int .i64 st)).setCell ⟨b, k * 10 + 1, none⟩ (.int .i64 sq)).setCell ⟨b, k * 10 + 2, none⟩ (.slice none 0 0)).setCell ⟨b, k * 10 + 3, none⟩ (.int .i64 u)).setCell ⟨b, k * 10 + 4, none⟩ (.int .i64 pc)).setCell ⟨b, k * 10 + 5, none⟩ (.string S)).setCell ⟨b, k * 10 + 6, none⟩ (.int .i64 a)).setCell ⟨b, k * 10 + 7, none⟩ (.string S2)).setCell ⟨b, k * 10 + 8, none⟩ (.int .i64 wt)).setCell ⟨b, k * 10 + 9, none⟩ (.int .i64 tr)
theorem put10s_eq (w : World) (b k : Nat) (st sq u pc : Int) (m : List UInt8) (a wt tr : Int) : put10s w b k st sq u pc (str m) a ⟨#[]⟩ wt tr = put10 w b k ⟨st, sq, .slice none 0 0, u, pc, m, a, [], wt, tr⟩ := rfl
set_option maxRecDepth 100000 in
set_option maxHeartbeats 400000 in
theorem begin_any (w : World) (b k : Nat) (u pc : Int) (m : List UInt8) (xs : List LLn) (x : LLn) (hrv : ∃ a n c, x.rv = .slice a n c) (h : w.heap[b]? = some (.cells (tab LLn.cells xs).toArray 139 (0, 0))) (hx : xs[k]? = some x) (hs : 0 ≤ x.seq ∧ x.seq ≤ 1000) :
    Calls Tryz.prog 110 #[.pointer (some ⟨b, k * 10, none⟩), .agg #[.int .i64 u, .int .i64 pc, .string (str m), .int .i64 0, .string ⟨#[]⟩, .int .i64 0, .int .i64 0]] w fun e w' => e = .returned (.tuple #[]) ∧ w'.heap[b]? = some (.cells (tab LLn.cells (xs.set k ⟨1, x.seq + 1, .slice none 0 0, u, pc, m, 0, [], 0, 0⟩)).toArray 139 (0, 0)) ∧ Keeps (fun q => q = b) w w' := by
  have hlt := lt_of_block h
  obtain ⟨BX, hBX⟩ : ∃ BX, w.alloc (.cells #[.int .i64 u, .int .i64 pc, .string (str m), .int .i64 0, .string ⟨#[]⟩, .int .i64 0, .int .i64 0] 137) = BX := ⟨_, rfl⟩
  have hb : Below w.heap.size w BX := by
    rw [← hBX]
    exact (Below.refl _ _).alloc (Nat.le_refl _) _
  have hbx : BX.heap[w.heap.size]? = some (.cells #[.int .i64 u, .int .i64 pc, .string (str m), .int .i64 0, .string ⟨#[]⟩, .int .i64 0, .int .i64 0] 137 (0, 0)) := by
    rw [← hBX]
    exact heap_alloc_new w _
  have h' := (hb.block b hlt).trans h
  obtain ⟨a0, a1, a2, a3, a4, a5, a6, a7, a8, a9⟩ := lnAt h' hx
  obtain ⟨ra, rn, rc, hrv⟩ := hrv
  rw [hrv] at a2
  have z0 := open_list (off := k * 10) h'
  have z1 := open_list (off := k * 10 + 1) h'
  have z2 := open_list (off := k * 10 + 2) h'
  have z3 := open_list (off := k * 10 + 3) h'
  have z4 := open_list (off := k * 10 + 4) h'
  have z5 := open_list (off := k * 10 + 5) h'
  have z6 := open_list (off := k * 10 + 6) h'
  have z7 := open_list (off := k * 10 + 7) h'
  have z8 := open_list (off := k * 10 + 8) h'
  have z9 := open_list (off := k * 10 + 9) h'
  obtain ⟨XS, hXS⟩ : ∃ XS, XS = xs.set k ⟨1, x.seq + 1, .slice none 0 0, u, pc, m, 0, [], 0, 0⟩ := ⟨_, rfl⟩
  rw [← hXS]
  have HP : Hid ((put10s BX b k 1 (x.seq + 1) u pc (str m) 0 ⟨#[]⟩ 0 0).drew.heap[b]? = some (.cells (tab LLn.cells XS).toArray 139 (0, 0)) ∧ Keeps (fun q => q = b) w (put10s BX b k 1 (x.seq + 1) u pc (str m) 0 ⟨#[]⟩ 0 0).drew) := by
    have q := put_all (w := BX) h' hx ⟨1, x.seq + 1, .slice none 0 0, u, pc, m, 0, [], 0, 0⟩
    rw [hXS, put10s_eq]
    generalize put10 BX b k ⟨1, x.seq + 1, .slice none 0 0, u, pc, m, 0, [], 0, 0⟩ = W8 at q ⊢
    rw [drew_at]
    exact ⟨q.1, ((Keeps.ofBelow hb _).trans q.2).drew⟩
  clear hXS
  generalize str m = SM at *
  have c0 : BX.cell? ⟨w.heap.size, 0, none⟩ = some (.int .i64 u) := cell_of hbx 0 _ rfl
  have c1 : BX.cell? ⟨w.heap.size, 1, none⟩ = some (.int .i64 pc) := cell_of hbx 1 _ rfl
  have c2 : BX.cell? ⟨w.heap.size, 2, none⟩ = some (.string SM) := cell_of hbx 2 _ rfl
  have c3 : BX.cell? ⟨w.heap.size, 3, none⟩ = some (.int .i64 0) := cell_of hbx 3 _ rfl
  have c4 : BX.cell? ⟨w.heap.size, 4, none⟩ = some (.string ⟨#[]⟩) := cell_of hbx 4 _ rfl
  have c5 : BX.cell? ⟨w.heap.size, 5, none⟩ = some (.int .i64 0) := cell_of hbx 5 _ rfl
  have c6 : BX.cell? ⟨w.heap.size, 6, none⟩ = some (.int .i64 0) := cell_of hbx 6 _ rfl
  have e1 : IntKind.i64.wrap (x.seq + 1) = x.seq + 1 := by rw [IntKind.wrap_i64]; omega
  have HBX := hide hBX
  have hlb := lt_of_block h'
  generalize x.seq = sq at *
  clear h hx hBX hb hbx h' hrv
  go_enter Tryz.func110, Tryz.ntmps110
  go_wp2_with fail
  rw [unhide HBX]
  go_region
  all_goals
    go_wp2
    go_returns
    exact ⟨rfl, unhide HP⟩

set_option maxRecDepth 100000 in
set_option maxHeartbeats 400000 in
theorem rest_any (w : World) (cb b k : Nat) (rt tr : Int) (xs : List LLn) (x : LLn) (h : w.heap[b]? = some (.cells (tab LLn.cells xs).toArray 139 (0, 0))) (hx : xs[k]? = some x) (b4 : w.cell? ⟨cb, 4, none⟩ = some (.int .i64 rt)) (b5 : w.cell? ⟨cb, 5, none⟩ = some (.int .i64 tr)) (hne : ¬ cb = b) :
    Calls Tryz.prog 111 #[ptr cb, .pointer (some ⟨b, k * 10, none⟩)] w fun e w' => e = .returned (.tuple #[]) ∧ w'.heap[b]? = some (.cells (tab LLn.cells (xs.set k { x with wait := rt, tries := tr })).toArray 139 (0, 0)) ∧ Keeps (fun q => q = b) w w' := by
  obtain ⟨a0, a1, a2, a3, a4, a5, a6, a7, a8, a9⟩ := lnAt h hx
  have z6 := open_list (off := k * 10 + 8) h
  have z7 := open_list (off := k * 10 + 9) h
  have e1 := put_step (j := 8) (x' := { x with wait := rt }) (v := .int .i64 rt) h hx (by omega) rfl
  have e2 := put_step (j := 9) (x' := { x with wait := rt, tries := tr }) (v := .int .i64 tr) e1.1 e1.2 (by omega) rfl
  simp only [List.set_set] at e2
  have hl1 := lt_of_cell b4
  have hl2 := lt_of_block h
  have hne' : ¬ b = cb := fun e => hne e.symm
  have HP := hide e2.1
  clear e1 e2 h hx a0 a1 a2 a3 a4 a5 a6 a7
  go_enter Tryz.func111, Tryz.ntmps111
  go_wp2
  go_returns
  exact ⟨rfl, unhide HP, (keeps_one _).trans (keeps_one _)⟩
end Go.Proofs.YtblomippkddgiaaGreatDoor
/-
  A client's Call, walked.
-/
namespace Go.Proofs.YtblomippkddgiaaGreatDoor
open Go.RowKit

set_option maxRecDepth 100000 in
set_option maxHeartbeats 1000000 in
theorem call_ok_walk (w : World) (cb lb bm nl k : Nat) (uid proc kind : Int) (X : Value) (SM : ByteArray) (st sq sq' : Int) (A B C : World → Prop) (hk : k < nl)
    (b2 : w.cell? ⟨cb, 2, none⟩ = some (.map (some bm))) (b3 : w.cell? ⟨cb, 3, none⟩ = some (.slice (some ⟨lb, 0, none⟩) nl nl)) (a0 : w.cell? ⟨lb, k * 10, none⟩ = some (.int .i64 st)) (a1 : w.cell? ⟨lb, k * 10 + 1, none⟩ = some (.int .i64 sq))
    (hlook : (Instr.lookup 131 (.map (some bm)) (.int .i64 uid) true).run Tryz.prog w = .ok (.tuple #[.int .i64 kind, .bool true]) w)
    (hst : ¬ st = 1) (hsq : ¬ sq = 999)
    (H54 : Hid (∀ w', Below w.heap.size w w' → Calls Tryz.prog 109 #[.int .i64 kind, .int .i64 proc, X] w' fun e w'' => e = .returned (.string SM) ∧ Below w'.heap.size w' w''))
    (H55 : Hid (∀ w', Below w.heap.size w w' → Calls Tryz.prog 110 #[.pointer (some ⟨lb, k * 10, none⟩), .agg #[.int .i64 uid, .int .i64 proc, .string SM, .int .i64 0, .string ⟨#[]⟩, .int .i64 0, .int .i64 0]] w' fun e w'' => e = .returned (.tuple #[]) ∧ A w''))
    (H56 : Hid (∀ w', A w' → Calls Tryz.prog 111 #[ptr cb, .pointer (some ⟨lb, k * 10, none⟩)] w' fun e w'' => e = .returned (.tuple #[]) ∧ B w''))
    (H57 : Hid (∀ w', B w' → Calls Tryz.prog 112 #[ptr cb, .int .i64 (k : Int), .bool false] w' fun e w'' => e = .returned (.tuple #[]) ∧ C w''))
    (HSQ : Hid (∀ w', C w' → w'.cell? ⟨lb, k * 10 + 1, none⟩ = some (.int .i64 sq'))) :
    Calls Tryz.prog 64 #[ptr cb, .int .i64 (k : Int), .int .i64 uid, .int .i64 proc, X] w fun e w' => e = .returned (.tuple #[.int .i64 sq', .int .i64 0]) ∧ C w' := by
  have e1 : (st == 1) = false := by simpa using hst
  have e2 : (sq == 999) = false := by simpa using hsq
  have q1 : (0 : Int) ≤ (k : Int) := by omega
  have q2 : (k : Int) < (nl : Int) := by omega
  have hlc := lt_of_cell b2
  have hll := lt_of_cell a0
  clear hst hsq
  go_enter Tryz.func64, Tryz.ntmps64
  go_wp2_with (first | (go_at_call 73; go_in))
  refine ((unhide H54) _ (Below.refl _ _)).mono ?_
  rintro e w2 ⟨rfl, hb12⟩
  have d3 : w2.cell? ⟨cb, 3, none⟩ = some (.slice (some ⟨lb, 0, none⟩) nl nl) := (hb12.cell (p := ⟨cb, 3, none⟩) hlc).trans b3
  have f0 : w2.cell? ⟨lb, k * 10, none⟩ = some (.int .i64 st) := (hb12.cell (p := ⟨lb, k * 10, none⟩) hll).trans a0
  have f1 : w2.cell? ⟨lb, k * 10 + 1, none⟩ = some (.int .i64 sq) := (hb12.cell (p := ⟨lb, k * 10 + 1, none⟩) hll).trans a1
  have HB2 := hide hb12
  clear hb12 hlook a0 a1 b2 b3
  go_wp2_with fail
  refine ((unhide H55) _ (unhide HB2)).mono ?_
  rintro e w3 ⟨rfl, hA⟩
  have HA := hide hA
  clear hA d3 f0 f1
  go_wp2_with fail
  refine ((unhide H56) _ (unhide HA)).mono ?_
  rintro e w4 ⟨rfl, hB⟩
  have HB := hide hB
  clear hB
  go_wp2_with fail
  refine ((unhide H57) _ (unhide HB)).mono ?_
  rintro e w5 ⟨rfl, hC⟩
  have g1 := (unhide HSQ) _ hC
  have HC := hide hC
  clear hC
  go_wp2
  go_returns
  exact ⟨rfl, unhide HC⟩

/- no such line; no such bond -/
set_option maxRecDepth 100000 in
set_option maxHeartbeats 1000000 in
theorem call_line_walk (w : World) (cb lb nl : Nat) (ln uid proc : Int) (X : Value) (hk : ln < 0 ∨ (nl : Int) ≤ ln) (b3 : w.cell? ⟨cb, 3, none⟩ = some (.slice (some ⟨lb, 0, none⟩) nl nl)) :
    Calls Tryz.prog 64 #[ptr cb, .int .i64 ln, .int .i64 uid, .int .i64 proc, X] w fun e w' => e = .returned (.tuple #[.int .i64 0, .int .i64 14]) ∧ w' = w := by
  by_cases h0 : ln < 0
  · have h1 : ¬ 0 ≤ ln := by omega
    clear hk
    go_enter Tryz.func64, Tryz.ntmps64
    go_wp2_with (first | (go_at_call 73; go_in))
    go_returns
    exact ⟨rfl, rfl⟩
  · have h1 : 0 ≤ ln := by omega
    have h2 : ¬ ln < (nl : Int) := by omega
    clear hk
    go_enter Tryz.func64, Tryz.ntmps64
    go_wp2_with (first | (go_at_call 73; go_in))
    go_returns
    exact ⟨rfl, rfl⟩
set_option maxRecDepth 100000 in
set_option maxHeartbeats 1000000 in
theorem call_bond_walk (w : World) (cb lb bm nl k : Nat) (uid proc z : Int) (X : Value) (hk : k < nl) (b2 : w.cell? ⟨cb, 2, none⟩ = some (.map (some bm))) (b3 : w.cell? ⟨cb, 3, none⟩ = some (.slice (some ⟨lb, 0, none⟩) nl nl)) (hlook : (Instr.lookup 131 (.map (some bm)) (.int .i64 uid) true).run Tryz.prog w = .ok (.tuple #[.int .i64 z, .bool false]) w) :
    Calls Tryz.prog 64 #[ptr cb, .int .i64 (k : Int), .int .i64 uid, .int .i64 proc, X] w fun e w' => e = .returned (.tuple #[.int .i64 0, .int .i64 15]) ∧ w' = w := by
  have q1 : (0 : Int) ≤ (k : Int) := by omega
  have q2 : (k : Int) < (nl : Int) := by omega
  go_enter Tryz.func64, Tryz.ntmps64
  go_wp2_with (first | (go_at_call 73; go_in))
  go_returns
  exact ⟨rfl, rfl⟩
/- it gives up -/
set_option maxRecDepth 100000 in
set_option maxHeartbeats 1000000 in
theorem call_up_walk (w : World) (cb lb bm nl k : Nat) (uid proc kind : Int) (X : Value) (n : Nat) (hk : k < nl) (b2 : w.cell? ⟨cb, 2, none⟩ = some (.map (some bm))) (b3 : w.cell? ⟨cb, 3, none⟩ = some (.slice (some ⟨lb, 0, none⟩) nl nl)) (hlook : (Instr.lookup 131 (.map (some bm)) (.int .i64 uid) true).run Tryz.prog w = .ok (.tuple #[.int .i64 kind, .bool true]) w)
    (H54 : Hid (Calls Tryz.prog 109 #[.int .i64 kind, .int .i64 proc, X] w fun e w'' => e = gaveUp n 0 ∧ Below w.heap.size w w'')) :
    Calls Tryz.prog 64 #[ptr cb, .int .i64 (k : Int), .int .i64 uid, .int .i64 proc, X] w fun e w' => e = gaveUp n 0 ∧ Below w.heap.size w w' := by
  have q1 : (0 : Int) ≤ (k : Int) := by omega
  have q2 : (k : Int) < (nl : Int) := by omega
  go_enter Tryz.func64, Tryz.ntmps64
  go_wp2_with (first | (go_at_call 73; go_in))
  refine (unhide H54).mono ?_
  rintro e w2 ⟨rfl, hb⟩
  go_wp2
  exact ⟨rfl, rfl, hb⟩
/- a call is under way; the line is spent -/
set_option maxRecDepth 100000 in
set_option maxHeartbeats 1000000 in
theorem call_busy_walk (w : World) (cb lb bm nl k : Nat) (uid proc kind st sq er : Int) (X : Value) (SM : ByteArray) (hk : k < nl) (b2 : w.cell? ⟨cb, 2, none⟩ = some (.map (some bm))) (b3 : w.cell? ⟨cb, 3, none⟩ = some (.slice (some ⟨lb, 0, none⟩) nl nl)) (a0 : w.cell? ⟨lb, k * 10, none⟩ = some (.int .i64 st)) (a1 : w.cell? ⟨lb, k * 10 + 1, none⟩ = some (.int .i64 sq))
    (hlook : (Instr.lookup 131 (.map (some bm)) (.int .i64 uid) true).run Tryz.prog w = .ok (.tuple #[.int .i64 kind, .bool true]) w) (hx : (st = 1 ∧ er = 17) ∨ (¬ st = 1 ∧ sq = 999 ∧ er = 11))
    (H54 : Hid (Calls Tryz.prog 109 #[.int .i64 kind, .int .i64 proc, X] w fun e w'' => e = .returned (.string SM) ∧ Below w.heap.size w w'')) :
    Calls Tryz.prog 64 #[ptr cb, .int .i64 (k : Int), .int .i64 uid, .int .i64 proc, X] w fun e w' => e = .returned (.tuple #[.int .i64 0, .int .i64 er]) ∧ Below w.heap.size w w' := by
  have q1 : (0 : Int) ≤ (k : Int) := by omega
  have q2 : (k : Int) < (nl : Int) := by omega
  have hlc := lt_of_cell b2
  have hll := lt_of_cell a0
  have HX := hide hx
  clear hx
  go_enter Tryz.func64, Tryz.ntmps64
  go_wp2_with (first | (go_at_call 73; go_in))
  refine (unhide H54).mono ?_
  rintro e w2 ⟨rfl, hb12⟩
  have d3 : w2.cell? ⟨cb, 3, none⟩ = some (.slice (some ⟨lb, 0, none⟩) nl nl) := (hb12.cell (p := ⟨cb, 3, none⟩) hlc).trans b3
  have f0 : w2.cell? ⟨lb, k * 10, none⟩ = some (.int .i64 st) := (hb12.cell (p := ⟨lb, k * 10, none⟩) hll).trans a0
  have f1 : w2.cell? ⟨lb, k * 10 + 1, none⟩ = some (.int .i64 sq) := (hb12.cell (p := ⟨lb, k * 10 + 1, none⟩) hll).trans a1
  have HB2 := hide hb12
  clear hb12 hlook a0 a1 b2 b3
  rcases unhide HX with ⟨rfl, rfl⟩ | ⟨h1, rfl, rfl⟩
  · go_wp2
    go_returns
    exact ⟨rfl, unhide HB2⟩
  · have e1 : (st == 1) = false := by simpa using h1
    go_wp2
    go_returns
    exact ⟨rfl, unhide HB2⟩
end Go.Proofs.YtblomippkddgiaaGreatDoor
