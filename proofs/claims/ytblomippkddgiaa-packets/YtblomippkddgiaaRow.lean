/-
  Bytes that are appended to a row of the call's own.
-/
import Derived.Test.YtblomippkddgiaaOpen
import Derived.Maps.AppendAt
import Derived.Lib.AppendStr
import Derived.Lib.BufferRead
import Derived.Laws.IdiomStrings
import Derived.Laws.OwnMore
import Derived.Deep.RegionLaw
import Derived.Deep.RegionHeld3
namespace Go.Proofs.Ytblomippkddgiaa
open Go.RowKit

theorem row_shape {w : World} {B n size : Nat} {e : TypeId} {v : Value} {xs : List Value} (h : w.ownsRow B e size v n xs) : ∃ a k c, v = .slice a k c := by
  rcases h.2 with ⟨hv, _⟩ | ⟨g, cap, cur, hv, _⟩
  · exact ⟨_, _, _, hv⟩
  · exact ⟨_, _, _, hv⟩
theorem row_below' {w w' : World} {B n size : Nat} {e : TypeId} {v : Value} {xs : List Value} (h : w.ownsRow B e size v n xs) (hb : Below w.heap.size w w') : w'.ownsRow B e size v n xs := by
  obtain ⟨hl, h⟩ := h
  refine ⟨hl, ?_⟩
  rcases h with h | ⟨g, cap, cur, hv, hg, hh, r⟩
  · exact Or.inl h
  · refine Or.inr ⟨g, cap, cur, hv, hg, ?_, r⟩
    rw [hb.block g (lt_of_block hh)]
    exact hh
theorem u8s_one (l : List UInt8) : ∀ u ∈ u8s l, u.oneCell' = true := by
  intro u hu
  unfold u8s at hu
  obtain ⟨c, _, rfl⟩ := List.mem_map.1 hu
  rfl
theorem u8s_append (a b : List UInt8) : u8s (a ++ b) = u8s a ++ u8s b := by
  unfold u8s
  rw [List.map_append]

/- the slice O holds the bytes l, in a row of its own at or above B -/
def Own (w : World) (B : Nat) (O : Value) (l : List UInt8) : Prop := w.ownsRow B 5 1 O l.length (u8s l)
theorem Own.push {w : World} {B : Nat} {O : Value} {a b : List UInt8} (h : w.ownsRow B 5 1 O (a.length + b.length) (u8s a ++ u8s b)) : Own w B O (a ++ b) := by
  unfold Own
  rw [List.length_append, u8s_append]
  exact h
theorem Own.conv {w : World} {B : Nat} {O : Value} {out : List UInt8} (h : Own w B O out) : (convert 67 9 O).run Try.prog w = .ok (.string (str out)) w := by
  have hcl := fun g => World.ownsRow.cells (g := g) h
  rcases h.2 with ⟨hv, h0⟩ | ⟨g, cap, cur, hv, _⟩
  · have : out = [] := List.eq_nil_of_length_eq_zero h0
    subst this
    rw [hv]
    exact Lib.run_convert_nil_bytes w 67 9 5 0 Try.underlying67 (by kernel_rfl) Try.underlying9
  · rw [hv]
    refine run_convert_bytes_back w 67 9 5 ⟨g, 0, none⟩ cap out Try.underlying67 (by kernel_rfl) Try.underlying9 fun j hj => ?_
    refine hcl g (by rw [hv]; rfl) j _ ?_
    unfold u8s
    rw [List.getElem?_map, List.getElem?_eq_getElem hj]
    rfl

theorem cells_lit (w : World) (cs : List Value) : ∀ (j : Nat) (u : Value), cs[j]? = some u → (w.alloc (.cells cs.toArray 5)).cell? ((⟨w.heap.size, 0, none⟩ : Addr).add j) = some u := by
  intro j u hj
  rw [Addr.add_lit, Nat.zero_add, World.cell?_alloc_new w _ _ j]
  rw [List.getElem?_toArray]
  exact hj

set_option maxRecDepth 100000 in
set_option maxHeartbeats 1000000 in
theorem appendTwo_any (B : Nat) (O : Value) (out : List UInt8) (n : Int) (w : World) (how : Own w B O out) (hB : B ≤ w.heap.size) (hol : out.length ≤ 1000) (hn : 0 ≤ n ∧ n ≤ 65535) :
    Calls Try.prog 64 #[O, .int .i64 n] w fun e w' => ∃ O', e = .returned O' ∧ Own w' B O' (out ++ two8 n) ∧ Below B w w' := by
  have hlt := fun k => World.ownsRow.lt how k
  obtain ⟨oa, ok, oc, hO⟩ := row_shape how
  subst hO
  have HOW := hide (how.alloc (.cells (u8s (two8 n)).toArray 5))
  have HN := hide (cells_lit w (u8s (two8 n)))
  have e1 : (u8s (two8 n)).toArray = #[.int .u8 (n / 256), .int .u8 (n % 256)] := by
    unfold u8s two8
    simp only [List.map_cons, List.map_nil, b8_val (show 0 ≤ n / 256 by omega) (show n / 256 ≤ 255 by omega), b8_val (show 0 ≤ n % 256 by omega) (show n % 256 ≤ 255 by omega)]
  rw [e1] at HN HOW
  clear how
  obtain ⟨i0, hi, hz0, hz1, hz2⟩ := info_parts info5
  have q1 : IntKind.u16.wrap n = n := by rw [wrap_u16]; omega
  have q2 : 0 ≤ n / 256 ∧ n / 256 ≤ 255 := by omega
  go_enter Try.func64, Try.ntmps64
  go_wp2_with (at_builtin; refine wpList_append_own_at _ rfl (.tmp 8) (.tmp 14) 67 rfl B 5 i0 (.int .u8 0) 1 1 Try.underlying67 hi hz0 hz1 hz2 rfl (by decide) _ out.length (u8s out) rfl (by exact (unhide HOW)) ⟨w.heap.size, 0, none⟩ 2 2 (u8s (two8 n)) rfl rfl (by exact (unhide HN)) (by exact u8s_one _) (by unfold maxLen; omega) (by omega) (by simp; omega) ?_)
  intro O1 w1 hown hgrow _ hat
  obtain ⟨oa1, on1, oc1, hO1⟩ := row_shape hown
  subst hO1
  have HF : Hid (Own w1 B (.slice oa1 on1 oc1) (out ++ two8 n)) := Own.push hown
  have HB := hide (((Below.refl B w).alloc hB (.cells #[.int .u8 (n / 256), .int .u8 (n % 256)] 5)).grown hgrow (by simp; omega) (fun k hk => (hlt k hk).1))
  clear hown hgrow hat hlt
  go_wp2
  go_ret
  exact ⟨_, rfl, unhide HF, unhide HB⟩

set_option maxRecDepth 100000 in
set_option maxHeartbeats 400000 in
theorem zeroOrOne_any (b : Bool) (w : World) : Calls Try.prog 65 #[.bool b] w fun e w' => e = .returned (.int .u8 (yes b)) ∧ w' = w := by
  cases b
  · go_enter Try.func65, Try.ntmps65
    go_wp2
    go_ret
    exact ⟨rfl, rfl⟩
  · go_enter Try.func65, Try.ntmps65
    go_wp2
    go_ret
    exact ⟨rfl, rfl⟩

theorem step_append_own {P : Program} {ops : Array Oper} {o : Oper} {a : Act} {w : World} {K : Act → World → Prop} {Q : Exit → Act → World → Prop} {E : Prop}
    (hgd : o.guard = none) (sl x : Operand) (t : TypeId) (ho : o.op = .call { callee := .builtin .append, args := #[sl, x], argTypes := #[t, t] })
    (base : Nat) (e : TypeId) (i : TypeInfo) (z : Value) (size bytes : Nat) (ht : P.underlying t = some (.slice e)) (hi : P.info? e = some i) (hz : i.zero = some z)
    (hsize : i.size = size) (hby : i.bytes = bytes) (hzs : z.cells.size = size) (hsz : 0 < size)
    (v : Value) (n : Nat) (xs : List Value) (hs : a.eval sl = v) (hown : w.ownsRow base e size v n xs)
    (ad : Addr) (m c : Nat) (news : List Value) (hx : a.eval x = .slice (some ad) m c) (hl : news.length = m * size) (hnews : ∀ j u, news[j]? = some u → w.cell? (ad.add j) = some u) (h1 : ∀ u ∈ news, u.oneCell' = true)
    (h63 : n + m ≤ maxLen) (hbytes : (n + m) * bytes ≤ 140737488355328) (hbase : base ≤ w.heap.size)
    (h : ∀ v' w', w'.ownsRow base e size v' (n + m) (xs ++ news) → w.grownBy w' v.ownBlock → (v'.ownBlock = v.ownBlock ∨ v'.ownBlock = some w.heap.size) → K (a.put o.dst v') w') :
    if Region.wanted o (yielded ops a.tmps) = true then Oper.wp P o a w K Q else E := by
  have hw : Region.wanted o (yielded ops a.tmps) = true := by simp [Region.wanted, hgd]
  rw [if_pos hw]
  obtain ⟨v', w', hr, h2, h3, _, h4⟩ := run_append_own_at (P := P) w base t o.type e i z size bytes ht hi hz hsize hby hzs hsz v n xs hown ad m c news hl hnews h1 h63 hbytes hbase
  unfold Oper.wp
  simp [execOp, ho, resolve, invoke, builtin, hs, hx, hr, Result.andThen]
  exact h v' w' h2 h3 h4

end Go.Proofs.Ytblomippkddgiaa
