/-
  Joined: Row Write.
-/
import Derived.Test.YtblomippkddgiaaGreatDoorJ32
import Derived.Maps.AppendAt
import Derived.Lib.AppendStr
import Derived.Lib.BufferRead
import Derived.Laws.IdiomStrings
import Derived.Laws.OwnMore
import Derived.Deep.RegionLaw
import Derived.Deep.RegionHeld3
/-
  Bytes that are appended to a row of the call's own.
-/
namespace Go.Proofs.YtblomippkddgiaaGreatDoor
open Go.RowKit

theorem row_shape {w : World} {B n size : Nat} {e : TypeId} {v : Value} {xs : List Value} (h : w.ownsRow B e size v n xs) : ∃ a k c, v = .slice a k c := by
  rcases h.2 with ⟨hv, _⟩ | ⟨g, cap, cur, hv, _⟩
  · exact ⟨_, _, _, hv⟩
  · exact ⟨_, _, _, hv⟩
theorem row_below' {w w' : World} {B n size : Nat} {e : TypeId} {v : Value} {xs : List Value} (h : w.ownsRow B e size v n xs) (hb : Below w.heap.size w w') : w'.ownsRow B e size v n xs := by
  obtain ⟨hl, h⟩ := h
  refine ⟨hl, ?_⟩
  rcases h with h | ⟨g, cap, cur, hv, hg, hh, r⟩
  · exact Or.inl h
  · refine Or.inr ⟨g, cap, cur, hv, hg, ?_, r⟩
    rw [hb.block g (lt_of_block hh)]
    exact hh
theorem u8s_one (l : List UInt8) : ∀ u ∈ u8s l, u.oneCell' = true := by
  intro u hu
  unfold u8s at hu
  obtain ⟨c, _, rfl⟩ := List.mem_map.1 hu
  rfl
theorem u8s_append (a b : List UInt8) : u8s (a ++ b) = u8s a ++ u8s b := by
  unfold u8s
  rw [List.map_append]

/- the slice O holds the bytes l, in a row of its own at or above B -/
def Own (w : World) (B : Nat) (O : Value) (l : List UInt8) : Prop := w.ownsRow B 5 1 O l.length (u8s l)
theorem Own.push {w : World} {B : Nat} {O : Value} {a b : List UInt8} (h : w.ownsRow B 5 1 O (a.length + b.length) (u8s a ++ u8s b)) : Own w B O (a ++ b) := by
  unfold Own
  rw [List.length_append, u8s_append]
  exact h
theorem Own.conv {w : World} {B : Nat} {O : Value} {out : List UInt8} (h : Own w B O out) : (convert 199 9 O).run Tryz.prog w = .ok (.string (str out)) w := by
  have hcl := fun g => World.ownsRow.cells (g := g) h
  rcases h.2 with ⟨hv, h0⟩ | ⟨g, cap, cur, hv, _⟩
  · have : out = [] := List.eq_nil_of_length_eq_zero h0
    subst this
    rw [hv]
    exact Lib.run_convert_nil_bytes w 199 9 5 0 Tryz.underlying199 (by kernel_rfl) Tryz.underlying9
  · rw [hv]
    refine run_convert_bytes_back w 199 9 5 ⟨g, 0, none⟩ cap out Tryz.underlying199 (by kernel_rfl) Tryz.underlying9 fun j hj => ?_
    refine hcl g (by rw [hv]; rfl) j _ ?_
    unfold u8s
    rw [List.getElem?_map, List.getElem?_eq_getElem hj]
    rfl

theorem cells_lit (w : World) (cs : List Value) : ∀ (j : Nat) (u : Value), cs[j]? = some u → (w.alloc (.cells cs.toArray 5)).cell? ((⟨w.heap.size, 0, none⟩ : Addr).add j) = some u := by
  intro j u hj
  rw [Addr.add_lit, Nat.zero_add, World.cell?_alloc_new w _ _ j]
  rw [List.getElem?_toArray]
  exact hj

set_option maxRecDepth 100000 in
set_option maxHeartbeats 1000000 in
theorem appendTwo_any (B : Nat) (O : Value) (out : List UInt8) (n : Int) (w : World) (how : Own w B O out) (hB : B ≤ w.heap.size) (hol : out.length ≤ 1000) (hn : 0 ≤ n ∧ n ≤ 65535) :
    Calls Tryz.prog 186 #[O, .int .i64 n] w fun e w' => ∃ O', e = .returned O' ∧ Own w' B O' (out ++ two8 n) ∧ Below B w w' := by
  have hlt := fun k => World.ownsRow.lt how k
  obtain ⟨oa, ok, oc, hO⟩ := row_shape how
  subst hO
  have HOW := hide (how.alloc (.cells (u8s (two8 n)).toArray 5))
  have HN := hide (cells_lit w (u8s (two8 n)))
  have e1 : (u8s (two8 n)).toArray = #[.int .u8 (n / 256), .int .u8 (n % 256)] := by
    unfold u8s two8
    simp only [List.map_cons, List.map_nil, b8_val (show 0 ≤ n / 256 by omega) (show n / 256 ≤ 255 by omega), b8_val (show 0 ≤ n % 256 by omega) (show n % 256 ≤ 255 by omega)]
  rw [e1] at HN HOW
  clear how
  obtain ⟨i0, hi, hz0, hz1, hz2⟩ := info_parts info5
  have q1 : IntKind.u16.wrap n = n := by rw [wrap_u16]; omega
  have q2 : 0 ≤ n / 256 ∧ n / 256 ≤ 255 := by omega
  go_enter Tryz.func186, Tryz.ntmps186
  go_wp2_with (at_builtin; refine wpList_append_own_at _ rfl (.tmp 8) (.tmp 14) 199 rfl B 5 i0 (.int .u8 0) 1 1 Tryz.underlying199 hi hz0 hz1 hz2 rfl (by decide) _ out.length (u8s out) rfl (by exact (unhide HOW)) ⟨w.heap.size, 0, none⟩ 2 2 (u8s (two8 n)) rfl rfl (by exact (unhide HN)) (by exact u8s_one _) (by unfold maxLen; omega) (by omega) (by simp; omega) ?_)
  intro O1 w1 hown hgrow _ hat
  obtain ⟨oa1, on1, oc1, hO1⟩ := row_shape hown
  subst hO1
  have HF : Hid (Own w1 B (.slice oa1 on1 oc1) (out ++ two8 n)) := Own.push hown
  have HB := hide (((Below.refl B w).alloc hB (.cells #[.int .u8 (n / 256), .int .u8 (n % 256)] 5)).grown hgrow (by simp; omega) (fun k hk => (hlt k hk).1))
  clear hown hgrow hat hlt
  go_wp2
  go_ret
  exact ⟨_, rfl, unhide HF, unhide HB⟩

set_option maxRecDepth 100000 in
set_option maxHeartbeats 400000 in
theorem zeroOrOne_any (b : Bool) (w : World) : Calls Tryz.prog 245 #[.bool b] w fun e w' => e = .returned (.int .u8 (yes b)) ∧ w' = w := by
  cases b
  · go_enter Tryz.func245, Tryz.ntmps245
    go_wp2
    go_ret
    exact ⟨rfl, rfl⟩
  · go_enter Tryz.func245, Tryz.ntmps245
    go_wp2
    go_ret
    exact ⟨rfl, rfl⟩

theorem step_append_own {P : Program} {ops : Array Oper} {o : Oper} {a : Act} {w : World} {K : Act → World → Prop} {Q : Exit → Act → World → Prop} {E : Prop}
    (hgd : o.guard = none) (sl x : Operand) (t : TypeId) (ho : o.op = .call { callee := .builtin .append, args := #[sl, x], argTypes := #[t, t] })
    (base : Nat) (e : TypeId) (i : TypeInfo) (z : Value) (size bytes : Nat) (ht : P.underlying t = some (.slice e)) (hi : P.info? e = some i) (hz : i.zero = some z)
    (hsize : i.size = size) (hby : i.bytes = bytes) (hzs : z.cells.size = size) (hsz : 0 < size)
    (v : Value) (n : Nat) (xs : List Value) (hs : a.eval sl = v) (hown : w.ownsRow base e size v n xs)
    (ad : Addr) (m c : Nat) (news : List Value) (hx : a.eval x = .slice (some ad) m c) (hl : news.length = m * size) (hnews : ∀ j u, news[j]? = some u → w.cell? (ad.add j) = some u) (h1 : ∀ u ∈ news, u.oneCell' = true)
    (h63 : n + m ≤ maxLen) (hbytes : (n + m) * bytes ≤ 140737488355328) (hbase : base ≤ w.heap.size)
    (h : ∀ v' w', w'.ownsRow base e size v' (n + m) (xs ++ news) → w.grownBy w' v.ownBlock → (v'.ownBlock = v.ownBlock ∨ v'.ownBlock = some w.heap.size) → K (a.put o.dst v') w') :
    if Region.wanted o (yielded ops a.tmps) = true then Oper.wp P o a w K Q else E := by
  have hw : Region.wanted o (yielded ops a.tmps) = true := by simp [Region.wanted, hgd]
  rw [if_pos hw]
  obtain ⟨v', w', hr, h2, h3, _, h4⟩ := run_append_own_at (P := P) w base t o.type e i z size bytes ht hi hz hsize hby hzs hsz v n xs hown ad m c news hl hnews h1 h63 hbytes hbase
  unfold Oper.wp
  simp [execOp, ho, resolve, invoke, builtin, hs, hx, hr, Result.andThen]
  exact h v' w' h2 h3 h4

end Go.Proofs.YtblomippkddgiaaGreatDoor
/-
  The landed code's writer of a packet.
-/
namespace Go.Proofs.YtblomippkddgiaaGreatDoor
open Go.RowKit

theorem own_four (w1 : World) (B : Nat) (hB : B ≤ w1.heap.size) (k c li ln : Int) (q1 : 0 ≤ k ∧ k ≤ 255) (q2 : 0 ≤ c ∧ c ≤ 255) (q3 : 0 ≤ li ∧ li ≤ 255) (q4 : 0 ≤ ln ∧ ln ≤ 255) :
    Own (w1.alloc (.cells #[.int .u8 k, .int .u8 c, .int .u8 li, .int .u8 ln] 5)) B (.slice (some ⟨w1.heap.size, 0, none⟩) 4 4) [b8 k, b8 c, b8 li, b8 ln] := by
  have h := World.ownsRow_lit (base := B) (e := 5) (size := 1) w1 #[.int .u8 k, .int .u8 c, .int .u8 li, .int .u8 ln] 4 hB (by unfold maxLen; omega) rfl
  have e : u8s [b8 k, b8 c, b8 li, b8 ln] = [.int .u8 k, .int .u8 c, .int .u8 li, .int .u8 ln] := by
    unfold u8s
    simp only [List.map_cons, List.map_nil, b8_val q1.1 q1.2, b8_val q2.1 q2.2, b8_val q3.1 q3.2, b8_val q4.1 q4.2]
  unfold Own
  rw [e]
  exact h
theorem five_cells (u pa o n m : Int) (q1 : 0 ≤ u ∧ u ≤ 255) (q2 : 0 ≤ pa ∧ pa ≤ 255) (q3 : 0 ≤ o ∧ o ≤ 255) (q4 : 0 ≤ n ∧ n ≤ 255) (q5 : 0 ≤ m ∧ m ≤ 255) : u8s [b8 u, b8 pa, b8 o, b8 n, b8 m] = [.int .u8 u, .int .u8 pa, .int .u8 o, .int .u8 n, .int .u8 m] := by
  unfold u8s
  simp only [List.map_cons, List.map_nil, b8_val q1.1 q1.2, b8_val q2.1 q2.2, b8_val q3.1 q3.2, b8_val q4.1 q4.2, b8_val q5.1 q5.2]

theorem wrap_u8 (n : Int) : IntKind.u8.wrap n = n % 256 := by
  simp [IntKind.wrap, IntKind.bits, IntKind.signed]

def writePost (p : Pk) (w : World) (e : Ending) (w' : World) : Prop := Below w.heap.size w w' ∧ ((RightP p ∧ e = .returned (.string (str (sealB p)))) ∨ (¬ RightP p ∧ e = gaveUp 7 0))

set_option maxRecDepth 100000 in
set_option maxHeartbeats 2000000 in
theorem write_any (p : Pk) (w : World) : Calls Tryz.prog 212 #[pv p] w (writePost p w) := by
  obtain ⟨post, hpost⟩ : ∃ post, post = writePost p w := ⟨_, rfl⟩
  have HNO : Hid (∀ w', Below w.heap.size w w' → ¬ RightP p → post (gaveUp 7 0) w') := by
    rw [hpost]
    exact fun w' hb hr => ⟨hb, Or.inr ⟨hr, rfl⟩⟩
  have HYES : Hid (∀ w', Below w.heap.size w w' → RightP p → post (.returned (.string (str (sealB p)))) w') := by
    rw [hpost]
    exact fun w' hb hr => ⟨hb, Or.inl ⟨hr, rfl⟩⟩
  rw [← hpost]
  clear hpost
  have HRT := hide (fun w => right_any p w)
  have HLE := hide (fun h : RightP p => body_le h)
  have HWH := hide (fun h : RightP p => h)
  have HSB : Hid (sealB p = headB p ++ two8 (crcI (headB p))) := rfl
  have HHB : Hid (headB p = [b8 p.kind, b8 p.client, b8 p.life, b8 p.line] ++ two8 p.seq ++ [b8 p.uid, b8 p.part, b8 p.off, b8 (yes p.please), b8 (p.body.length : Int)] ++ p.body) := rfl
  obtain ⟨k, c, li, ln, sq, u, pa, o, pl, body⟩ := p
  go_enter Tryz.func212, Tryz.ntmps212
  go_wp2_with fail
  refine ((unhide HRT) _).mono ?_
  rintro e w1 ⟨hb1, ⟨hrt, rfl⟩ | ⟨hnr, rfl⟩⟩
  · have hs1 := hb1.size
    have hbx := (hb1.block w.heap.size (by simp)).trans (heap_alloc_new w _)
    have HB1 := hide (((Below.refl w.heap.size w).alloc (Nat.le_refl _) (.cells #[.int .i64 k, .int .i64 c, .int .i64 li, .int .i64 ln, .int .i64 sq, .int .i64 u, .int .i64 pa, .int .i64 o, .bool pl, .string (str body)] 41)).trans (hb1.mono (by simp)))
    have hbl := (unhide HLE) hrt
    simp at hs1 hbl
    have HRR := hide hrt
    obtain ⟨b1, b2, b3, b4, b5, b6, b7, b8', _⟩ := hrt
    simp only at b1 b2 b3 b4 b5 b6 b7 b8'
    have q1 : 0 ≤ k ∧ k ≤ 255 := by omega
    have q2 : 0 ≤ c ∧ c ≤ 255 := by omega
    have q3 : 0 ≤ li ∧ li ≤ 255 := by omega
    have q4 : 0 ≤ ln ∧ ln ≤ 255 := by omega
    have q6 : 0 ≤ u ∧ u ≤ 255 := by omega
    have q7 : 0 ≤ pa ∧ pa ≤ 255 := by omega
    have q8 : 0 ≤ o ∧ o ≤ 255 := by omega
    have e0 : w1.cell? ⟨w.heap.size, 0, none⟩ = some (.int .i64 k) := cell_of hbx 0 _ rfl
    have e1 : w1.cell? ⟨w.heap.size, 1, none⟩ = some (.int .i64 c) := cell_of hbx 1 _ rfl
    have e2 : w1.cell? ⟨w.heap.size, 2, none⟩ = some (.int .i64 li) := cell_of hbx 2 _ rfl
    have e3 : w1.cell? ⟨w.heap.size, 3, none⟩ = some (.int .i64 ln) := cell_of hbx 3 _ rfl
    have e4 : w1.cell? ⟨w.heap.size, 4, none⟩ = some (.int .i64 sq) := cell_of hbx 4 _ rfl
    have hcl : w.heap.size < w1.heap.size := by omega
    have HBX := hide hbx
    clear hbx hb1
    go_wp2_with fail
    refine (appendTwo_any (w.heap.size + 1) _ _ sq _ (own_four w1 (w.heap.size + 1) (by omega) k c li ln q1 q2 q3 q4) (by simp; omega) (by simp) (by omega)).mono ?_
    rintro e w2 ⟨O2, rfl, hown2, hb2⟩
    have hs2 := hb2.size
    simp at hs2
    have hbx2 := (hb2.block w.heap.size (by omega)).trans ((Below.heap_alloc w1 _ _ hcl).trans (unhide HBX))
    obtain ⟨o2a, o2n, o2c, hO2⟩ := row_shape hown2
    subst hO2
    have hlt2 := fun k => World.ownsRow.lt hown2 k
    have HLT2 := hide hlt2
    have HB2 := hide (((unhide HB1).alloc (by omega) (.cells #[.int .u8 k, .int .u8 c, .int .u8 li, .int .u8 ln] 5)).trans (hb2.mono (by omega)))
    have e5 : w2.cell? ⟨w.heap.size, 5, none⟩ = some (.int .i64 u) := cell_of hbx2 5 _ rfl
    have e6 : w2.cell? ⟨w.heap.size, 6, none⟩ = some (.int .i64 pa) := cell_of hbx2 6 _ rfl
    have e7 : w2.cell? ⟨w.heap.size, 7, none⟩ = some (.int .i64 o) := cell_of hbx2 7 _ rfl
    have e8 : w2.cell? ⟨w.heap.size, 8, none⟩ = some (.bool pl) := cell_of hbx2 8 _ rfl
    have e9 : w2.cell? ⟨w.heap.size, 9, none⟩ = some (.string (str body)) := cell_of hbx2 9 _ rfl
    have HBX2 := hide hbx2
    have HOW2 := hide hown2
    have hcl2 : w.heap.size < w2.heap.size := by omega
    have HZO := hide zeroOrOne_any
    have hne : ¬ w2.heap.size = w.heap.size := by omega
    obtain ⟨i0, hi, hz0, hz1, hz2⟩ := info_parts info5
    have qs : 0 ≤ (body.length : Int) ∧ (body.length : Int) ≤ 255 := by omega
    have wu : IntKind.u8.wrap u = u := by rw [wrap_u8]; omega
    have wpa : IntKind.u8.wrap pa = pa := by rw [wrap_u8]; omega
    have wo : IntKind.u8.wrap o = o := by rw [wrap_u8]; omega
    have wl : IntKind.u8.wrap (body.length : Int) = (body.length : Int) := by rw [wrap_u8]; omega
    have qy : 0 ≤ yes pl ∧ yes pl ≤ 255 := by unfold yes; split <;> omega
    generalize hYP : yes pl = Y at *
    have HN := cells_lit w2 (u8s [b8 u, b8 pa, b8 o, b8 Y, b8 (body.length : Int)])
    rw [five_cells u pa o Y (body.length : Int) q6 q7 q8 qy qs] at HN
    have HNN := hide HN
    have HF5 := hide (five_cells u pa o Y (body.length : Int) q6 q7 q8 qy qs)
    have HGR : Hid (∀ (o5 : Obj) (wz : World), ((w2.alloc o5).drew).grownBy wz (Value.slice o2a o2n o2c).ownBlock → Below (w.heap.size + 1) w2 wz ∧ wz.heap[w.heap.size]? = w2.heap[w.heap.size]?) := by
      intro o5 wz hg
      have h := ((Below.refl (w.heap.size + 1) w2).alloc (by omega) o5).drew.grown hg (by simp; omega) (fun k hk => (hlt2 k hk).1)
      exact ⟨h, h.block _ (by omega)⟩
    clear HN hbx2 hown2 hb2 hlt2 e0 e1 e2 e3 e4 HRT HLE HBX HB1
    go_wp2
    go_region_held3 (fun w' => w'.cell? ⟨w.heap.size, 5, none⟩ = some (.int .i64 u) ∧ w'.cell? ⟨w.heap.size, 6, none⟩ = some (.int .i64 pa) ∧ w'.cell? ⟨w.heap.size, 7, none⟩ = some (.int .i64 o) ∧ w'.cell? ⟨w.heap.size, 8, none⟩ = some (.bool pl) ∧ w'.cell? ⟨w.heap.size, 9, none⟩ = some (.string (str body))) (go_keep)
      (first
        | (go_at_call 245; refine ((unhide HZO) _ _).mono ?_; rintro e w' ⟨rfl, rfl⟩)
        | (refine step_append_own rfl (.tmp 23) (.tmp 40) 199 rfl (w.heap.size + 1) 5 i0 (.int .u8 0) 1 1 Tryz.underlying199 hi hz0 hz1 hz2 rfl (by decide) (.slice o2a o2n o2c) 6 (u8s ([b8 k, b8 c, b8 li, b8 ln] ++ two8 sq)) rfl (by exact (unhide HOW2).alloc _) ⟨w2.heap.size, 0, none⟩ 5 5 [.int .u8 u, .int .u8 pa, .int .u8 o, .int .u8 Y, .int .u8 (body.length : Int)] rfl rfl (by first | exact (unhide HNN) | (rw [wu, wpa, wo, wl]; exact (unhide HNN))) (by rw [← unhide HF5]; exact u8s_one _) (by unfold maxLen; omega) (by omega) (by simp; omega) ?_; intro v' wz hown hgrow hat; obtain ⟨va, vn, vc, hvs⟩ := row_shape hown; subst hvs; have hgg := (unhide HGR) _ _ hgrow; obtain ⟨hbz, hkz⟩ := hgg; have hbxz := hkz.trans (unhide HBX2); have f5 := cell_of hbxz 5 _ rfl; have f6 := cell_of hbxz 6 _ rfl; have f7 := cell_of hbxz 7 _ rfl; have f8 := cell_of hbxz 8 _ rfl; have f9 := cell_of hbxz 9 _ rfl; have HOZ := hide hown; have HBZ := hide hbz; clear hown hgrow hat hbz hkz hbxz))
    have hown3 := unhide HOZ
    rw [← unhide HF5] at hown3
    have hown3' : Own wz (w.heap.size + 1) (.slice va vn vc) ([b8 k, b8 c, b8 li, b8 ln] ++ two8 sq ++ [b8 u, b8 pa, b8 o, b8 Y, b8 (body.length : Int)]) := Own.push hown3
    have HOW3 := hide hown3'
    have hlt3 := fun k => World.ownsRow.lt hown3' k
    have HLT3 := hide hlt3
    have hsz3 := (unhide HBZ).size
    have HB3 := hide ((unhide HB2).trans ((unhide HBZ).mono (by omega : w.heap.size ≤ w.heap.size + 1)))
    have g9 : wz.cell? ⟨w.heap.size, 9, none⟩ = some (.string (str body)) := f9
    obtain ⟨acc, hacc⟩ : ∃ acc, acc = [b8 k, b8 c, b8 li, b8 ln] ++ two8 sq ++ [b8 u, b8 pa, b8 o, b8 Y, b8 (body.length : Int)] := ⟨_, rfl⟩
    have hal : acc.length = 11 := by rw [hacc]; rfl
    rw [← hacc] at HOW3
    have HACC := hide hacc
    have hsb : (str body).size = body.length := str_size body
    have HSC : Hid (Lib.strCells (str body) = u8s body) := rfl
    clear hown3 hown3' HOZ f5 f6 f7 f8 f9 e5 e6 e7 e8 e9 HNN HF5 HGR HOW2 HLT2 HBZ HBX2 HB2 HZO hlt3 hacc
    go_wp2_with (at_builtin; go_must (refine Lib.wpList_append_own_string _ rfl (.tmp 42) (.tmp 44) 199 9 rfl (w.heap.size + 1) 5 i0 Tryz.underlying199 Tryz.underlying9 hi hz0 hz1 hz2 (.slice va vn vc) acc.length (u8s acc) rfl (by exact unhide HOW3) (str body) rfl (by unfold maxLen; omega) (by omega) (by omega) ?_))
    intro O4 w4 hown4 hgrow4 _
    obtain ⟨o4a, o4n, o4c, hO4⟩ := row_shape hown4
    subst hO4
    have hbl4 := (Below.refl (w.heap.size + 1) wz).grown hgrow4 (by omega) (fun k hk => ((unhide HLT3) k hk).1)
    have hs4 := hbl4.size
    have HB4 := hide ((unhide HB3).trans (hbl4.mono (by omega : w.heap.size ≤ w.heap.size + 1)))
    rw [unhide HSC] at hown4
    have hown4' : Own w4 (w.heap.size + 1) (.slice o4a o4n o4c) (acc ++ body) := Own.push (by rw [hal]; exact hown4)
    have hhd : acc ++ body = headB ⟨k, c, li, ln, sq, u, pa, o, pl, body⟩ := by rw [unhide HACC, unhide HHB]
    rw [hhd] at hown4'
    have hhl : (headB ⟨k, c, li, ln, sq, u, pa, o, pl, body⟩).length ≤ 1000 := by rw [← hhd, List.length_append]; omega
    generalize hHH : headB ⟨k, c, li, ln, sq, u, pa, o, pl, body⟩ = H at *
    have hcv := hown4'.conv
    have H6 := hide (fun w => sixteen_any H w (by omega))
    have hcd : ((crc H).toNat : Int) = crcI H := rfl
    rw [hcd] at H6
    have H7 := hide (appendTwo_any (w.heap.size + 1) _ H (crcI H) w4 hown4' (by omega) hhl (crcI_lt H))
    generalize hC : crcI H = C at *
    clear hown4 hown4' hgrow4 hbl4 HB3 HOW3 HLT3 g9 hhd hcd
    generalize hSH : str H = SH at *
    go_wp2_with fail
    refine ((unhide H6) _).mono ?_
    rintro e w5 ⟨rfl, rfl⟩
    go_wp2_with fail
    refine (unhide H7).mono ?_
    rintro e w6 ⟨O6, rfl, hown6, hb6⟩
    obtain ⟨o6a, o6n, o6c, hO6⟩ := row_shape hown6
    subst hO6
    have hcv6 := hown6.conv
    have HB6 := hide ((unhide HB4).trans (hb6.mono (by omega : w.heap.size ≤ w.heap.size + 1)))
    clear hown6 hb6 hcv
    have HY := (unhide HYES)
    rw [unhide HSB] at HY
    have HY' := hide HY
    clear HY HYES HNO HSB HHB
    generalize hST : str (H ++ two8 C) = ST at *
    go_wp2
    exact (unhide HY') _ (unhide HB6) (unhide HRR)
  · go_wp2
    exact ⟨rfl, (unhide HNO) _ (((Below.refl _ _).alloc (Nat.le_refl _) _).trans (hb1.mono (by simp))) hnr⟩
end Go.Proofs.YtblomippkddgiaaGreatDoor
