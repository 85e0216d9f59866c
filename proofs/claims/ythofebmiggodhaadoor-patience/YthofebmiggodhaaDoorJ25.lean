/-
  Joined: Net.
-/
import Derived.Test.YthofebmiggodhaaDoorJ24
/-
  The landed network: a packet is sent, shown, counted.
-/
namespace Go.Proofs.YthofebmiggodhaaDoor
open Go.RowKit

theorem info91 : (Tryd.prog.info? 91).map (fun i => (i.zero, i.size, i.bytes)) = some (some (.agg #[.int .i64 0, .string ⟨#[]⟩, .bool false]), 3, 32) := by kernel_rfl

def sendL (fl : List R.Fl) (to : Int) (p : Pk) : List R.Fl := if fl.length < 40 then fl ++ [⟨to, sealB p, false⟩] else fl

structure NetPost (w : World) (n : Nat) (K : Value) (fl : List R.Fl) (w' : World) : Prop where
  cell : ∃ K', w'.heap[n]? = some (.cells #[K'] 79 (0, 0)) ∧ w'.ownsRow 0 91 3 K' fl.length (tab fcells fl) ∧ (K'.ownBlock = K.ownBlock ∨ ∃ j, K'.ownBlock = some j ∧ w.heap.size ≤ j)
  keeps : Keeps (fun k => k = n ∨ K.ownBlock = some k) w w'

theorem full_any (w : World) (n : Nat) (a : Option Addr) (m c : Nat) (h : w.heap[n]? = some (.cells #[.slice a m c] 79 (0, 0))) :
    Calls Tryd.prog 93 #[ptr n] w fun e w' => e = .returned (.bool (decide (m = 40))) ∧ w' = w := by
  have c0 : w.cell? ⟨n, 0, none⟩ = some (.slice a m c) := by simp [World.cell?, h]
  go_enter Tryd.func93, Tryd.ntmps93
  go_wp2
  go_ret
  exact ⟨by rw [show (decide (m = 40)) = ((m : Int) == 40) by rw [Bool.eq_iff_iff]; simp; omega]; rfl, rfl⟩

set_option maxRecDepth 100000 in
set_option maxHeartbeats 2000000 in
theorem send_full (w : World) (n : Nat) (a : Option Addr) (c : Nat) (host : Int) (p : Pk) (h : w.heap[n]? = some (.cells #[.slice a 40 c] 79 (0, 0))) :
    Calls Tryd.prog 88 #[ptr n, .int .i64 host, pv p] w fun e w' => e = .returned (.tuple #[]) ∧ Below w.heap.size w w' := by
  obtain ⟨k, cl, li, ln, sq, u, pa, o, pl, body⟩ := p
  have HF := hide (fun w h => full_any w n a 40 c h)
  have hl := lt_of_block h
  have HB := hide ((Below.refl w.heap.size w).alloc (Nat.le_refl _) (.cells #[.int .i64 k, .int .i64 cl, .int .i64 li, .int .i64 ln, .int .i64 sq, .int .i64 u, .int .i64 pa, .int .i64 o, .bool pl, .string (str body)] 42))
  have HH := hide (((unhide HB).block n hl).trans h)
  clear h
  go_enter Tryd.func88, Tryd.ntmps88
  go_wp2_with fail
  refine ((unhide HF) _ (unhide HH)).mono ?_
  rintro e w1 ⟨rfl, rfl⟩
  go_wp2
  go_returns
  exact ⟨rfl, unhide HB⟩

theorem write_right (p : Pk) (hr : RightP p) (w : World) : Calls Tryd.prog 94 #[pv p] w fun e w' => e = .returned (.string (str (sealB p))) ∧ Below w.heap.size w w' := by
  refine (write_any p w).mono ?_
  rintro e w' ⟨hb, ⟨_, rfl⟩ | ⟨hn, _⟩⟩
  · exact ⟨rfl, hb⟩
  · exact absurd hr hn

theorem one_flight (w : World) (host : Int) (S : ByteArray) (j : Nat) (u : Value) (h : ([.int .i64 host, .string S, .bool false] : List Value)[j]? = some u) : (w.alloc (.cells #[.int .i64 host, .string S, .bool false] 91)).cell? ((⟨w.heap.size, 0, none⟩ : Addr).add j) = some u := by
  rw [Addr.add_lit, Nat.zero_add, World.cell?_alloc_new w _ _ j, ← List.getElem?_toArray] at *
  exact h

theorem row_keep {w w' : World} {B n size : Nat} {e : TypeId} {v : Value} {xs : List Value} (h : w.ownsRow B e size v n xs) (hk : ∀ g, v.ownBlock = some g → w'.heap[g]? = w.heap[g]?) : w'.ownsRow B e size v n xs := by
  obtain ⟨hl, h⟩ := h
  refine ⟨hl, ?_⟩
  rcases h with h | ⟨g, cap, cur, rfl, hb, hg, r⟩
  · exact Or.inl h
  · exact Or.inr ⟨g, cap, cur, rfl, hb, by rw [hk g rfl]; exact hg, r⟩

theorem net_done {w BX w1 wz : World} {n m va0 vn vc c : Nat} {a va : Option Addr} {TF : List Value} {host : Int} {SB : ByteArray} (hl : n < w.heap.size) (h : w.heap[n]? = some (.cells #[.slice a m c] 79 (0, 0))) (hOn : (Value.slice a m c).ownBlock ≠ some n) (hb0 : Below w.heap.size w BX) (hb1 : Below BX.heap.size BX w1) (hlw : n < w1.heap.size)
    (hown : wz.ownsRow 0 91 3 (.slice va vn vc) (m + 1) (TF ++ [.int .i64 host, .string SB, .bool false])) (hg : (w1.alloc (.cells #[.int .i64 host, .string SB, .bool false] 91)).grownBy wz (Value.slice a m c).ownBlock) (hgn : wz.heap[n]? = w1.heap[n]?)
    (hat : (Value.slice va vn vc).ownBlock = (Value.slice a m c).ownBlock ∨ (Value.slice va vn vc).ownBlock = some va0) (hva : w1.heap.size + 1 = va0) :
    (wz.setCell ⟨n, 0, none⟩ (.slice va vn vc)).ownsRow 0 91 3 (.slice va vn vc) (m + 1) (TF ++ [.int .i64 host, .string SB, .bool false]) ∧ (wz.setCell ⟨n, 0, none⟩ (.slice va vn vc)).heap[n]? = some (.cells #[.slice va vn vc] 79 (0, 0)) ∧
    ((Value.slice va vn vc).ownBlock = (Value.slice a m c).ownBlock ∨ ∃ j, (Value.slice va vn vc).ownBlock = some j ∧ w.heap.size ≤ j) ∧ Keeps (fun k => k = n ∨ (Value.slice a m c).ownBlock = some k) w (wz.setCell ⟨n, 0, none⟩ (.slice va vn vc)) := by
  have s0 := hb0.size
  have s1 := hb1.size
  have hne : (Value.slice va vn vc).ownBlock ≠ some n := by
    rcases hat with e | e
    · rw [e]; exact hOn
    · rw [e]
      intro q
      cases q
      omega
  have hK := Keeps.ofBelow (F := fun k => k = n ∨ (Value.slice a m c).ownBlock = some k) (hb0.trans (hb1.mono s0))
  have hK2 := (hK.alloc (.cells #[.int .i64 host, .string SB, .bool false] 91)).grown hg (fun k hk => Or.inl (Or.inr hk))
  refine ⟨row_keep hown (fun g hg => ?_), ?_, ?_, hK2.setCell (p := ⟨n, 0, none⟩) (Or.inl (Or.inl rfl)) _⟩
  · exact Below.heap_setCell _ _ _ _ (fun e => hne (by rw [hg]; exact congrArg some e))
  · have := heap_store (cs := [.slice a m c]) (off := 0) (hgn.trans ((hb1.block n (by omega)).trans ((hb0.block n hl).trans h))) (.slice va vn vc)
    exact this
  · rcases hat with e | e
    · exact Or.inl e
    · exact Or.inr ⟨_, e, by omega⟩
set_option maxRecDepth 100000 in
set_option maxHeartbeats 2000000 in
theorem send_room (w : World) (n : Nat) (a : Option Addr) (c : Nat) (fl : List R.Fl) (host : Int) (p : Pk) (h : w.heap[n]? = some (.cells #[.slice a fl.length c] 79 (0, 0))) (hrow : w.ownsRow 0 91 3 (.slice a fl.length c) fl.length (tab fcells fl)) (hfl : fl.length < 40) (hr : RightP p) :
    Calls Tryd.prog 88 #[ptr n, .int .i64 host, pv p] w fun e w' => e = .returned (.tuple #[]) ∧ NetPost w n (.slice a fl.length c) (fl ++ [⟨host, sealB p, false⟩]) w' := by
  have HWR := hide (write_right p hr)
  obtain ⟨SB, hSB⟩ : ∃ SB, SB = str (sealB p) := ⟨_, rfl⟩
  rw [← hSB] at HWR
  have hnew : fcells ⟨host, sealB p, false⟩ = [.int .i64 host, .string SB, .bool false] := by rw [hSB]; rfl
  obtain ⟨m, hm⟩ : ∃ m, m = fl.length := ⟨_, rfl⟩
  rw [← hm] at h hrow hfl ⊢
  have HFN : Hid (∀ w, w.heap[n]? = some (.cells #[.slice a m c] 79 (0, 0)) → Calls Tryd.prog 93 #[ptr n] w fun e w' => e = .returned (.bool false) ∧ w' = w) := fun w h => by
    have := full_any w n a m c h
    rw [show decide (m = 40) = false by simp; omega] at this
    exact this
  have HEND : Hid (∀ w' K', w'.ownsRow 0 91 3 K' (m + 1) (tab fcells fl ++ [.int .i64 host, .string SB, .bool false]) → w'.heap[n]? = some (.cells #[K'] 79 (0, 0)) → (K'.ownBlock = (Value.slice a m c).ownBlock ∨ ∃ j, K'.ownBlock = some j ∧ w.heap.size ≤ j) → Keeps (fun k => k = n ∨ (Value.slice a m c).ownBlock = some k) w w' → NetPost w n (.slice a m c) (fl ++ [⟨host, sealB p, false⟩]) w') := fun w' K' h1 h2 h3 h4 => by
    refine ⟨⟨K', h2, ?_, h3⟩, h4⟩
    rw [tab_snoc, hnew, List.length_append, ← hm]
    exact h1
  clear hnew hSB
  obtain ⟨TF, hTF⟩ : ∃ TF, TF = tab fcells fl := ⟨_, rfl⟩
  rw [← hTF] at hrow HEND
  clear hTF hm
  generalize NetPost w n (.slice a m c) (fl ++ [⟨host, sealB p, false⟩]) = Post at *
  clear hr
  obtain ⟨k, cl, li, ln, sq, u, pa, o, pl, body⟩ := p
  show Calls Tryd.prog 88 #[ptr n, .int .i64 host, pvs k cl li ln sq u pa o pl (str body)] w _
  have HWR : Hid (∀ w, Calls Tryd.prog 94 #[pvs k cl li ln sq u pa o pl (str body)] w fun e w' => e = .returned (.string SB) ∧ Below w.heap.size w w') := HWR
  have hl := lt_of_block h
  have hown := World.ownsRow.lt hrow
  have hOn : (Value.slice a m c).ownBlock ≠ some n := fun e => by
    rcases hrow.2 with ⟨hv, _⟩ | ⟨g, cap, cur, hv, _, hg, _⟩
    · rw [hv] at e; cases e
    · rw [hv] at e
      cases e
      exact ne_tag hg h (by decide) rfl
  obtain ⟨BX, hBX⟩ : ∃ BX, w.alloc (.cells #[.int .i64 k, .int .i64 cl, .int .i64 li, .int .i64 ln, .int .i64 sq, .int .i64 u, .int .i64 pa, .int .i64 o, .bool pl, .string (str body)] 42) = BX := ⟨_, rfl⟩
  have HB : Hid (Below w.heap.size w BX) := by
    rw [← hBX]
    exact (Below.refl w.heap.size w).alloc (Nat.le_refl _) _
  have hbs : BX.heap.size = w.heap.size + 1 := by rw [← hBX]; simp
  have hbx : BX.heap[w.heap.size]? = some (.cells #[.int .i64 k, .int .i64 cl, .int .i64 li, .int .i64 ln, .int .i64 sq, .int .i64 u, .int .i64 pa, .int .i64 o, .bool pl, .string (str body)] 42 (0, 0)) := by
    rw [← hBX]
    exact heap_alloc_new w _
  have H0 := hide h
  have HH := hide (((unhide HB).block n hl).trans h)
  have HRW := hide (row_below' hrow (unhide HB))
  have cn : BX.cell? ⟨n, 0, none⟩ = some (.slice a m c) := cell_of (unhide HH) 0 _ rfl
  have zn : BX.frozen? ⟨n, 0, none⟩ = false := open_list (unhide HH)
  generalize str body = SY at *
  have c0 : BX.cell? ⟨w.heap.size, 0, none⟩ = some (.int .i64 k) := cell_of hbx 0 _ rfl
  have c1 : BX.cell? ⟨w.heap.size, 1, none⟩ = some (.int .i64 cl) := cell_of hbx 1 _ rfl
  have c2 : BX.cell? ⟨w.heap.size, 2, none⟩ = some (.int .i64 li) := cell_of hbx 2 _ rfl
  have c3 : BX.cell? ⟨w.heap.size, 3, none⟩ = some (.int .i64 ln) := cell_of hbx 3 _ rfl
  have c4 : BX.cell? ⟨w.heap.size, 4, none⟩ = some (.int .i64 sq) := cell_of hbx 4 _ rfl
  have c5 : BX.cell? ⟨w.heap.size, 5, none⟩ = some (.int .i64 u) := cell_of hbx 5 _ rfl
  have c6 : BX.cell? ⟨w.heap.size, 6, none⟩ = some (.int .i64 pa) := cell_of hbx 6 _ rfl
  have c7 : BX.cell? ⟨w.heap.size, 7, none⟩ = some (.int .i64 o) := cell_of hbx 7 _ rfl
  have c8 : BX.cell? ⟨w.heap.size, 8, none⟩ = some (.bool pl) := cell_of hbx 8 _ rfl
  have c9 : BX.cell? ⟨w.heap.size, 9, none⟩ = some (.string SY) := cell_of hbx 9 _ rfl
  have HBX := hide hBX
  have HK9 := hide hbx
  have HOW := hide hown
  have HGR : Hid (∀ (w1 wz : World) (hlx : w.heap.size < w1.heap.size), (w1.alloc (.cells #[.int .i64 host, .string SB, .bool false] 91)).grownBy wz (Value.slice a m c).ownBlock → wz.heap[n]? = w1.heap[n]? ∧ wz.heap[w.heap.size]? = w1.heap[w.heap.size]?) := by
    intro w1 wz hlx hg
    have q1 : ((w1.alloc (.cells #[.int .i64 host, .string SB, .bool false] 91)).heap.size) = w1.heap.size + 1 := by simp
    refine ⟨(hg.block n (by omega) (fun e => hOn e.symm)).trans (Below.heap_alloc _ _ _ (by omega)), (hg.block w.heap.size (by omega) (fun e => ?_)).trans (Below.heap_alloc _ _ _ hlx)⟩
    have := (hown _ e.symm).2
    omega
  have HON := hide hOn
  have hlb : n < BX.heap.size := by omega
  have hxb : w.heap.size < BX.heap.size := by omega
  obtain ⟨i0, hi, hz0, hz1, hz2⟩ := info_parts info91
  clear h hrow hbx hBX hown hOn
  go_enter Tryd.func88, Tryd.ntmps88
  go_wp2_with fail
  rw [unhide HBX]
  refine ((unhide HFN) _ (unhide HH)).mono ?_
  rintro e w0 ⟨rfl, hw0⟩
  rw [hw0]
  clear hw0
  go_wp2
  go_region_law (first
    | (refine step_call rfl 94 #[.tmp 14] #[42] rfl cf94 #[pvs k cl li ln sq u pa o pl SY] rfl _ ((unhide HWR) _) ?_; rintro e w1 ⟨rfl, hb1⟩; have hs1 := hb1.size; have hlw : n < w1.heap.size := Nat.lt_of_lt_of_le hlb hs1; have HB1 := hide (undrew hb1); have hz3 : w1.frozen? ⟨n, 0, none⟩ = false := (hb1.frozen (p := ⟨n, 0, none⟩) hlb).trans zn; have hc1 : w1.cell? ⟨n, 0, none⟩ = some (.slice a m c) := (hb1.cell (p := ⟨n, 0, none⟩) hlb).trans cn; have hlx : w.heap.size < w1.heap.size := Nat.lt_of_lt_of_le hxb hs1; clear hb1; refine ⟨_, rfl, ?_⟩)
    | (refine step_append_own rfl (.tmp 12) (.tmp 17) 77 rfl 0 91 i0 (.agg #[.int .i64 0, .string ⟨#[]⟩, .bool false]) 3 32 Tryd.underlying77 hi hz0 hz1 hz2 rfl (by decide) (.slice a m c) m TF rfl (by exact (row_below' (unhide HRW) (unhide HB1)).alloc _) ⟨w1.heap.size, 0, none⟩ 1 1 [.int .i64 host, .string SB, .bool false] rfl rfl (by exact one_flight w1 host SB) (by simp [Value.oneCell']) (by unfold maxLen; omega) (by omega) (by omega) ?_; intro v' wz hownz hgrow hat; obtain ⟨va, vn, vc, hvs⟩ := row_shape hownz; subst hvs; have hgg := (unhide HGR) _ _ hlx hgrow; obtain ⟨hgn, hgx⟩ := hgg; have gz : wz.frozen? ⟨n, 0, none⟩ = false := (World.frozen?_of_block hgn).trans hz3; have gn : wz.cell? ⟨n, 0, none⟩ = some (.slice a m c) := (World.cell?_of_block hgn).trans hc1; have HOZ := hide hownz; have HGZ := hide hgrow; have HAT := hide hat; have HGN := hide hgn; clear hownz hgrow hat hgn hgx))
  all_goals
    have hdn := net_done hl (unhide H0) (unhide HON) (unhide HB) (unhide HB1) hlw (unhide HOZ) (unhide HGZ) (unhide HGN) (unhide HAT) (by simp)
    obtain ⟨d1, d2, d3, d4⟩ := hdn
    have HD := hide ((unhide HEND) _ _ d1 d2 d3 d4)
    clear d1 d2 d3 d4
    go_wp2
    go_returns
    exact ⟨rfl, unhide HD⟩
end Go.Proofs.YthofebmiggodhaaDoor
