/-
  Joined: Bytes2 NBend NBend2 STurn.
-/
import Derived.Test.YtblomippkddgiaaGreatDoorJ37
import Derived.Lib.ConvBytes
/-
  Bytes that are turned; packets that are opened.
-/
namespace Go.Proofs.YtblomippkddgiaaGreatDoor
open Go.RowKit

/- the bytes l lie in block G, and may be written -/
def RowB (W : World) (G : Nat) (l : List UInt8) : Prop := G < W.heap.size ∧ ∀ j (c : UInt8), l[j]? = some c → W.cell? ⟨G, j, none⟩ = some (.int .u8 (c.toNat : Int)) ∧ W.frozen? ⟨G, j, none⟩ = false
theorem RowB.set {W : World} {G : Nat} {l : List UInt8} (h : RowB W G l) (i : Nat) (x : UInt8) : RowB (W.setCell ⟨G, i, none⟩ (.int .u8 (x.toNat : Int))) G (l.set i x) := by
  refine ⟨by simpa using h.1, fun j c hj => ?_⟩
  by_cases hji : j = i
  · subst hji
    have hl : j < l.length := by
      have := (List.getElem?_eq_some_iff.1 hj).1
      simpa using this
    rw [List.getElem?_set_self hl] at hj
    obtain rfl := Option.some.inj hj
    obtain ⟨h1, h2⟩ := h.2 j _ (List.getElem?_eq_getElem hl)
    exact ⟨by simp [go_sem, h1], by simpa [go_sem] using h2⟩
  · rw [List.getElem?_set_ne (by omega)] at hj
    obtain ⟨h1, h2⟩ := h.2 j c hj
    exact ⟨by simp [go_sem, h1], by simpa [go_sem] using h2⟩
set_option maxRecDepth 100000 in
theorem RowB.conv {W : World} {G : Nat} {l : List UInt8} (h : RowB W G l) (cap : Nat) : (convert 199 9 (.slice (some ⟨G, 0, none⟩) l.length cap)).run Tryz.prog W = .ok (.string (str l)) W := by
  refine run_convert_bytes_back (P := Tryz.prog) W 199 9 5 ⟨G, 0, none⟩ cap l Tryz.underlying199 (by kernel_rfl) Tryz.underlying9 fun j hj => ?_
  rw [Addr.add_lit, Nat.zero_add]
  exact (h.2 j _ (List.getElem?_eq_getElem hj)).1
theorem RowB.drew {W : World} {G : Nat} {l : List UInt8} (h : RowB W G l) : RowB W.drew G l := h
theorem RowB.alloc {W : World} {G : Nat} {l : List UInt8} (h : RowB W G l) (o : Obj) : RowB (W.alloc o) G l := by
  have h1 := h.1
  refine ⟨by simp; omega, fun j c hj => ?_⟩
  obtain ⟨h2, h3⟩ := h.2 j c hj
  exact ⟨(World.cell?_alloc_lt _ _ _ (by exact h1)).trans h2, by simpa [World.frozen?, Below.heap_alloc W o G h1] using h3⟩
set_option maxRecDepth 100000 in
theorem conv_ex (W : World) (l : List UInt8) : ∃ (cap : Nat) (W' : World), (convert 9 199 (.string (str l))).run Tryz.prog W = .ok (.slice (some ⟨W.heap.size, 0, none⟩) l.length cap) W' ∧ RowB W' W.heap.size l ∧ Below W.heap.size W W' := by
  have h := Lib.run_convert_string_bytes (P := Tryz.prog) W 9 199 5 (str l) Tryz.underlying9 Tryz.underlying199 (by kernel_rfl)
  rw [str_size] at h
  refine ⟨_, _, h, ⟨by rw [Lib.bytesWorld_size]; omega, fun j c hj => ⟨?_, ?_⟩⟩, ?_⟩
  · have hl : j < l.length := (List.getElem?_eq_some_iff.1 hj).1
    rw [Lib.bytesWorld_cell W 5 (str l) j (by rw [str_size]; exact hl)]
    simp [List.getD, hj]
  · have hl : j < l.length := (List.getElem?_eq_some_iff.1 hj).1
    have hs : l.length ≤ (Lib.bytesCells W 5 (str l)).size := by
      unfold Lib.bytesCells
      simp
    simp only [World.frozen?, Lib.bytesWorld_at_new]
    simp
    omega
  · refine ⟨?_, ?_, ?_, by rw [Lib.bytesWorld_size]; omega, fun k hk => Lib.bytesWorld_at_old W 5 (str l) k hk⟩
    · simp [Lib.bytesWorld, World.freeze]
      rfl
    · simp [Lib.bytesWorld, World.freeze]
    · simp [Lib.bytesWorld, World.freeze]
      rfl
theorem seal_right (p : Pk) (hr : RightP p) (w : World) : Calls Tryz.prog 156 #[pv p] w fun e w' => e = .returned (.tuple #[.string (str (sealB p)), .int .i64 0]) ∧ Below w.heap.size w w' := by
  refine (seal_any p w).mono ?_
  rintro e w' ⟨hb, ⟨_, rfl⟩ | ⟨hn, _⟩⟩
  · exact ⟨rfl, hb⟩
  · exact absurd hr hn
theorem open_right (p : Pk) (hr : RightP p) (w : World) : Calls Tryz.prog 14 #[.string (str (sealB p))] w fun e w' => e = .returned (.tuple #[pv p, .int .i64 0]) ∧ Below w.heap.size w w' := by
  have hl := sealB_length p
  have hb := body_le hr
  refine (open_any (sealB p) w (by omega)).mono ?_
  unfold openPost
  rw [readP_seal hr]
  rintro e w' ⟨hb, ⟨hn, _⟩ | ⟨p', hp, rfl⟩⟩
  · cases hn
  · cases hp
    exact ⟨rfl, hb⟩
theorem open_none (l : List UInt8) (hn : readP l = none) (hl : l.length ≤ 1000) (w : World) : Calls Tryz.prog 14 #[.string (str l)] w fun e w' => e = .returned (.tuple #[zeroP, .int .i64 7]) ∧ Below w.heap.size w w' := by
  refine (open_any l w (by omega)).mono ?_
  unfold openPost
  rw [hn]
  rintro e w' ⟨hb, ⟨_, rfl⟩ | ⟨p', hp, _⟩⟩
  · exact ⟨rfl, hb⟩
  · cases hp
theorem xor_u8 (a d : UInt8) : bits .xor .u8 (a.toNat : Int) (d.toNat : Int) = ((a ^^^ d).toNat : Int) := by
  have ha := a.toNat_lt
  have hd := d.toNat_lt
  have n1 : (BitVec.ofInt 8 (a.toNat : Int)).toNat = a.toNat := by
    rw [BitVec.ofInt_natCast, BitVec.toNat_ofNat]
    omega
  have n2 : (BitVec.ofInt 8 (d.toNat : Int)).toNat = d.toNat := by
    rw [BitVec.ofInt_natCast, BitVec.toNat_ofNat]
    omega
  show IntKind.u8.wrap ((BitVec.ofInt 8 (a.toNat : Int) ^^^ BitVec.ofInt 8 (d.toNat : Int)).toNat : Int) = _
  rw [BitVec.toNat_xor, n1, n2, UInt8.toNat_xor]
  have hlt : a.toNat ^^^ d.toNat < 2 ^ 8 := Nat.xor_lt_two_pow (by omega) (by omega)
  rw [wrap_u8]
  omega
theorem xor_ne8 (a d : UInt8) (h : d ≠ 0) : a ^^^ d ≠ a := by
  intro e
  apply h
  have : a ^^^ (a ^^^ d) = a ^^^ a := by rw [e]
  simpa [← UInt8.xor_assoc] using this

end Go.Proofs.YtblomippkddgiaaGreatDoor
/-
  The landed network: a packet flies twice, a byte is turned.
-/
namespace Go.Proofs.YtblomippkddgiaaGreatDoor
open Go.RowKit

set_option maxRecDepth 100000 in
set_option maxHeartbeats 1000000 in
theorem turned_any (w : World) (s : List UInt8) (k : Nat) (b : UInt8) (hk : k < s.length) :
    Calls Tryz.prog 252 #[.string (str s), .int .i64 (k : Int), .int .u8 (b.toNat : Int)] w fun e w' => e = .returned (.string (str (s.set k (s.getD k 0 ^^^ b)))) ∧ Below w.heap.size w w' := by
  obtain ⟨cap, W, hc, hR, hb⟩ := conv_ex w s
  have hx : s[k]? = some (s.getD k 0) := by rw [List.getD_eq_getElem?_getD, List.getElem?_eq_getElem hk]; rfl
  generalize s.getD k 0 = a at hx ⊢
  obtain ⟨c1, z1⟩ := hR.2 k a hx
  have hR2 := hR.set k (a ^^^ b)
  have hcv := hR2.conv cap
  rw [List.length_set] at hcv
  have hx8 := xor_u8 a b
  have HB : Hid (Below w.heap.size w (W.setCell ⟨w.heap.size, k, none⟩ (.int .u8 ((a ^^^ b).toNat : Int)))) := hb.setCell (by simp) _
  have q1 : (0 : Int) ≤ (k : Int) := by omega
  have q2 : (k : Int) < (s.length : Int) := by omega
  have hlt := hR.1
  obtain ⟨X, hX⟩ : ∃ X : Int, X = ((a ^^^ b).toNat : Int) := ⟨_, rfl⟩
  rw [← hX] at hcv hx8 HB
  clear hX
  generalize str (s.set k (a ^^^ b)) = S2 at *
  generalize str s = S1 at *
  generalize s.length = n at *
  clear hR hR2 hb hx hk
  go_enter Tryz.func252, Tryz.ntmps252
  go_wp2
  go_ret
  exact ⟨rfl, unhide HB⟩

set_option maxRecDepth 100000 in
set_option maxHeartbeats 1000000 in
theorem copy_no (w : World) (n : Nat) (a : Option Addr) (m c : Nat) (i e0 : Int) (hK : w.heap[n]? = some (.cells #[.slice a m c] 113 (0, 0))) (h : ((i < 0 ∨ (m : Int) ≤ i) ∧ e0 = 9) ∨ (0 ≤ i ∧ i < (m : Int) ∧ m = 40 ∧ e0 = 12)) :
    Calls Tryz.prog 223 #[ptr n, .int .i64 i] w fun e w' => e = .returned (.int .i64 e0) ∧ w' = w := by
  have H := hide (has_any w n a m c i hK)
  have H2 := hide (full_any w n a m c hK)
  clear hK
  rcases h with ⟨hi, rfl⟩ | ⟨h1, h2, rfl, rfl⟩
  · rw [show decide (0 ≤ i ∧ i < (m : Int)) = false by simp; omega] at H
    clear hi
    go_enter Tryz.func223, Tryz.ntmps223
    go_wp2_with (first | (go_at_call 65; refine (unhide H).mono ?_; rintro e w1 ⟨rfl, hw1⟩; rw [hw1]; clear hw1))
    go_ret
    exact ⟨rfl, rfl⟩
  · rw [show decide (0 ≤ i ∧ i < ((40 : Nat) : Int)) = true by simp; omega] at H
    rw [show decide ((40 : Nat) = 40) = true by simp] at H2
    clear h1 h2
    go_enter Tryz.func223, Tryz.ntmps223
    go_wp2_with (first | (go_at_call 65; refine (unhide H).mono ?_; rintro e w1 ⟨rfl, hw1⟩; rw [hw1]; clear hw1) | (go_at_call 251; refine (unhide H2).mono ?_; rintro e w1 ⟨rfl, hw1⟩; rw [hw1]; clear hw1))
    go_ret
    exact ⟨rfl, rfl⟩

theorem one_flight3L (w : World) (host : Int) (S : ByteArray) (b : Bool) (j : Nat) (u : Value) (h : ([.int .i64 host, .string S, .bool b] : List Value)[j]? = some u) : (w.alloc (.cells #[.int .i64 host, .string S, .bool b] 122)).cell? ((⟨w.heap.size, 0, none⟩ : Addr).add j) = some u := by
  rw [Addr.add_lit, Nat.zero_add, World.cell?_alloc_new w _ _ j, ← List.getElem?_toArray] at *
  exact h
theorem net_put {w W wz : World} {n m : Nat} {K K' : Value} {fl' : List R.Fl} {xs : List Value} {j0 : Nat} (hK : w.heap[n]? = some (.cells #[K] 113 (0, 0))) (hrow : w.ownsRow 0 122 3 K m xs) (hb : Below w.heap.size w W) (hg : W.grownBy wz K.ownBlock) (hown : wz.ownsRow 0 122 3 K' fl'.length (tab fcells fl')) (hat : K'.ownBlock = K.ownBlock ∨ K'.ownBlock = some j0) (hj : w.heap.size ≤ j0) : wz.heap[n]? = some (.cells #[K] 113 (0, 0)) ∧ NetPost w n K fl' (wz.setCell ⟨n, 0, none⟩ K') := by
  have hnK : K.ownBlock ≠ some n := row_tag hrow hK (by decide)
  have hln := (Array.getElem?_eq_some_iff.1 hK).1
  have hzn : wz.heap[n]? = some (.cells #[K] 113 (0, 0)) := by
    rw [hg.block n (Nat.lt_of_lt_of_le hln hb.size) (fun e => hnK e.symm), hb.block n hln]
    exact hK
  have hnK' : K'.ownBlock ≠ some n := by
    rcases hat with e | e
    · rw [e]; exact hnK
    · rw [e]
      intro q
      cases q
      omega
  refine ⟨hzn, ⟨⟨K', ?_, ?_, ?_⟩, ?_⟩⟩
  · exact heap_store (cs := [K]) (off := 0) hzn K'
  · exact row_keep hown (fun g hg => Below.heap_setCell _ _ _ _ (fun e => hnK' (by rw [hg]; exact congrArg some e)))
  · rcases hat with e | e
    · exact Or.inl e
    · exact Or.inr ⟨j0, e, hj⟩
  · have hk0 : Keeps (fun k => k = n ∨ K.ownBlock = some k) w W := Keeps.ofBelow hb _
    exact (hk0.grown hg (fun k hk => Or.inl (Or.inr hk))).setCell (p := ⟨n, 0, none⟩) (Or.inl (Or.inl rfl)) _
set_option maxRecDepth 100000 in
set_option maxHeartbeats 1000000 in
theorem copy_at (w : World) (n : Nat) (K : Value) (fl : List R.Fl) (i : Nat) (f : R.Fl) (hK : w.heap[n]? = some (.cells #[K] 113 (0, 0))) (hrow : w.ownsRow 0 122 3 K fl.length (tab fcells fl)) (hf : fl[i]? = some f) (h40 : fl.length < 40) :
    Calls Tryz.prog 223 #[ptr n, .int .i64 (i : Int)] w fun e w' => e = .returned (.int .i64 0) ∧ NetPost w n K (fl ++ [f]) w' := by
  have hi := (List.getElem?_eq_some_iff.1 hf).1
  rcases id hrow.2 with ⟨_, h0⟩ | ⟨g, cap, cur, rfl, _, hg, hcap, hmax, hsz, htk⟩
  · omega
  have q : ∀ j, j < 3 → cur[i * 3 + j]? = (fcells f)[j]? := fun j hj => by
    rw [← tab_get fcells_len fl i j f hf hj, ← htk, List.getElem?_take, if_pos (by omega)]
    simp
  have v0 : w.cell? ⟨g, i * 3, none⟩ = some (.int .i64 f.to) := by
    have := q 0 (by omega)
    simp [World.cell?, hg]
    simpa [fcells] using this
  have v1 : w.cell? ⟨g, i * 3 + 1, none⟩ = some (.string (str f.s)) := by
    have := q 1 (by omega)
    simp [World.cell?, hg]
    simpa [fcells] using this
  have v2 : w.cell? ⟨g, i * 3 + 2, none⟩ = some (.bool f.bent) := by
    have := q 2 (by omega)
    simp [World.cell?, hg]
    simpa [fcells] using this
  have H := hide (has_any w n (some ⟨g, 0, none⟩) fl.length cap i hK)
  rw [show decide (0 ≤ (i : Int) ∧ (i : Int) < (fl.length : Int)) = true by simp; omega] at H
  have H2 := hide (full_any w n (some ⟨g, 0, none⟩) fl.length cap hK)
  rw [show decide (fl.length = 40) = false by simp; omega] at H2
  have HN : Hid (∀ (wz : World) (K' : Value), wz.ownsRow 0 122 3 K' (fl.length + 1) (tab fcells fl ++ [.int .i64 f.to, .string (str f.s), .bool f.bent]) → (w.drew.alloc (.cells #[.int .i64 f.to, .string (str f.s), .bool f.bent] 122)).grownBy wz (Value.slice (some ⟨g, 0, none⟩) fl.length cap).ownBlock → (K'.ownBlock = (Value.slice (some ⟨g, 0, none⟩) fl.length cap).ownBlock ∨ K'.ownBlock = some (w.heap.size + 1)) → wz.heap[n]? = some (.cells #[.slice (some ⟨g, 0, none⟩) fl.length cap] 113 (0, 0)) ∧ NetPost w n (.slice (some ⟨g, 0, none⟩) fl.length cap) (fl ++ [f]) (wz.setCell ⟨n, 0, none⟩ K')) := fun wz K' how hgr hat => by
    refine net_put hK hrow ((Below.refl _ _).drew.alloc (Nat.le_refl _) _) hgr ?_ hat (by omega)
    rw [List.length_append, tab_snoc]
    exact how
  obtain ⟨i0, hi0, hz0, hz1, hz2⟩ := info_parts info91
  have HRW := hide hrow
  have c1 : w.cell? ⟨n, 0, none⟩ = some (.slice (some ⟨g, 0, none⟩) fl.length cap) := cell_of hK 0 _ rfl
  have hln := lt_of_block hK
  have hlg := (Array.getElem?_eq_some_iff.1 hg).1
  have q1 : (0 : Int) ≤ (i : Int) := by omega
  have q2 : (i : Int) < (fl.length : Int) := by omega
  generalize NetPost w n (.slice (some ⟨g, 0, none⟩) fl.length cap) (fl ++ [f]) = Post at *
  generalize str f.s = SF at *
  generalize tab fcells fl = TF at *
  generalize fl.length = L0 at *
  clear q hK hrow hf hg hsz htk
  go_enter Tryz.func223, Tryz.ntmps223
  go_wp2_with (first | (go_at_call 65; refine (unhide H).mono ?_; rintro e w1 ⟨rfl, hw1⟩; rw [hw1]; clear hw1) | (go_at_call 251; refine (unhide H2).mono ?_; rintro e w1 ⟨rfl, hw1⟩; rw [hw1]; clear hw1))
  go_region_law (refine step_append_own rfl (.tmp 15) (.tmp 23) 111 rfl 0 122 i0 (.agg #[.int .i64 0, .string ⟨#[]⟩, .bool false]) 3 32 Tryz.underlying111 hi0 hz0 hz1 hz2 rfl (by decide) (.slice (some ⟨g, 0, none⟩) L0 cap) L0 TF rfl (by exact (row_below' (unhide HRW) ((Below.refl _ _).drew)).alloc _) ⟨w.heap.size, 0, none⟩ 1 1 [.int .i64 f.to, .string SF, .bool f.bent] rfl rfl (by exact one_flight3L w.drew f.to SF f.bent) (by simp [Value.oneCell']) (by unfold maxLen; omega) (by omega) (by omega) ?_; intro v' wz hownz hgrow hat; obtain ⟨va, vn, vc, hvs⟩ := row_shape hownz; subst hvs; have hn2 := (unhide HN) wz _ hownz hgrow (by simpa using hat); obtain ⟨hzn, hpost⟩ := hn2; have HP := hide hpost; have d1 : wz.cell? ⟨n, 0, none⟩ = some (.slice (some ⟨g, 0, none⟩) L0 cap) := cell_of hzn 0 _ rfl; have z1 : wz.frozen? ⟨n, 0, none⟩ = false := open_list hzn; have hlz := lt_of_block hzn; clear hownz hgrow hat hzn hpost)
  all_goals
    go_wp2
    go_ret
    exact ⟨rfl, unhide HP⟩
theorem LW.copy {p : Pl} {F : Foot} {G : R.Wd} {w : World} (h : LW p F G w) (i : Int) : Calls Tryz.prog 176 #[ptr p.x, .int .i64 i] w fun e w' => e = .returned (.int .i64 (R.copyP G i).1) ∧ ∃ F', LW p F' (R.copyP G i).2 w' ∧ Went F F' w w' := by
  have c0 : w.cell? ⟨p.x, 0, none⟩ = some (ptr p.n) := cell_of h.bx 0 _ rfl
  obtain ⟨K, hK, hrow, hF⟩ := h.bn
  have h40 := h.wf.fly
  have H : Calls Tryz.prog 223 #[ptr p.n, .int .i64 i] w fun e w' => e = .returned (.int .i64 (R.copyP G i).1) ∧ ∃ F', LW p F' (R.copyP G i).2 w' ∧ Went F F' w w' := by
    obtain ⟨a, c, rfl⟩ := slice_of hrow
    unfold R.copyP
    by_cases hi : R.off G i
    · rw [if_pos hi]
      refine (copy_no w p.n a G.flying.length c i 9 hK (Or.inl ⟨hi, rfl⟩)).mono ?_
      rintro e w' ⟨rfl, rfl⟩
      exact ⟨rfl, F, h, Went.refl F w'⟩
    · rw [if_neg hi]
      obtain ⟨k, f, rfl, hf⟩ := R.on_at hi
      have hk := (List.getElem?_eq_some_iff.1 hf).1
      by_cases h2 : 40 ≤ G.flying.length
      · rw [if_pos h2]
        refine (copy_no w p.n a G.flying.length c k 12 hK (Or.inr ⟨by omega, by omega, by omega, rfl⟩)).mono ?_
        rintro e w' ⟨rfl, rfl⟩
        exact ⟨rfl, F, h, Went.refl F w'⟩
      · rw [if_neg h2, Int.toNat_natCast, hf]
        refine (copy_at w p.n _ G.flying k f hK hrow hf (by omega)).mono ?_
        rintro e w' ⟨rfl, hn⟩
        refine ⟨rfl, h.net hK hrow hn hF (R.Wf.flyTurn h.wf (by simp; omega) (fun g hg => ?_))⟩
        rcases List.mem_append.1 hg with q | q
        · exact h.wf.flys g q
        · rw [List.mem_singleton.1 q]
          exact h.wf.flys f (List.mem_of_getElem? hf)
  have HH := hide H
  clear H h hK hrow hF h40
  generalize R.copyP G i = r at *
  go_enter Tryz.func176, Tryz.ntmps176
  go_wp2_with (first | (go_at_call 223; refine (unhide HH).mono ?_; rintro e w1 ⟨rfl, hw1⟩))
  go_returns
  exact ⟨rfl, hw1⟩
end Go.Proofs.YtblomippkddgiaaGreatDoor
/-
  The landed network: Bend.
-/
namespace Go.Proofs.YtblomippkddgiaaGreatDoor
open Go.RowKit

set_option maxRecDepth 100000 in
set_option maxHeartbeats 1000000 in
theorem bend_off (w : World) (n : Nat) (a : Option Addr) (m c : Nat) (i at' by' : Int) (hK : w.heap[n]? = some (.cells #[.slice a m c] 113 (0, 0))) (hi : i < 0 ∨ (m : Int) ≤ i) :
    Calls Tryz.prog 224 #[ptr n, .int .i64 i, .int .i64 at', .int .i64 by'] w fun e w' => e = .returned (.int .i64 9) ∧ w' = w := by
  have H := hide (has_any w n a m c i hK)
  rw [show decide (0 ≤ i ∧ i < (m : Int)) = false by simp; omega] at H
  clear hK hi
  go_enter Tryz.func224, Tryz.ntmps224
  go_wp2_with (first | (go_at_call 65; refine (unhide H).mono ?_; rintro e w1 ⟨rfl, hw1⟩; rw [hw1]; clear hw1))
  go_ret
  exact ⟨rfl, rfl⟩
set_option maxRecDepth 100000 in
set_option maxHeartbeats 1000000 in
theorem bend_arg (w : World) (n g m cap i : Nat) (at' by' : Int) (S : ByteArray) (hK : w.heap[n]? = some (.cells #[.slice (some ⟨g, 0, none⟩) m cap] 113 (0, 0))) (hi : i < m) (h1 : w.cell? ⟨g, i * 3 + 1, none⟩ = some (.string S)) (hx : at' < 0 ∨ (S.size : Int) ≤ at' ∨ by' < 1 ∨ 255 < by') :
    Calls Tryz.prog 224 #[ptr n, .int .i64 (i : Int), .int .i64 at', .int .i64 by'] w fun e w' => e = .returned (.int .i64 9) ∧ w' = w := by
  have H := hide (has_any w n (some ⟨g, 0, none⟩) m cap i hK)
  rw [show decide (0 ≤ (i : Int) ∧ (i : Int) < (m : Int)) = true by simp; omega] at H
  have c1 : w.cell? ⟨n, 0, none⟩ = some (.slice (some ⟨g, 0, none⟩) m cap) := cell_of hK 0 _ rfl
  have q1 : (0 : Int) ≤ (i : Int) := by omega
  have q2 : (i : Int) < (m : Int) := by omega
  have HX := hide hx
  clear hK hx
  by_cases a0 : at' < 0
  · go_enter Tryz.func224, Tryz.ntmps224
    go_wp2_with (first | (go_at_call 65; refine (unhide H).mono ?_; rintro e w1 ⟨rfl, hw1⟩; rw [hw1]; clear hw1))
    go_ret
    exact ⟨rfl, rfl⟩
  · by_cases a1 : (S.size : Int) ≤ at'
    · go_enter Tryz.func224, Tryz.ntmps224
      go_wp2_with (first | (go_at_call 65; refine (unhide H).mono ?_; rintro e w1 ⟨rfl, hw1⟩; rw [hw1]; clear hw1))
      go_ret
      exact ⟨rfl, rfl⟩
    · by_cases a2 : by' < 1
      · go_enter Tryz.func224, Tryz.ntmps224
        go_wp2_with (first | (go_at_call 65; refine (unhide H).mono ?_; rintro e w1 ⟨rfl, hw1⟩; rw [hw1]; clear hw1))
        go_ret
        exact ⟨rfl, rfl⟩
      · have a3 : 255 < by' := by have := unhide HX; omega
        go_enter Tryz.func224, Tryz.ntmps224
        go_wp2_with (first | (go_at_call 65; refine (unhide H).mono ?_; rintro e w1 ⟨rfl, hw1⟩; rw [hw1]; clear hw1))
        go_ret
        exact ⟨rfl, rfl⟩
set_option maxRecDepth 100000 in
set_option maxHeartbeats 1000000 in
theorem bend_bent (w : World) (n g m cap i : Nat) (at' by' : Int) (S : ByteArray) (hK : w.heap[n]? = some (.cells #[.slice (some ⟨g, 0, none⟩) m cap] 113 (0, 0))) (hi : i < m) (h1 : w.cell? ⟨g, i * 3 + 1, none⟩ = some (.string S)) (h2 : w.cell? ⟨g, i * 3 + 2, none⟩ = some (.bool true)) (a0 : ¬ at' < 0) (a1 : ¬ (S.size : Int) ≤ at') (a2 : ¬ by' < 1) (a3 : ¬ 255 < by') :
    Calls Tryz.prog 224 #[ptr n, .int .i64 (i : Int), .int .i64 at', .int .i64 by'] w fun e w' => e = .returned (.int .i64 18) ∧ w' = w := by
  have H := hide (has_any w n (some ⟨g, 0, none⟩) m cap i hK)
  rw [show decide (0 ≤ (i : Int) ∧ (i : Int) < (m : Int)) = true by simp; omega] at H
  have c1 : w.cell? ⟨n, 0, none⟩ = some (.slice (some ⟨g, 0, none⟩) m cap) := cell_of hK 0 _ rfl
  have q1 : (0 : Int) ≤ (i : Int) := by omega
  have q2 : (i : Int) < (m : Int) := by omega
  clear hK
  go_enter Tryz.func224, Tryz.ntmps224
  go_wp2_with (first | (go_at_call 65; refine (unhide H).mono ?_; rintro e w1 ⟨rfl, hw1⟩; rw [hw1]; clear hw1))
  go_ret
  exact ⟨rfl, rfl⟩
set_option maxRecDepth 100000 in
set_option maxHeartbeats 1000000 in
theorem bend_at (w : World) (n g m cap i k : Nat) (s : List UInt8) (b : UInt8) (Post : World → Prop) (hK : w.heap[n]? = some (.cells #[.slice (some ⟨g, 0, none⟩) m cap] 113 (0, 0))) (hi : i < m) (hg : ∃ cur, w.heap[g]? = some (.cells cur 122 (0, 0))) (h1 : w.cell? ⟨g, i * 3 + 1, none⟩ = some (.string (str s))) (h2 : w.cell? ⟨g, i * 3 + 2, none⟩ = some (.bool false)) (hk : k < s.length) (hb1 : 1 ≤ b.toNat)
    (HP : Hid (∀ w', Below w.heap.size w w' → Post ((w'.setCell ⟨g, i * 3 + 1, none⟩ (.string (str (s.set k (s.getD k 0 ^^^ b))))).setCell ⟨g, i * 3 + 2, none⟩ (.bool true)))) :
    Calls Tryz.prog 224 #[ptr n, .int .i64 (i : Int), .int .i64 (k : Int), .int .i64 (b.toNat : Int)] w fun e w' => e = .returned (.int .i64 0) ∧ Post w' := by
  have H := hide (has_any w n (some ⟨g, 0, none⟩) m cap i hK)
  rw [show decide (0 ≤ (i : Int) ∧ (i : Int) < (m : Int)) = true by simp; omega] at H
  have HT := hide (turned_any w s k b hk)
  have c1 : w.cell? ⟨n, 0, none⟩ = some (.slice (some ⟨g, 0, none⟩) m cap) := cell_of hK 0 _ rfl
  have q1 : (0 : Int) ≤ (i : Int) := by omega
  have q2 : (i : Int) < (m : Int) := by omega
  have hsz := str_size s
  have a0 : ¬ (k : Int) < 0 := by omega
  have a1 : ¬ ((str s).size : Int) ≤ (k : Int) := by rw [hsz]; omega
  have hbt := b.toNat_lt
  have a2 : ¬ (b.toNat : Int) < 1 := by omega
  have a3 : ¬ 255 < (b.toNat : Int) := by omega
  have hwb : IntKind.u8.wrap (b.toNat : Int) = (b.toNat : Int) := by rw [wrap_u8]; omega
  obtain ⟨cur, hg⟩ := hg
  have hlg := (Array.getElem?_eq_some_iff.1 hg).1
  have HG := hide hg
  generalize str (s.set k (s.getD k 0 ^^^ b)) = S2 at *
  generalize str s = S1 at *
  generalize (b.toNat : Int) = B at *
  clear hK hsz hk hb1 hbt hg
  go_enter Tryz.func224, Tryz.ntmps224
  go_wp2_with (first | (go_at_call 65; refine (unhide H).mono ?_; rintro e w1 ⟨rfl, hw1⟩; rw [hw1]; clear hw1))
  refine (unhide HT).mono ?_
  rintro e w2 ⟨rfl, hb⟩
  have hg2 := (hb.block g hlg).trans (unhide HG)
  have d1 : w2.cell? ⟨g, i * 3 + 1, none⟩ = some (.string S1) := (hb.cell (p := ⟨g, i * 3 + 1, none⟩) hlg).trans h1
  have d2 : w2.cell? ⟨g, i * 3 + 2, none⟩ = some (.bool false) := (hb.cell (p := ⟨g, i * 3 + 2, none⟩) hlg).trans h2
  have z1 : w2.frozen? ⟨g, i * 3 + 1, none⟩ = false := open_list hg2
  have z2 : w2.frozen? ⟨g, i * 3 + 2, none⟩ = false := open_list hg2
  have hl2 := lt_of_block hg2
  have HQ := hide ((unhide HP) w2 hb)
  clear hb hg2
  go_wp2
  go_ret
  exact ⟨rfl, unhide HQ⟩

theorem take_set (l : List Value) (n i : Nat) (v : Value) : (l.set i v).take n = (l.take n).set i v := by
  apply List.ext_getElem?
  intro j
  simp only [List.getElem?_take, List.getElem?_set, List.length_take]
  by_cases hj : j < n
  · by_cases e : i = j
    · subst e
      have : i < min n l.length ↔ i < l.length := by omega
      simp [hj, this]
    · simp [hj, e]
  · by_cases e : i = j
    · subst e
      simp [hj]
      omega
    · simp [hj, e]
theorem fl_set2 {fl : List R.Fl} {i : Nat} {f : R.Fl} (hf : fl[i]? = some f) (s' : List UInt8) : ((tab fcells fl).set (i * 3 + 1) (.string (str s'))).set (i * 3 + 2) (.bool true) = tab fcells (fl.set i ⟨f.to, s', true⟩) := by
  have hl := (List.getElem?_eq_some_iff.1 hf).1
  rw [tab_set fcells_len fl i 1 f ⟨f.to, s', f.bent⟩ _ hf (by omega) rfl]
  rw [tab_set fcells_len (fl.set i ⟨f.to, s', f.bent⟩) i 2 ⟨f.to, s', f.bent⟩ ⟨f.to, s', true⟩ _ (by simp [hl]) (by omega) rfl]
  rw [List.set_set]
theorem LW.bend {p : Pl} {F : Foot} {G : R.Wd} {w : World} (h : LW p F G w) (i at' by' : Int) : Calls Tryz.prog 178 #[ptr p.x, .int .i64 i, .int .i64 at', .int .i64 by'] w fun e w' => e = .returned (.int .i64 (R.bendP G i at' by').1) ∧ ∃ F', LW p F' (R.bendP G i at' by').2 w' ∧ Went F F' w w' := by
  have c0 : w.cell? ⟨p.x, 0, none⟩ = some (ptr p.n) := cell_of h.bx 0 _ rfl
  obtain ⟨K, hK, hrow, hF⟩ := h.bn
  have H : Calls Tryz.prog 224 #[ptr p.n, .int .i64 i, .int .i64 at', .int .i64 by'] w fun e w' => e = .returned (.int .i64 (R.bendP G i at' by').1) ∧ ∃ F', LW p F' (R.bendP G i at' by').2 w' ∧ Went F F' w w' := by
    unfold R.bendP
    by_cases hi : R.off G i
    · rw [if_pos hi]
      obtain ⟨a, c, rfl⟩ := slice_of hrow
      refine (bend_off w p.n a G.flying.length c i at' by' hK hi).mono ?_
      rintro e w' ⟨rfl, rfl⟩
      exact ⟨rfl, F, h, Went.refl F w'⟩
    · rw [if_neg hi]
      obtain ⟨k, f, rfl, hf⟩ := R.on_at hi
      have hk := (List.getElem?_eq_some_iff.1 hf).1
      rw [Int.toNat_natCast, hf]
      rcases id hrow.2 with ⟨_, h0⟩ | ⟨g, cap, cur, rfl, _, hg, hcap, hmax, hsz, htk⟩
      · omega
      have q : ∀ j, j < 3 → cur[k * 3 + j]? = (fcells f)[j]? := fun j hj => by
        rw [← tab_get fcells_len G.flying k j f hf hj, ← htk, List.getElem?_take, if_pos (by omega)]
        simp
      have v1 : w.cell? ⟨g, k * 3 + 1, none⟩ = some (.string (str f.s)) := by
        have := q 1 (by omega)
        simp [World.cell?, hg]
        simpa [fcells] using this
      have v2 : w.cell? ⟨g, k * 3 + 2, none⟩ = some (.bool f.bent) := by
        have := q 2 (by omega)
        simp [World.cell?, hg]
        simpa [fcells] using this
      simp only
      by_cases ha : at' < 0 ∨ (f.s.length : Int) ≤ at' ∨ by' < 1 ∨ 255 < by'
      · rw [if_pos ha]
        refine (bend_arg w p.n g G.flying.length cap k at' by' (str f.s) hK hk v1 (by rw [str_size]; exact ha)).mono ?_
        rintro e w' ⟨rfl, rfl⟩
        exact ⟨rfl, F, h, Went.refl F w'⟩
      · rw [if_neg ha]
        by_cases hbt : f.bent = true
        · rw [if_pos hbt]
          rw [hbt] at v2
          refine (bend_bent w p.n g G.flying.length cap k at' by' (str f.s) hK hk v1 v2 (by omega) (by rw [str_size]; omega) (by omega) (by omega)).mono ?_
          rintro e w' ⟨rfl, rfl⟩
          exact ⟨rfl, F, h, Went.refl F w'⟩
        · rw [if_neg hbt]
          have hbf : f.bent = false := by simpa using hbt
          rw [hbf] at v2
          obtain ⟨a, rfl⟩ : ∃ a : Nat, at' = (a : Int) := ⟨at'.toNat, by omega⟩
          obtain ⟨b, rfl⟩ : ∃ b : UInt8, by' = (b.toNat : Int) := ⟨b8 by', (b8_val (by omega) (by omega)).symm⟩
          rw [Int.toNat_natCast, b8_nat]
          have hng : p.n ≠ g := ne_tag hK hg (by decide)
          refine (bend_at w p.n g G.flying.length cap k a f.s b (fun w' => ∃ F', LW p F' { G with flying := G.flying.set k ⟨f.to, f.s.set a (f.s.getD a 0 ^^^ b), true⟩ } w' ∧ Went F F' w w') hK hk ⟨cur, hg⟩ v1 v2 (by omega) (by omega) ?_)
          intro w' hb
          have hg' := (hb.block g (Array.getElem?_eq_some_iff.1 hg).1).trans hg
          have hK' := (hb.block p.n (Array.getElem?_eq_some_iff.1 hK).1).trans hK
          have hst := heap_store (cs := cur.toList) (off := k * 3 + 1) hg' (.string (str (f.s.set a (f.s.getD a 0 ^^^ b))))
          have hst2 := heap_store (off := k * 3 + 2) hst (.bool true)
          have hlen : (G.flying.set k ⟨f.to, f.s.set a (f.s.getD a 0 ^^^ b), true⟩).length = G.flying.length := by simp
          have hn : NetPost w p.n (.slice (some ⟨g, 0, none⟩) G.flying.length cap) (G.flying.set k ⟨f.to, f.s.set a (f.s.getD a 0 ^^^ b), true⟩) ((w'.setCell ⟨g, k * 3 + 1, none⟩ (.string (str (f.s.set a (f.s.getD a 0 ^^^ b))))).setCell ⟨g, k * 3 + 2, none⟩ (.bool true)) := by
            refine ⟨⟨.slice (some ⟨g, 0, none⟩) G.flying.length cap, ?_, ?_, Or.inl rfl⟩, ?_⟩
            · rw [Below.heap_setCell _ _ _ _ (fun e => hng e), Below.heap_setCell _ _ _ _ (fun e => hng e)]
              exact hK'
            · refine ⟨by rw [tab_length fcells_len, Nat.mul_comm], Or.inr ⟨g, cap, _, by rw [hlen], Nat.zero_le _, hst2, by rw [hlen]; exact hcap, hmax, by simpa using hsz, ?_⟩⟩
              rw [hlen]
              rw [take_set, take_set, htk, fl_set2 hf]
            · have hk0 : Keeps (fun q => q = p.n ∨ (Value.slice (some ⟨g, 0, none⟩) G.flying.length cap).ownBlock = some q) w w' := Keeps.ofBelow hb _
              exact (hk0.setCell (p := ⟨g, k * 3 + 1, none⟩) (Or.inl (Or.inr rfl)) _).setCell (p := ⟨g, k * 3 + 2, none⟩) (Or.inl (Or.inr rfl)) _
          refine h.net hK hrow hn hF (R.Wf.flyTurn h.wf (by rw [hlen]; exact h.wf.fly) (fun q hq => ?_))
          rcases List.mem_or_eq_of_mem_set hq with r | r
          · exact h.wf.flys q r
          · rw [r]
            simpa using h.wf.flys f (List.mem_of_getElem? hf)
  have HH := hide H
  clear H h hK hrow hF
  generalize R.bendP G i at' by' = r at *
  go_enter Tryz.func178, Tryz.ntmps178
  go_wp2_with (first | (go_at_call 224; refine (unhide HH).mono ?_; rintro e w1 ⟨rfl, hw1⟩))
  go_returns
  exact ⟨rfl, hw1⟩
end Go.Proofs.YtblomippkddgiaaGreatDoor
/-
  The landed server is turned, all else of a world stays.
-/
namespace Go.Proofs.YtblomippkddgiaaGreatDoor
open Go.RowKit

def cliTag (t : TypeId) : Bool := t == 84 || t == 89 || t == 113 || t == 122 || t == 134 || t == 139 || t == 106
def SrvOnly (w : World) (E : Foot) : Prop := ∀ b, E b → (∃ cur t z, w.heap[b]? = some (.cells cur t z) ∧ cliTag t = false) ∨ ∃ cap buf cl a r tm, w.heap[b]? = some (.chan cap buf cl a r tm)
theorem SrvOnly.cells {w : World} {E : Foot} (h : SrvOnly w E) {b : Nat} {cur : Array Value} {t : TypeId} {z : Nat × Nat} (hb : w.heap[b]? = some (.cells cur t z)) (ht : cliTag t = true) : ¬ E b := fun hE => by
  rcases h b hE with ⟨cur', t', z', h1, h2⟩ | ⟨cap, buf, cl, a, r, tm, h1⟩
  · rw [hb] at h1
    cases h1
    rw [ht] at h2
    cases h2
  · rw [hb] at h1
    cases h1
theorem SrvOnly.map {w : World} {E : Foot} (h : SrvOnly w E) {b : Nat} {es : Array MapEntry} {cl : Nat} (hb : w.heap[b]? = some (.map es cl)) : ¬ E b := fun hE => by
  rcases h b hE with ⟨cur', t', z', h1, h2⟩ | ⟨cap, buf, cl, a, r, tm, h1⟩
  · rw [hb] at h1
    cases h1
  · rw [hb] at h1
    cases h1
theorem SrvOnly.one {w : World} {b : Nat} {cur : Array Value} {t : TypeId} {z : Nat × Nat} (h : w.heap[b]? = some (.cells cur t z)) (ht : cliTag t = false) : SrvOnly w (fun k => k = b) := fun k hk => Or.inl ⟨cur, t, z, by subst hk; exact h, ht⟩
theorem SrvOnly.or {w : World} {E E' : Foot} (h : SrvOnly w E) (h' : SrvOnly w E') : SrvOnly w (fun k => E k ∨ E' k) := fun k hk => by
  rcases hk with hk | hk
  · exact h k hk
  · exact h' k hk
theorem SrvOnly.row {w : World} {B n size : Nat} {e : TypeId} {v : Value} {xs : List Value} (hr : w.ownsRow B e size v n xs) (he : cliTag e = false) : SrvOnly w (fun k => v.ownBlock = some k) := fun k hk => by
  rcases hr.2 with ⟨rfl, _⟩ | ⟨g, cap, cur, rfl, _, hg, _⟩
  · cases hk
  · cases hk
    exact Or.inl ⟨_, _, _, hg, he⟩
abbrev atServer (G : R.Wd) (sv : List R.Sv) (lives : List Int) (seen : List R.Sn) (jobs : List R.Jb) : R.Wd := { G with services := sv, lives := lives, seen := seen, jobs := jobs }
theorem LW.srvTurn {p : Pl} {F F' E : Foot} {G : R.Wd} {w w' : World} (h : LW p F G w) {t : SP} {sv : List R.Sv} {lives : List Int} {seen : List R.Sn} {jobs : List R.Jb} (hs : SrvAt p.s p.n p.nm t F' G.c sv lives seen jobs w') (hk : Keeps E w w') (hE : SrvOnly w E) (hF : ∀ k, F k → F' k) (hlt : ∀ k, F' k → k < w'.heap.size) (hwf : R.Wf (atServer G sv lives seen jobs)) (hws : R.WsOk G.c lives seen jobs) (hbd : ∀ (i : Nat) (c : R.Cl), G.clients[i]? = some c → ∀ u, boundOf (atServer G sv lives seen jobs) c u = boundOf G c u) : LW { p with t := t } F' (atServer G sv lives seen jobs) w' := by
  obtain ⟨hx, hn, hcs, hnm⟩ := h.foot
  have map' : ∀ {α : Type} {k : TypeId} {b : Nat} {lit : α → Lit} {g : α → Option Int} {n : Nat}, Mp w k b lit g n → Mp w' k b lit g n := fun hm => by
    obtain ⟨es, q, hq⟩ := hm.block
    exact hm.keep hk (hE.map hq)
  refine ⟨hwf, hws, hk.at h.bx (hE.cells h.bx rfl), ?_, ?_, hs, map' h.names, fun i c hc => hk.at (h.cl i c hc) (hE.cells (h.cl i c hc) rfl), fun i c hc => ?_, fun i c hc => (map' (h.bound i c hc)).congr (hbd i c hc), ⟨hF _ hx, hF _ hn, hF _ hcs, hF _ hnm⟩, fun i hi => ?_, h.inj, hlt⟩
  · obtain ⟨cur, h1, h2⟩ := h.bcs
    exact ⟨cur, hk.at h1 (hE.cells h1 rfl), h2⟩
  · obtain ⟨K, h1, h2, h3⟩ := h.bn
    refine ⟨K, hk.at h1 (hE.cells h1 rfl), hk.row h2 (fun j hj => ?_), fun j hj => hF _ (h3 j hj)⟩
    rcases h2.2 with ⟨rfl, _⟩ | ⟨g, cap, cur, rfl, _, hg, _⟩
    · cases hj
    · cases hj
      exact hE.cells hg rfl
  · obtain ⟨xs, h1, h2, h3⟩ := h.ln i c hc
    exact ⟨xs, hk.at h1 (hE.cells h1 rfl), h2, fun k l x hl hx => (h3 k l x hl hx).keep hk (fun b cur _ hb => hE.cells hb rfl) hF⟩
  · obtain ⟨a1, a2, a3, a4⟩ := h.feet i hi
    exact ⟨hF _ a1, hF _ a2, hF _ a3, a4⟩

/- a service's cells -/
theorem SrvAt.madeAt {s n nm : Nat} {t : SP} {F : Foot} {c : R.Cf} {sv : List R.Sv} {lives : List Int} {seen : List R.Sn} {jobs : List R.Jb} {w : World} (h : SrvAt s n nm t F c sv lives seen jobs w) {u : Nat} {z : R.Sv × MV} (hz : t.zs[u]? = some z) : ∃ g cap cur, t.K = .slice (some ⟨g, 0, none⟩) t.zs.length cap ∧ w.heap[g]? = some (.cells cur 213 (0, 0)) ∧ F g ∧ w.cell? ⟨g, u * 3, none⟩ = some (.int .i64 z.1.kind) ∧ w.cell? ⟨g, u * 3 + 1, none⟩ = some z.2.wk ∧ w.cell? ⟨g, u * 3 + 2, none⟩ = some z.2.dn ∧ t.zs.length ≤ cap ∧ cap ≤ maxLen ∧ cur.size = cap * 3 ∧ cur.toList.take (t.zs.length * 3) = tab mcells t.zs := by
  have hu := (List.getElem?_eq_some_iff.1 hz).1
  rcases id h.made.2 with ⟨_, h0⟩ | ⟨g, cap, cur, hK, _, hg, hcap, hmax, hsz, htk⟩
  · omega
  have q : ∀ j v, j < 3 → (mcells z)[j]? = some v → w.cell? ⟨g, u * 3 + j, none⟩ = some v := fun j v hj hv => by
    have := tab_get mcells_len t.zs u j z hz hj
    rw [hv, ← htk, List.getElem?_take, if_pos (by omega)] at this
    simp [World.cell?, hg]
    simpa using this
  refine ⟨g, cap, cur, hK, hg, h.foot.2.2 g (by rw [hK]; rfl), ?_, q 1 _ (by omega) rfl, q 2 _ (by omega) rfl, hcap, hmax, hsz, htk⟩
  exact q 0 _ (by omega) rfl
theorem zs_get {t : SP} {sv : List R.Sv} (h : t.zs.map (·.1) = sv) {u : Nat} {s : R.Sv} (hs : sv[u]? = some s) : ∃ z, t.zs[u]? = some z ∧ z.1 = s := by
  rw [← h, List.getElem?_map] at hs
  cases hz : t.zs[u]? with
  | none => rw [hz] at hs; cases hs
  | some z => rw [hz] at hs; exact ⟨z, rfl, Option.some.inj hs⟩
theorem map_set {α β : Type} (f : α → β) (l : List α) (i : Nat) (x : α) : (l.set i x).map f = (l.map f).set i (f x) := by
  apply List.ext_getElem?
  intro j
  simp only [List.getElem?_map, List.getElem?_set, List.length_map]
  split
  · split <;> rfl
  · rfl
end Go.Proofs.YtblomippkddgiaaGreatDoor
