/-
  Joined: SEnd SBegin.
-/
import Derived.Test.YtblomippkddgiaaGreatDoorJ38
/-
  A service of the landed server ends.
-/
namespace Go.Proofs.YtblomippkddgiaaGreatDoor
open Go.RowKit

theorem set_get {α : Type} {l : List α} {u i : Nat} {x y : α} (h : (l.set u x)[i]? = some y) : (i = u ∧ y = x) ∨ (i ≠ u ∧ l[i]? = some y) := by
  rw [List.getElem?_set] at h
  by_cases e : u = i
  · rw [if_pos e] at h
    split at h
    · exact Or.inl ⟨e.symm, (Option.some.inj h).symm⟩
    · cases h
  · rw [if_neg e] at h
    exact Or.inr ⟨fun q => e q.symm, h⟩
theorem take_set2 (l : List Value) (n i : Nat) (v : Value) : (l.set i v).take n = (l.take n).set i v := by
  apply List.ext_getElem?
  intro j
  simp only [List.getElem?_take, List.getElem?_set, List.length_take]
  by_cases hj : j < n
  · by_cases e : i = j
    · subst e
      have : i < min n l.length ↔ i < l.length := by omega
      simp [hj, this]
    · simp [hj, e]
  · by_cases e : i = j
    · subst e
      simp [hj]
      omega
    · simp [hj, e]
def deadZ (z : R.Sv × MV) : R.Sv × MV := ({ z.1 with alive := false }, { z.2 with wk := .nilIface })
theorem SrvAt.dead {s n nm : Nat} {t : SP} {F : Foot} {c : R.Cf} {sv : List R.Sv} {lives : List Int} {seen : List R.Sn} {jobs : List R.Jb} {w : World} (h : SrvAt s n nm t F c sv lives seen jobs w) {u g cap : Nat} {z : R.Sv × MV} {cur : Array Value} (hz : t.zs[u]? = some z) (hK : t.K = .slice (some ⟨g, 0, none⟩) t.zs.length cap) (hg : w.heap[g]? = some (.cells cur 213 (0, 0))) (hcap : t.zs.length ≤ cap) (hmax : cap ≤ maxLen) (hsz : cur.size = cap * 3) (htk : cur.toList.take (t.zs.length * 3) = tab mcells t.zs) : SrvAt s n nm { t with zs := t.zs.set u (deadZ z) } F c (sv.set u { z.1 with alive := false }) lives seen jobs (w.setCell ⟨g, u * 3 + 1, none⟩ .nilIface) := by
  obtain ⟨f1, f2, f3⟩ := h.foot
  have hk : Keeps (fun k => k = g) w (w.setCell ⟨g, u * 3 + 1, none⟩ .nilIface) := keeps_one _
  have hav : AvT w F (fun k => k = g) := AvT.one hg (by decide)
  refine ⟨hk.at h.bs (ne_tag h.bs hg (by decide)), ?_, ?_, fun y hy => ?_, fun i j a b ha hb hij k hk1 => ?_, fun i j a b ha hb hij ha1 hb1 => ?_, fun i r hr hne => ?_, h.inj, ?_, f1, f2, f3⟩
  · simp only [map_set]
    rw [h.zs]
    rfl
  · simp only
    rw [List.length_set]
    refine ⟨by rw [tab_length mcells_len, List.length_set, Nat.mul_comm], Or.inr ⟨g, cap, _, hK, Nat.zero_le _, heap_store (cs := cur.toList) (off := u * 3 + 1) hg .nilIface, hcap, hmax, by simpa using hsz, ?_⟩⟩
    rw [take_set2, htk]
    exact tab_set mcells_len t.zs u 1 z (deadZ z) _ hz (by omega) rfl
  · rcases List.mem_or_eq_of_mem_set hy with q | q
    · exact (h.each y q).keep hk hav (fun _ r => r)
    · have h0 := (h.each z (List.mem_of_getElem? hz)).keep hk hav (fun _ r => r)
      rw [q]
      exact ⟨by simp [deadZ], h0.log, h0.own⟩
  · have get : ∀ {i : Nat} {a : R.Sv × MV}, (t.zs.set u (deadZ z))[i]? = some a → ∃ a0, t.zs[i]? = some a0 ∧ a.2.dn = a0.2.dn := fun ha => by
      rcases set_get ha with ⟨rfl, rfl⟩ | ⟨_, q⟩
      · exact ⟨z, hz, rfl⟩
      · exact ⟨_, q, rfl⟩
    obtain ⟨a0, p1, p2⟩ := get ha
    obtain ⟨b0, p3, p4⟩ := get hb
    rw [p2] at hk1
    rw [p4]
    exact h.dns i j a0 b0 p1 p3 hij k hk1
  · have get : ∀ {i : Nat} {a : R.Sv × MV}, (t.zs.set u (deadZ z))[i]? = some a → a.1.alive = true → t.zs[i]? = some a := fun ha hl => by
      rcases set_get ha with ⟨rfl, rfl⟩ | ⟨_, q⟩
      · cases hl
      · exact q
    exact h.wks i j a b (get ha ha1) (get hb hb1) hij ha1 hb1
  · obtain ⟨y, h1, h2, h3⟩ := h.ln i r hr hne
    exact ⟨y, hk.at h1 (ne_tag h1 hg (by decide)), h2, h3⟩
  · obtain ⟨a, b, hj⟩ := h.jobs
    refine ⟨a, b, hk.at hj (fun e => ?_)⟩
    rw [e, hg] at hj
    cases hj

set_option maxRecDepth 100000 in
theorem serv_any (w : World) (s g u m cap : Nat) (h6 : w.cell? ⟨s, 6, none⟩ = some (.slice (some ⟨g, 0, none⟩) m cap)) (hu : u < m) (hm : m ≤ 255) :
    Calls Tryz.prog 132 #[ptr s, .int .i64 ((u : Int) + 1)] w fun e w' => e = .returned (.pointer (some ⟨g, u * 3, none⟩)) ∧ w' = w := by
  have e1 : IntKind.i64.wrap ((u : Int) + 1 - 1) = (u : Int) := by rw [IntKind.wrap_i64]; omega
  have q1 : (0 : Int) ≤ (u : Int) := by omega
  have q2 : (u : Int) < (m : Int) := by omega
  go_enter Tryz.func132, Tryz.ntmps132
  go_wp2
  go_ret
  exact ⟨rfl, rfl⟩

def voidY (y : SLn) : SLn := { y with state := 3, asked := [], answer := [], at' := 0, wait := 0, tries := 0 }
set_option maxRecDepth 100000 in
theorem void_any (w : World) (b : Nat) (y : SLn) (h : w.heap[b]? = some (.cells y.cells.toArray 147 (0, 0))) :
    Calls Tryz.prog 227 #[ptr b] w fun e w' => e = .returned (.tuple #[]) ∧ w'.heap[b]? = some (.cells (voidY y).cells.toArray 147 (0, 0)) ∧ Keeps (fun k => k = b) w w' := by
  obtain ⟨a0, a1, a2, a3, a4, a5, a6, a7, a8, a9, a10⟩ := yAt h
  have z : ∀ j, w.frozen? ⟨b, j, none⟩ = false := fun j => open_list h
  have hl := lt_of_block h
  have HE : Hid (∀ W, W = ((((((((((w.setCell ⟨b, 0, none⟩ (.int .i64 y.client)).setCell ⟨b, 1, none⟩ (.int .i64 y.life)).setCell ⟨b, 2, none⟩ (.int .i64 y.line)).setCell ⟨b, 3, none⟩ (.int .i64 y.seq)).setCell ⟨b, 4, none⟩ (.int .i64 y.uid)).setCell ⟨b, 5, none⟩ (.int .i64 3)).setCell ⟨b, 6, none⟩ (.string ⟨#[]⟩)).setCell ⟨b, 7, none⟩ (.string ⟨#[]⟩)).setCell ⟨b, 8, none⟩ (.int .i64 0)).setCell ⟨b, 9, none⟩ (.int .i64 0)).setCell ⟨b, 10, none⟩ (.int .i64 0) → W.heap[b]? = some (.cells (voidY y).cells.toArray 147 (0, 0)) ∧ Keeps (fun k => k = b) w W) := fun W hW => by
    subst hW
    refine ⟨?_, ((((((((((keeps_one _).trans (keeps_one _)).trans (keeps_one _)).trans (keeps_one _)).trans (keeps_one _)).trans (keeps_one _)).trans (keeps_one _)).trans (keeps_one _)).trans (keeps_one _)).trans (keeps_one _)).trans (keeps_one _)⟩
    have e0 := heap_store (off := 0) h (.int .i64 y.client)
    have e1 := heap_store (off := 1) e0 (.int .i64 y.life)
    have e2 := heap_store (off := 2) e1 (.int .i64 y.line)
    have e3 := heap_store (off := 3) e2 (.int .i64 y.seq)
    have e4 := heap_store (off := 4) e3 (.int .i64 y.uid)
    have e5 := heap_store (off := 5) e4 (.int .i64 3)
    have e6 := heap_store (off := 6) e5 (.string ⟨#[]⟩)
    have e7 := heap_store (off := 7) e6 (.string ⟨#[]⟩)
    have e8 := heap_store (off := 8) e7 (.int .i64 0)
    have e9 := heap_store (off := 9) e8 (.int .i64 0)
    exact heap_store (off := 10) e9 (.int .i64 0)
  clear h
  go_enter Tryz.func227, Tryz.ntmps227
  go_wp2
  go_returns
  exact ⟨rfl, (unhide HE) _ rfl⟩

set_option maxRecDepth 100000 in
set_option maxHeartbeats 2000000 in
theorem end_walk (w : World) (s g u m cap n : Nat) (bs : Nat → Nat) (wk : Value) (J : Value → Nat → World → Prop) (hn : n ≤ 9) (hm : m ≤ 255) (hu : u < m) (h6 : w.cell? ⟨s, 6, none⟩ = some (.slice (some ⟨g, 0, none⟩) m cap)) (hg1 : w.cell? ⟨g, u * 3 + 1, none⟩ = some wk) (hz : w.frozen? ⟨g, u * 3 + 1, none⟩ = false)
    (H71 : Hid (Calls Tryz.prog 71 #[ptr s] (w.setCell ⟨g, u * 3 + 1, none⟩ .nilIface) fun e w' => ∃ O, e = .returned O ∧ J O 0 w'))
    (HS : Hid (∀ O k wr, J O k wr → ∃ a c, O = .slice a n c))
    (HR : Hid (∀ O k wr, k < n → J O k wr → ∃ g c, O = .slice (some ⟨g, 0, none⟩) n c ∧ wr.cell? ⟨g, k, none⟩ = some (ptr (bs k)) ∧ ∃ x st, wr.cell? ⟨bs k, 4, none⟩ = some (.int .i64 x) ∧ wr.cell? ⟨bs k, 5, none⟩ = some (.int .i64 st) ∧ (x = (u : Int) + 1 ∧ ¬ st = 2 → Calls Tryz.prog 227 #[ptr (bs k)] wr fun e w' => e = .returned (.tuple #[]) ∧ J O (k + 1) w') ∧ (¬ (x = (u : Int) + 1 ∧ ¬ st = 2) → J O (k + 1) wr))) :
    Calls Tryz.prog 182 #[ptr s, .int .i64 ((u : Int) + 1)] w fun e w' => e = .returned (.tuple #[]) ∧ ∃ O, J O n w' := by
  have HV := hide (serv_any w s g u m cap h6 hu hm)
  have hlg := lt_of_cell hg1
  go_enter Tryz.func182, Tryz.ntmps182
  go_wp2_with (first | (go_at_call 132; refine (unhide HV).mono ?_; rintro e w1 ⟨rfl, hw1⟩; rw [hw1]; clear hw1))
  refine (unhide H71).mono ?_
  rintro e w1 ⟨O, rfl, hJ⟩
  obtain ⟨a, c, hO⟩ := (unhide HS) O 0 w1 hJ
  subst hO
  have H0 := hide hJ
  clear hJ hg1 hz h6
  go_wp2
  go_loopw [14] (fun iv wr => ∃ k : Nat, k ≤ n ∧ iv = .int .i64 k ∧ J (.slice a n c) k wr) (fun iv _ => n - (intOf iv).toNat)
  case atStart => exact ⟨0, Nat.zero_le _, rfl, unhide H0⟩
  case round =>
    obtain ⟨k, hk, rfl, hJ⟩ := hrel
    by_cases hlt : k < n
    · obtain ⟨g', c', hO, hcell, x, st, hx, hst, hyes, hno⟩ := (unhide HR) _ k wr hlt hJ
      cases hO
      have HY := hide hyes
      have HN := hide hno
      clear hyes hno hJ
      by_cases h1 : x = (u : Int) + 1
      · have e1 : (x == (u : Int) + 1) = true := by simpa using h1
        by_cases h2 : st = 2
        · have e2 : (st != 2) = false := by simpa using h2
          have HI := hide ((unhide HN) (by omega))
          clear h1 h2
          go_wp2
          go_roundw
          case rel => exact ⟨k + 1, by omega, by go_num, unhide HI⟩
          case measure => simp [intOf]; omega
        · have e2 : (st != 2) = true := by simpa using h2
          have HC := hide ((unhide HY) ⟨h1, h2⟩)
          clear h1 h2
          go_wp2_with (first | (go_at_call 227; refine (unhide HC).mono ?_; rintro e w3 ⟨rfl, hw3⟩))
          go_roundw
          case rel => exact ⟨k + 1, by omega, by go_num, hw3⟩
          case measure => simp [intOf]; omega
      · have e1 : (x == (u : Int) + 1) = false := by simpa using h1
        have HI := hide ((unhide HN) (by omega))
        clear h1
        go_wp2
        go_roundw
        case rel => exact ⟨k + 1, by omega, by go_num, unhide HI⟩
        case measure => simp [intOf]; omega
    · obtain rfl : k = n := by omega
      have HI := hide hJ
      clear hJ
      go_wp2
      go_returns
      exact ⟨rfl, _, unhide HI⟩
end Go.Proofs.YtblomippkddgiaaGreatDoor
/-
  A service of the landed server begins.
-/
namespace Go.Proofs.YtblomippkddgiaaGreatDoor
open Go.RowKit

theorem info213 : (Tryz.prog.info? 213).map (fun i => (i.zero, i.size, i.bytes)) = some (some (.agg #[.int .i64 0, .nilIface, .slice none 0 0]), 3, 48) := by kernel_rfl
/- what works, anew -/
def freshT (kind : Int) : TypeId := if kind = 0 then 328 else if kind = 1 then 331 else 334
set_option maxRecDepth 100000 in
theorem fresh_any (w : World) (kind : Int) (hk : 0 ≤ kind ∧ kind ≤ 2) : Calls Tryz.prog 228 #[.int .i64 kind] w fun e w' => e = .returned (.iface (freshT kind) (ptr w.heap.size)) ∧ Works w' (fun k => k = w.heap.size) [] w.heap.size (.slice none 0 0) kind (.iface (freshT kind) (ptr w.heap.size)) ∧ Below w.heap.size w w' ∧ w.heap.size < w'.heap.size := by
  have hc : kind = 0 ∨ kind = 1 ∨ kind = 2 := by omega
  rcases hc with rfl | rfl | rfl
  · have H : Hid (∀ W, W = w.alloc (.cells #[.int .u16 0] 330) → Works W (fun k => k = w.heap.size) [] w.heap.size (.slice none 0 0) 0 (.iface (freshT 0) (ptr w.heap.size)) ∧ Below w.heap.size w W ∧ w.heap.size < W.heap.size) := fun W hW => by
      subst hW
      exact ⟨.counter rfl (heap_alloc_new w _) rfl, (Below.refl _ _).alloc (Nat.le_refl _) _, by simp⟩
    go_enter Tryz.func228, Tryz.ntmps228
    go_wp2
    go_returns
    exact ⟨rfl, (unhide H) _ rfl⟩
  · have H : Hid (∀ W, W = w.alloc (.cells #[.slice none 0 0] 333) → Works W (fun k => k = w.heap.size) [] w.heap.size (.slice none 0 0) 1 (.iface (freshT 1) (ptr w.heap.size)) ∧ Below w.heap.size w W ∧ w.heap.size < W.heap.size) := fun W hW => by
      subst hW
      refine ⟨.board rfl (heap_alloc_new w _) ⟨rfl, Or.inl ⟨rfl, rfl⟩⟩ (fun j hj => by cases hj), (Below.refl _ _).alloc (Nat.le_refl _) _, by simp⟩
    go_enter Tryz.func228, Tryz.ntmps228
    go_wp2
    go_returns
    exact ⟨rfl, (unhide H) _ rfl⟩
  · have H : Hid (∀ W, W = w.alloc (.cells #[.slice none 0 0, .slice none 0 0, .slice none 0 0] 337) → Works W (fun k => k = w.heap.size) [] w.heap.size (.slice none 0 0) 2 (.iface (freshT 2) (ptr w.heap.size)) ∧ Below w.heap.size w W ∧ w.heap.size < W.heap.size) := fun W hW => by
      subst hW
      exact ⟨.desk _ _ _ rfl (heap_alloc_new w _) rfl (Or.inl ⟨rfl, none, rfl⟩) (Or.inl ⟨rfl, none, rfl⟩) (Or.inl ⟨rfl, none, rfl⟩), (Below.refl _ _).alloc (Nat.le_refl _) _, by simp⟩
    go_enter Tryz.func228, Tryz.ntmps228
    go_wp2
    go_returns
    exact ⟨rfl, (unhide H) _ rfl⟩

structure Began (w : World) (s : Nat) (cs : List Value) (K : Value) (m : Nat) (TF : List Value) (kind : Int) (K' : Value) (w' : World) : Prop where
  cell : w'.heap[s]? = some (.cells (cs.set 6 K').toArray 167 (0, 0))
  row : w'.ownsRow 0 213 3 K' (m + 1) (TF ++ [.int .i64 kind, .iface (freshT kind) (ptr w.heap.size), .slice none 0 0])
  wk : Works w' (fun k => k = w.heap.size) [] w.heap.size (.slice none 0 0) kind (.iface (freshT kind) (ptr w.heap.size))
  at' : K'.ownBlock = K.ownBlock ∨ ∃ j, K'.ownBlock = some j ∧ w.heap.size < j
  keeps : Keeps (fun k => k = s ∨ K.ownBlock = some k) w w'
theorem began_put {w W V wz : World} {s m : Nat} {cs TF : List Value} {K K' : Value} {kind : Int} {j0 : Nat} (h : w.heap[s]? = some (.cells cs.toArray 167 (0, 0))) (hrow : w.ownsRow 0 213 3 K m TF) (hb : Below w.heap.size w W) (hwk : Works W (fun k => k = w.heap.size) [] w.heap.size (.slice none 0 0) kind (.iface (freshT kind) (ptr w.heap.size))) (hsz : w.heap.size < W.heap.size) (hV : Below W.heap.size W V)
    (hg : V.grownBy wz K.ownBlock) (hown : wz.ownsRow 0 213 3 K' (m + 1) (TF ++ [.int .i64 kind, .iface (freshT kind) (ptr w.heap.size), .slice none 0 0])) (hat : K'.ownBlock = K.ownBlock ∨ K'.ownBlock = some j0) (hj : W.heap.size ≤ j0) : wz.heap[s]? = some (.cells cs.toArray 167 (0, 0)) ∧ Began w s cs K m TF kind K' (wz.setCell ⟨s, 6, none⟩ K') := by
  have hnK : K.ownBlock ≠ some s := row_tag hrow h (by decide)
  have hln := (Array.getElem?_eq_some_iff.1 h).1
  have hlV : s < V.heap.size := Nat.lt_of_lt_of_le (by omega) hV.size
  have hzn : wz.heap[s]? = some (.cells cs.toArray 167 (0, 0)) := by
    rw [hg.block s hlV (fun e => hnK e.symm), hV.block s (by omega), hb.block s hln]
    exact h
  have hnK' : K'.ownBlock ≠ some s := by
    rcases hat with e | e
    · rw [e]; exact hnK
    · rw [e]
      intro q
      cases q
      omega
  have hk0 : Keeps (fun k => k = s ∨ K.ownBlock = some k) W V := Keeps.ofBelow hV _
  have hk1 : Keeps (fun k => k = s ∨ K.ownBlock = some k) W (wz.setCell ⟨s, 6, none⟩ K') := (hk0.grown hg (fun k hk => Or.inl (Or.inr hk))).setCell (p := ⟨s, 6, none⟩) (Or.inl (Or.inl rfl)) _
  refine ⟨hzn, ⟨heap_store (cs := cs) (off := 6) hzn K', row_keep hown (fun g hg => Below.heap_setCell _ _ _ _ (fun e => hnK' (by rw [hg]; exact congrArg some e))), ?_, ?_, (Keeps.ofBelow hb _).trans hk1⟩⟩
  · refine hwk.keep hk1 (fun b cur t z hb' ht hbl hE => ?_) (fun _ q => q)
    subst hb'
    rcases hE with e | e
    · omega
    · have := (World.ownsRow.lt hrow _ e).2
      omega
  · rcases hat with e | e
    · exact Or.inl e
    · exact Or.inr ⟨j0, e, by omega⟩
theorem one_made (w : World) (kind : Int) (T : TypeId) (b : Nat) (j : Nat) (u : Value) (h : ([.int .i64 kind, .iface T (ptr b), .slice none 0 0] : List Value)[j]? = some u) : (w.alloc (.cells #[.int .i64 kind, .iface T (ptr b), .slice none 0 0] 213)).cell? ((⟨w.heap.size, 0, none⟩ : Addr).add j) = some u := by
  rw [Addr.add_lit, Nat.zero_add, World.cell?_alloc_new w _ _ j, ← List.getElem?_toArray] at *
  exact h
set_option maxRecDepth 100000 in
theorem cf228 : ∀ args w, (callFunc 228 args).run Tryz.prog w = .ok (.enter 228 args) w := fun _ _ => rfl
set_option maxRecDepth 100000 in
set_option maxHeartbeats 1000000 in
theorem began_any (w : World) (s m c : Nat) (cs TF : List Value) (a : Option Addr) (kind : Int) (hk : 0 ≤ kind ∧ kind ≤ 2) (h : w.heap[s]? = some (.cells cs.toArray 167 (0, 0))) (h6 : cs[6]? = some (.slice a m c)) (hrow : w.ownsRow 0 213 3 (.slice a m c) m TF) (hm : m ≤ 300) :
    Calls Tryz.prog 183 #[ptr s, .int .i64 kind] w fun e w' => e = .returned (.int .i64 ((m : Int) + 1)) ∧ ∃ K', Began w s cs (.slice a m c) m TF kind K' w' := by
  have HF := hide (fun w => fresh_any w kind hk)
  have HP : Hid (∀ {W V wz : World} {K' : Value} {j0 : Nat}, Below w.heap.size w W → Works W (fun k => k = w.heap.size) [] w.heap.size (.slice none 0 0) kind (.iface (freshT kind) (ptr w.heap.size)) → w.heap.size < W.heap.size → Below W.heap.size W V → V.grownBy wz (Value.slice a m c).ownBlock → wz.ownsRow 0 213 3 K' (m + 1) (TF ++ [.int .i64 kind, .iface (freshT kind) (ptr w.heap.size), .slice none 0 0]) → (K'.ownBlock = (Value.slice a m c).ownBlock ∨ K'.ownBlock = some j0) → W.heap.size ≤ j0 → wz.heap[s]? = some (.cells cs.toArray 167 (0, 0)) ∧ Began w s cs (.slice a m c) m TF kind K' (wz.setCell ⟨s, 6, none⟩ K')) := fun a1 a2 a3 a4 a5 a6 a7 a8 => began_put h hrow a1 a2 a3 a4 a5 a6 a7 a8
  have c6 : w.cell? ⟨s, 6, none⟩ = some (.slice a m c) := cell_of h 6 _ (by simpa using h6)
  have z6 : w.frozen? ⟨s, 6, none⟩ = false := open_list h
  have hl := lt_of_block h
  have HZ : Hid (∀ wz : World, wz.heap[s]? = some (.cells cs.toArray 167 (0, 0)) → wz.cell? ⟨s, 6, none⟩ = some (.slice a m c) ∧ wz.frozen? ⟨s, 6, none⟩ = false) := fun wz hw => ⟨cell_of hw 6 _ (by simpa using h6), open_list hw⟩
  have HRW := hide hrow
  obtain ⟨i0, hi, hz0, hz1, hz2⟩ := info_parts info213
  obtain ⟨Post, hPost⟩ : ∃ Post : Value → World → Prop, Post = fun K' w' => Began w s cs (.slice a m c) m TF kind K' w' := ⟨_, rfl⟩
  have HQ : Hid (∀ K' w', Began w s cs (.slice a m c) m TF kind K' w' → Post K' w') := fun K' w' q => by rw [hPost]; exact q
  have HR : Hid (∀ e w', e = Ending.returned (.int .i64 ((m : Int) + 1)) ∧ (∃ K', Post K' w') → e = Ending.returned (.int .i64 ((m : Int) + 1)) ∧ ∃ K', Began w s cs (.slice a m c) m TF kind K' w') := fun e w' ⟨q1, K', q2⟩ => ⟨q1, K', by rw [hPost] at q2; exact q2⟩
  clear hPost
  refine Calls.mono ?_ (unhide HR)
  generalize freshT kind = FT at *
  clear h hrow h6 hk
  go_enter Tryz.func183, Tryz.ntmps183
  go_wp2_with fail
  go_region_law (first
    | (refine step_call rfl 228 #[.tmp 11] #[3] rfl cf228 #[.int .i64 kind] rfl _ ((unhide HF) _) ?_; rintro e w1 ⟨rfl, hwk, hb1, hs1⟩; have hlw : s < w1.heap.size := Nat.lt_of_lt_of_le hl hb1.size; have HB1 := hide (undrew hb1); have HW1 := hide hwk; have hz3 : w1.frozen? ⟨s, 6, none⟩ = false := (hb1.frozen (p := ⟨s, 6, none⟩) hl).trans z6; have hc1 : w1.cell? ⟨s, 6, none⟩ = some (.slice a m c) := (hb1.cell (p := ⟨s, 6, none⟩) hl).trans c6; clear hb1 hwk; refine ⟨_, rfl, ?_⟩)
    | (refine step_append_own rfl (.tmp 9) (.tmp 14) 160 rfl 0 213 i0 (.agg #[.int .i64 0, .nilIface, .slice none 0 0]) 3 48 Tryz.underlying160 hi hz0 hz1 hz2 rfl (by decide) (.slice a m c) m TF rfl (by exact (row_below' (unhide HRW) (unhide HB1)).alloc _) ⟨w1.heap.size, 0, none⟩ 1 1 [.int .i64 kind, .iface FT (ptr w.heap.size), .slice none 0 0] rfl rfl (by exact one_made w1 kind FT w.heap.size) (by simp [Value.oneCell']) (by unfold maxLen; omega) (by omega) (by omega) ?_; intro v' wz hownz hgrow hat; obtain ⟨va, vc, hvs⟩ := slice_of hownz; subst hvs; have hn2 := (unhide HP) (unhide HB1) (unhide HW1) hs1 ((Below.refl _ _).alloc (Nat.le_refl _) _) hgrow hownz hat (by simp); obtain ⟨hzn, hpost⟩ := hn2; have HPO := hide ((unhide HQ) _ _ hpost); have d1 := ((unhide HZ) wz hzn).1; have z1 := ((unhide HZ) wz hzn).2; have hlz := lt_of_block hzn; clear hownz hgrow hat hzn hpost))
  all_goals
    go_wp2
    go_returns
    exact ⟨rfl, _, unhide HPO⟩
end Go.Proofs.YtblomippkddgiaaGreatDoor
