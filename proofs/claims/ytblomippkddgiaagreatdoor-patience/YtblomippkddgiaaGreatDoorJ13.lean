/-
  Joined: VAlone.
-/
import Derived.Test.YtblomippkddgiaaGreatDoorJ12
/-
  The document's own 'alone': a value that begins with an item of its own.
-/
namespace Go.Proofs.YtblomippkddgiaaGreatDoor.V
open Go.RowKit

theorem vI_join (i : Nat) (ks : List Bool) (e : Eaten) : vI i (joinE ks e) = vI (i + ks.length) e := by
  cases e with
  | none => rfl
  | some e => obtain ⟨a, b⟩ := e; simp only [joinE, vI, List.length_append]; omega

set_option maxRecDepth 100000 in
set_option maxHeartbeats 1000000 in
theorem alone_out (s : ByteArray) (p n : Nat) (a : Option Addr) (cap : Nat) (w : World) :
    Calls Tryz.prog 259 #[.string s, .int .i64 p, .slice a n cap, .int .i64 n] w fun e w' => e = .returned (.int .i64 (-1)) ∧ Below w.heap.size w w' := by
  go_enter Tryz.func259, Tryz.ntmps259
  go_wp2
  go_ret
  exact ⟨rfl, Below.refl _ _⟩

set_option maxRecDepth 100000 in
set_option maxHeartbeats 1000000 in
theorem alone_s (s : ByteArray) (p n i b off cap : Nat) (N : Int) (S : ByteArray) (w : World) (hp : p < s.size) (hi : i < n) (hn : n ≤ 9000000000000) (f0 : w.cell? ⟨b, off + i * 2, none⟩ = some (.int .i64 N)) (f1 : w.cell? ⟨b, off + i * 2 + 1, none⟩ = some (.string S)) (hc : nx s p = 115) (h1 : (N != 0) = false) (h2 : ¬ (14 : Int) < (S.size : Int)) :
    Calls Tryz.prog 259 #[.string s, .int .i64 p, .slice (some ⟨b, off, none⟩) n cap, .int .i64 i] w fun e w' => e = .returned (.int .i64 ((i : Int) + 1)) ∧ Below w.heap.size w w' := by
  have hby := byte_fact hp hc
  have hlt : ¬ ((n : Int) ≤ (i : Int)) := by omega
  go_enter Tryz.func259, Tryz.ntmps259
  go_wp2
  go_ret
  exact ⟨rfl, (Below.refl _ _).alloc (Nat.le_refl _) _⟩

set_option maxRecDepth 100000 in
set_option maxHeartbeats 1000000 in
theorem alone_s1 (s : ByteArray) (p n i b off cap : Nat) (N : Int) (S : ByteArray) (w : World) (hp : p < s.size) (hi : i < n) (hn : n ≤ 9000000000000) (f0 : w.cell? ⟨b, off + i * 2, none⟩ = some (.int .i64 N)) (f1 : w.cell? ⟨b, off + i * 2 + 1, none⟩ = some (.string S)) (hc : nx s p = 115) (h1 : (N != 0) = true) :
    Calls Tryz.prog 259 #[.string s, .int .i64 p, .slice (some ⟨b, off, none⟩) n cap, .int .i64 i] w fun e w' => e = .returned (.int .i64 (-1)) ∧ Below w.heap.size w w' := by
  have hby := byte_fact hp hc
  have hlt : ¬ ((n : Int) ≤ (i : Int)) := by omega
  go_enter Tryz.func259, Tryz.ntmps259
  go_wp2
  go_ret
  exact ⟨rfl, (Below.refl _ _).alloc (Nat.le_refl _) _⟩

set_option maxRecDepth 100000 in
set_option maxHeartbeats 1000000 in
theorem alone_s2 (s : ByteArray) (p n i b off cap : Nat) (N : Int) (S : ByteArray) (w : World) (hp : p < s.size) (hi : i < n) (hn : n ≤ 9000000000000) (f0 : w.cell? ⟨b, off + i * 2, none⟩ = some (.int .i64 N)) (f1 : w.cell? ⟨b, off + i * 2 + 1, none⟩ = some (.string S)) (hc : nx s p = 115) (h1 : (N != 0) = false) (h2 : (14 : Int) < (S.size : Int)) :
    Calls Tryz.prog 259 #[.string s, .int .i64 p, .slice (some ⟨b, off, none⟩) n cap, .int .i64 i] w fun e w' => e = .returned (.int .i64 (-1)) ∧ Below w.heap.size w w' := by
  have hby := byte_fact hp hc
  have hlt : ¬ ((n : Int) ≤ (i : Int)) := by omega
  go_enter Tryz.func259, Tryz.ntmps259
  go_wp2
  go_ret
  exact ⟨rfl, (Below.refl _ _).alloc (Nat.le_refl _) _⟩

set_option maxRecDepth 100000 in
set_option maxHeartbeats 1000000 in
theorem alone_n1 (s : ByteArray) (p n i b off cap : Nat) (N : Int) (S : ByteArray) (w : World) (hp : p < s.size) (hi : i < n) (hn : n ≤ 9000000000000) (f0 : w.cell? ⟨b, off + i * 2, none⟩ = some (.int .i64 N)) (f1 : w.cell? ⟨b, off + i * 2 + 1, none⟩ = some (.string S)) (lo hi' : Int) (HM : ∀ w, Calls Tryz.prog 243 #[.string s, .int .i64 p] w fun e w' => e = .returned (.tuple #[.int .i64 lo, .int .i64 hi']) ∧ Below w.heap.size w w') (hne : ((((s[p]).toNat : Nat) : Int) == 115) = false) (hS : ¬ S.toList = []) :
    Calls Tryz.prog 259 #[.string s, .int .i64 p, .slice (some ⟨b, off, none⟩) n cap, .int .i64 i] w fun e w' => e = .returned (.int .i64 (-1)) ∧ Below w.heap.size w w' := by
  have hlt : ¬ ((n : Int) ≤ (i : Int)) := by omega
  have HMM := hide HM
  clear HM
  go_enter Tryz.func259, Tryz.ntmps259
  go_wp2_with fail
  refine ((unhide HMM) _).mono ?_
  rintro e w1 ⟨rfl, hb1⟩
  have g0 : w1.cell? ⟨w.heap.size, 0, none⟩ = some (.int .i64 N) := (hb1.cell (p := ⟨w.heap.size, 0, none⟩) (by simp)).trans (by simp [go_sem])
  have g1 : w1.cell? ⟨w.heap.size, 1, none⟩ = some (.string S) := (hb1.cell (p := ⟨w.heap.size, 1, none⟩) (by simp)).trans (by simp [go_sem])
  have hb : Below w.heap.size w w1 := ((Below.refl _ _).alloc (Nat.le_refl _) _).trans (hb1.mono (by simp))
  have hsz : w.heap.size < w1.heap.size := by have := hb1.size; simp at this; omega
  clear f0 f1 hb1
  go_wp2
  go_ret
  exact ⟨rfl, hb⟩

set_option maxRecDepth 100000 in
set_option maxHeartbeats 1000000 in
theorem alone_n2 (s : ByteArray) (p n i b off cap : Nat) (N : Int) (S : ByteArray) (w : World) (hp : p < s.size) (hi : i < n) (hn : n ≤ 9000000000000) (f0 : w.cell? ⟨b, off + i * 2, none⟩ = some (.int .i64 N)) (f1 : w.cell? ⟨b, off + i * 2 + 1, none⟩ = some (.string S)) (lo hi' : Int) (HM : ∀ w, Calls Tryz.prog 243 #[.string s, .int .i64 p] w fun e w' => e = .returned (.tuple #[.int .i64 lo, .int .i64 hi']) ∧ Below w.heap.size w w') (hne : ((((s[p]).toNat : Nat) : Int) == 115) = false) (hS : S.toList = []) (hl : N < lo) :
    Calls Tryz.prog 259 #[.string s, .int .i64 p, .slice (some ⟨b, off, none⟩) n cap, .int .i64 i] w fun e w' => e = .returned (.int .i64 (-1)) ∧ Below w.heap.size w w' := by
  have hlt : ¬ ((n : Int) ≤ (i : Int)) := by omega
  have HMM := hide HM
  clear HM
  go_enter Tryz.func259, Tryz.ntmps259
  go_wp2_with fail
  refine ((unhide HMM) _).mono ?_
  rintro e w1 ⟨rfl, hb1⟩
  have g0 : w1.cell? ⟨w.heap.size, 0, none⟩ = some (.int .i64 N) := (hb1.cell (p := ⟨w.heap.size, 0, none⟩) (by simp)).trans (by simp [go_sem])
  have g1 : w1.cell? ⟨w.heap.size, 1, none⟩ = some (.string S) := (hb1.cell (p := ⟨w.heap.size, 1, none⟩) (by simp)).trans (by simp [go_sem])
  have hb : Below w.heap.size w w1 := ((Below.refl _ _).alloc (Nat.le_refl _) _).trans (hb1.mono (by simp))
  have hsz : w.heap.size < w1.heap.size := by have := hb1.size; simp at this; omega
  clear f0 f1 hb1
  go_wp2
  go_ret
  exact ⟨rfl, hb⟩

set_option maxRecDepth 100000 in
set_option maxHeartbeats 1000000 in
theorem alone_n3 (s : ByteArray) (p n i b off cap : Nat) (N : Int) (S : ByteArray) (w : World) (hp : p < s.size) (hi : i < n) (hn : n ≤ 9000000000000) (f0 : w.cell? ⟨b, off + i * 2, none⟩ = some (.int .i64 N)) (f1 : w.cell? ⟨b, off + i * 2 + 1, none⟩ = some (.string S)) (lo hi' : Int) (HM : ∀ w, Calls Tryz.prog 243 #[.string s, .int .i64 p] w fun e w' => e = .returned (.tuple #[.int .i64 lo, .int .i64 hi']) ∧ Below w.heap.size w w') (hne : ((((s[p]).toNat : Nat) : Int) == 115) = false) (hS : S.toList = []) (hl : ¬ N < lo) (hh : hi' < N) :
    Calls Tryz.prog 259 #[.string s, .int .i64 p, .slice (some ⟨b, off, none⟩) n cap, .int .i64 i] w fun e w' => e = .returned (.int .i64 (-1)) ∧ Below w.heap.size w w' := by
  have hlt : ¬ ((n : Int) ≤ (i : Int)) := by omega
  have HMM := hide HM
  clear HM
  go_enter Tryz.func259, Tryz.ntmps259
  go_wp2_with fail
  refine ((unhide HMM) _).mono ?_
  rintro e w1 ⟨rfl, hb1⟩
  have g0 : w1.cell? ⟨w.heap.size, 0, none⟩ = some (.int .i64 N) := (hb1.cell (p := ⟨w.heap.size, 0, none⟩) (by simp)).trans (by simp [go_sem])
  have g1 : w1.cell? ⟨w.heap.size, 1, none⟩ = some (.string S) := (hb1.cell (p := ⟨w.heap.size, 1, none⟩) (by simp)).trans (by simp [go_sem])
  have hb : Below w.heap.size w w1 := ((Below.refl _ _).alloc (Nat.le_refl _) _).trans (hb1.mono (by simp))
  have hsz : w.heap.size < w1.heap.size := by have := hb1.size; simp at this; omega
  clear f0 f1 hb1
  go_wp2
  go_ret
  exact ⟨rfl, hb⟩

set_option maxRecDepth 100000 in
set_option maxHeartbeats 1000000 in
theorem alone_leaf (s : ByteArray) (p n i b off cap : Nat) (N : Int) (S : ByteArray) (w : World) (hp : p < s.size) (hi : i < n) (hn : n ≤ 9000000000000) (f0 : w.cell? ⟨b, off + i * 2, none⟩ = some (.int .i64 N)) (f1 : w.cell? ⟨b, off + i * 2 + 1, none⟩ = some (.string S)) (lo hi' : Int) (HM : ∀ w, Calls Tryz.prog 243 #[.string s, .int .i64 p] w fun e w' => e = .returned (.tuple #[.int .i64 lo, .int .i64 hi']) ∧ Below w.heap.size w w') (hne : ((((s[p]).toNat : Nat) : Int) == 115) = false) (hS : S.toList = []) (hl : ¬ N < lo) (hh : ¬ hi' < N) (hu : ((((s[p]).toNat : Nat) : Int) == 117) = false) (hq : ((((s[p]).toNat : Nat) : Int) == 113) = false) :
    Calls Tryz.prog 259 #[.string s, .int .i64 p, .slice (some ⟨b, off, none⟩) n cap, .int .i64 i] w fun e w' => e = .returned (.int .i64 ((i : Int) + 1)) ∧ Below w.heap.size w w' := by
  have hlt : ¬ ((n : Int) ≤ (i : Int)) := by omega
  have HMM := hide HM
  clear HM
  go_enter Tryz.func259, Tryz.ntmps259
  go_wp2_with fail
  refine ((unhide HMM) _).mono ?_
  rintro e w1 ⟨rfl, hb1⟩
  have g0 : w1.cell? ⟨w.heap.size, 0, none⟩ = some (.int .i64 N) := (hb1.cell (p := ⟨w.heap.size, 0, none⟩) (by simp)).trans (by simp [go_sem])
  have g1 : w1.cell? ⟨w.heap.size, 1, none⟩ = some (.string S) := (hb1.cell (p := ⟨w.heap.size, 1, none⟩) (by simp)).trans (by simp [go_sem])
  have hb : Below w.heap.size w w1 := ((Below.refl _ _).alloc (Nat.le_refl _) _).trans (hb1.mono (by simp))
  have hsz : w.heap.size < w1.heap.size := by have := hb1.size; simp at this; omega
  clear f0 f1 hb1
  go_wp2
  refine wp_loop_rounds 1 ?_
  rw [rounds_succ]
  go_wp2
  go_ret
  exact ⟨rfl, hb⟩

set_option maxRecDepth 100000 in
set_option maxHeartbeats 1000000 in
theorem alone_u (s : ByteArray) (p n i b off cap : Nat) (N : Int) (S : ByteArray) (w : World) (hp : p < s.size) (hi : i < n) (hn : n ≤ 9000000000000) (f0 : w.cell? ⟨b, off + i * 2, none⟩ = some (.int .i64 N)) (f1 : w.cell? ⟨b, off + i * 2 + 1, none⟩ = some (.string S)) (lo hi' : Int) (HM : ∀ w, Calls Tryz.prog 243 #[.string s, .int .i64 p] w fun e w' => e = .returned (.tuple #[.int .i64 lo, .int .i64 hi']) ∧ Below w.heap.size w w') (hne : ((((s[p]).toNat : Nat) : Int) == 115) = false) (hS : S.toList = []) (hl : ¬ N < lo) (hh : ¬ hi' < N) (hu : ((((s[p]).toNat : Nat) : Int) == 117) = true) (q : Nat) (res : Int) (HP : ∀ w, Calls Tryz.prog 244 #[.string s, .int .i64 p, .int .i64 N] w fun e w' => e = .returned (.int .i64 q) ∧ Below w.heap.size w w')
    (HV : ∀ w', Below w.heap.size w w' → Calls Tryz.prog 239 #[.string s, .int .i64 q, .slice (some ⟨b, off, none⟩) n cap, .int .i64 ((i : Int) + 1)] w' fun e w'' => e = .returned (.int .i64 res) ∧ Below w'.heap.size w' w'') :
    Calls Tryz.prog 259 #[.string s, .int .i64 p, .slice (some ⟨b, off, none⟩) n cap, .int .i64 i] w fun e w' => e = .returned (.int .i64 res) ∧ Below w.heap.size w w' := by
  have HPP := hide HP
  have HVV := hide HV
  clear HP HV
  have hlt : ¬ ((n : Int) ≤ (i : Int)) := by omega
  have HMM := hide HM
  clear HM
  go_enter Tryz.func259, Tryz.ntmps259
  go_wp2_with fail
  refine ((unhide HMM) _).mono ?_
  rintro e w1 ⟨rfl, hb1⟩
  have g0 : w1.cell? ⟨w.heap.size, 0, none⟩ = some (.int .i64 N) := (hb1.cell (p := ⟨w.heap.size, 0, none⟩) (by simp)).trans (by simp [go_sem])
  have g1 : w1.cell? ⟨w.heap.size, 1, none⟩ = some (.string S) := (hb1.cell (p := ⟨w.heap.size, 1, none⟩) (by simp)).trans (by simp [go_sem])
  have hb : Below w.heap.size w w1 := ((Below.refl _ _).alloc (Nat.le_refl _) _).trans (hb1.mono (by simp))
  have hsz : w.heap.size < w1.heap.size := by have := hb1.size; simp at this; omega
  clear f0 f1 hb1
  go_wp2_with fail
  refine ((unhide HPP) _).mono ?_
  rintro e w2 ⟨rfl, hb2⟩
  have hb' := hb.trans (hb2.mono (by omega))
  go_wp2_with fail
  refine ((unhide HVV) _ hb').mono ?_
  rintro e w3 ⟨rfl, hb3⟩
  go_wp2
  go_ret
  exact ⟨rfl, hb'.trans (hb3.mono hb'.size)⟩

set_option maxRecDepth 100000 in
set_option maxHeartbeats 1000000 in
theorem alone_q (s : ByteArray) (p n i b off cap : Nat) (N : Int) (S : ByteArray) (w : World) (hp : p < s.size) (hi : i < n) (hn : n ≤ 9000000000000) (f0 : w.cell? ⟨b, off + i * 2, none⟩ = some (.int .i64 N)) (f1 : w.cell? ⟨b, off + i * 2 + 1, none⟩ = some (.string S)) (lo hi' : Int) (HM : ∀ w, Calls Tryz.prog 243 #[.string s, .int .i64 p] w fun e w' => e = .returned (.tuple #[.int .i64 lo, .int .i64 hi']) ∧ Below w.heap.size w w') (hne : ((((s[p]).toNat : Nat) : Int) == 115) = false) (v : List It) (E : Nat → List It → Eaten) (hv : v.length = n) (hEh : Heads (E (p + 2))) (hS : S.toList = []) (hl : ¬ N < lo) (hh : ¬ hi' < N) (hu : ((((s[p]).toNat : Nat) : Int) == 117) = false) (hq : ((((s[p]).toNat : Nat) : Int) == 113) = true) (hN0 : 0 ≤ N) (hN9 : N ≤ 9)
    (HV : ∀ (j : Nat) w', j ≤ n → Below w.heap.size w w' → Calls Tryz.prog 239 #[.string s, .int .i64 ((p : Int) + 2), .slice (some ⟨b, off, none⟩) n cap, .int .i64 j] w' fun e w'' => e = .returned (.int .i64 (vI j (E (p + 2) (v.drop j)))) ∧ Below w'.heap.size w' w'') (hpl : p ≤ 40) :
    Calls Tryz.prog 259 #[.string s, .int .i64 p, .slice (some ⟨b, off, none⟩) n cap, .int .i64 i] w fun e w' => e = .returned (.int .i64 (vI (i + 1) (seqE E (List.replicate N.toNat (p + 2)) (v.drop (i + 1))))) ∧ Below w.heap.size w w' := by
  have HVV := hide HV
  have HEH := hide hEh
  have HVL := hide hv
  clear HV hEh hv
  have hlt : ¬ ((n : Int) ≤ (i : Int)) := by omega
  have HMM := hide HM
  clear HM
  go_enter Tryz.func259, Tryz.ntmps259
  go_wp2_with fail
  refine ((unhide HMM) _).mono ?_
  rintro e w1 ⟨rfl, hb1⟩
  have g0 : w1.cell? ⟨w.heap.size, 0, none⟩ = some (.int .i64 N) := (hb1.cell (p := ⟨w.heap.size, 0, none⟩) (by simp)).trans (by simp [go_sem])
  have g1 : w1.cell? ⟨w.heap.size, 1, none⟩ = some (.string S) := (hb1.cell (p := ⟨w.heap.size, 1, none⟩) (by simp)).trans (by simp [go_sem])
  have hb : Below w.heap.size w w1 := ((Below.refl _ _).alloc (Nat.le_refl _) _).trans (hb1.mono (by simp))
  have hsz : w.heap.size < w1.heap.size := by have := hb1.size; simp at this; omega
  clear f0 f1 hb1
  go_wp2
  go_loopw [3, 12] (fun iv kv wr => ∃ k : Nat, k ≤ N.toNat ∧ kv = .int .i64 k ∧ iv = .int .i64 (vI (i + 1) (seqE E (List.replicate k (p + 2)) (v.drop (i + 1)))) ∧ Below w.heap.size w wr ∧ wr.cell? ⟨w.heap.size, 0, none⟩ = some (.int .i64 N)) (fun _ kv _ => N.toNat - (intOf kv).toNat)
  case atStart => exact ⟨0, Nat.zero_le _, rfl, by simp [seqE, vI], hb, g0⟩
  case round =>
    obtain ⟨k, hk, rfl, rfl, hbr, g0r⟩ := hrel
    clear hb g0 g1 hsz
    by_cases hkN : k < N.toNat
    · have hkI : (k : Int) < N := by omega
      cases hst : seqE E (List.replicate k (p + 2)) (v.drop (i + 1)) with
      | none =>
        have hfin : seqE E (List.replicate N.toNat (p + 2)) (v.drop (i + 1)) = none := by
          refine seqE_none E (k := k) ?_
          rw [List.take_replicate, Nat.min_eq_left hk]
          exact hst
        have HFIN := hide hfin
        rw [show vI (i + 1) none = -1 from rfl]
        clear hst hfin
        go_wp2
        go_ret
        exact ⟨by rw [unhide HFIN]; rfl, hbr⟩
      | some e =>
        obtain ⟨ks, r⟩ := e
        obtain ⟨h1, h2⟩ := seqE_heads (E := E) (List.replicate k (p + 2)) (fun q hq => by rw [(List.mem_replicate.1 hq).2]; exact unhide HEH) _ _ _ hst
        have hstep : seqE E (List.replicate (k + 1) (p + 2)) (v.drop (i + 1)) = joinE ks (E (p + 2) r) := by
          rw [List.replicate_succ', seqE_snoc, hst]
        rw [List.drop_drop] at h1
        rw [List.length_drop] at h2
        have hvl := unhide HVL
        obtain ⟨j, hj⟩ : ∃ j, j = i + 1 + ks.length := ⟨_, rfl⟩
        have hjl : j ≤ n := by omega
        have hvi : vI (i + 1) (some (ks, r)) = (j : Int) := by simp only [vI]; omega
        have hnew : vI (i + 1) (seqE E (List.replicate (k + 1) (p + 2)) (v.drop (i + 1))) = vI j (E (p + 2) (v.drop j)) := by rw [hstep, vI_join, h1, ← hj]
        rw [hvi]
        have HNEW := hide hnew
        clear hst h1 h2 hstep hj hvi hnew hvl
        go_wp2_with fail
        refine ((unhide HVV) j _ hjl hbr).mono ?_
        rintro e w2 ⟨rfl, hb2⟩
        have hb' := hbr.trans (hb2.mono hbr.size)
        have g0' : w2.cell? ⟨w.heap.size, 0, none⟩ = some (.int .i64 N) := (hb2.cell (p := ⟨w.heap.size, 0, none⟩) (lt_of_cell g0r)).trans g0r
        rw [← unhide HNEW]
        clear hb2 g0r hbr
        go_wp2
        go_roundw
        case rel => exact ⟨k + 1, by omega, by go_num, rfl, hb', g0'⟩
        case measure => simp [intOf]; omega
    · obtain rfl : k = N.toNat := by omega
      have hkI : ¬ ((N.toNat : Nat) : Int) < N := by omega
      go_wp2
      go_ret
      exact ⟨rfl, hbr⟩

end Go.Proofs.YtblomippkddgiaaGreatDoor.V
