/-
  Joined: VPartsWalk VDepth VMath2.
-/
import Derived.Test.YtblomippkddgiaaGreatDoorJ07
import Derived.Test.YtblomippkddgiaaGreatDoorJ02
/-
  The walk of the landed code's partsInBrackets, over the contract of oneType at one fuel less.
-/
namespace Go.Proofs.YtblomippkddgiaaGreatDoor.V
open Go.RowKit

set_option maxHeartbeats 1000000 in
theorem parts_open (b p : Nat) (s : ByteArray) (w : World) (h : At w b s p) (hp : p ≤ s.size) (hs : s.size ≤ 40) (hc : ¬ nx s p = 40) :
    Calls Tryz.prog 196 #[.pointer (some ⟨b, 0, none⟩)] w fun e w' => e = wrongAt p ∧ Keeps b w w' := by
  have HB := bracket_no b p s w (nx s p) 40 h hp hs rfl hc
  clear hc h
  go_enter Tryz.func196, Tryz.ntmps196
  go_wp2_with fail
  refine HB.mono ?_
  rintro e w1 ⟨rfl, hk⟩
  go_wp2
  exact ⟨rfl, rfl, hk⟩

set_option maxHeartbeats 1000000 in
theorem parts_first (b f p : Nat) (s : ByteArray) (w : World) (h : At w b s p) (hp : p < s.size) (hs : s.size ≤ 40) (hf : s.size - (p + 1) < f) (hc : nx s p = 40) (H : OneSaid b s f) (hT : (Pt.ty (nx s) f (p + 1)).1 = false) :
    Calls Tryz.prog 196 #[.pointer (some ⟨b, 0, none⟩)] w fun e w' => e = wrongAt (Pt.ty (nx s) f (p + 1)).2 ∧ Keeps b w w' := by
  have HB := bracket_ok b p s w 40 h (by omega) hs hc
  have HO : ∀ w, At w b s (p + 1) → Calls Tryz.prog 128 #[.pointer (some ⟨b, 0, none⟩)] w fun e w' => e = wrongAt (Pt.ty (nx s) f (p + 1)).2 ∧ Keeps b w w' := by
    intro w1 ha
    refine (H (p + 1) w1 ha (by omega) hf).mono ?_
    intro e w' hp'
    unfold TyPost at hp'
    rw [hT, if_neg (by simp)] at hp'
    exact hp'
  have HO := hide HO
  clear hc h H hT
  go_enter Tryz.func196, Tryz.ntmps196
  go_wp2_with fail
  refine HB.mono ?_
  rintro e w1 ⟨rfl, hk, ha⟩
  clear HB
  go_wp2_with fail
  refine ((unhide HO) _ ha).mono ?_
  rintro e w2 ⟨rfl, hk2⟩
  go_wp2
  exact ⟨rfl, rfl, hk.trans hk2⟩

set_option maxHeartbeats 2000000 in
theorem parts_rest (b f p : Nat) (s : ByteArray) (w : World) (h : At w b s p) (hp : p < s.size) (hs : s.size ≤ 40) (hf : s.size - (p + 1) < f) (hc : nx s p = 40) (H : OneSaid b s f) (hA : Pt.Agree (nx s) s.size f) (hT : (Pt.ty (nx s) f (p + 1)).1 = true) :
    Calls Tryz.prog 196 #[.pointer (some ⟨b, 0, none⟩)] w (PartsPost b s f p w) := by
  have hbw := h.lt
  have HB := bracket_ok b p s w 40 h (by omega) hs hc
  have HA := hide hA
  have HT := hide hT
  have HO := hide H
  clear hc h H hT hA
  obtain ⟨i0, hi, hz0, hz1, hz2⟩ := info_parts info63
  go_enter Tryz.func196, Tryz.ntmps196
  go_wp2_with fail
  refine HB.mono ?_
  rintro e w1 ⟨rfl, hk, ha⟩
  clear HB
  go_wp2_with fail
  refine ((unhide HO) (p + 1) _ ha (by omega) hf).mono ?_
  intro e w2 hpo
  unfold TyPost at hpo
  rw [unhide HT, if_pos rfl] at hpo
  obtain ⟨d0, d1, d2, rfl, hk2, ha2, hr2⟩ := hpo
  obtain ⟨_, hpos, _⟩ := (unhide HA) (p + 1) 0 1 0 [] (by omega) hf
  obtain ⟨q1, q2⟩ := hpos (unhide HT)
  have I := inv_start hk hk2 ha2 rfl q2 (by omega) hr2
  have I0 := hide I
  clear I hpos hk hk2 ha ha2 hr2
  go_wp2
  go_loopw [3] (fun v wr => ∃ (j k q : Nat) (ks : List Nat) (xs : List Value), PInv b f p s w j k q ks v xs wr) (fun v _ => 6 - lenOf v)
  case atStart => exact ⟨_, _, _, _, _, unhide I0⟩
  case round =>
    obtain ⟨j, k, q, ks, xs, I⟩ := hrel
    clear I0
    obtain ⟨g, cap, hv, hBg, hgl⟩ := owns_cons I.owns I.some
    subst hv
    have HI := hide I
    have hsum := I.sum
    have hsome := I.some
    have har := I.reader
    have hle := I.le
    have hfuel := I.fuel
    clear I
    by_cases h6 : k = 6
    · subst h6
      obtain rfl : j = 0 := by omega
      by_cases h41 : nx s q = 41
      · have H41 := hide h41
        clear h41
        go_wp2_with fail
        refine (bracket_ok b q s _ 41 har hle hs (unhide H41)).mono ?_
        rintro e w3 ⟨rfl, hk3, ha3⟩
        go_wp2
        go_ret
        exact inv_end_ok hbw (unhide HI) (unhide H41) hk3 ha3
      · have H41 := hide h41
        clear h41
        go_wp2_with fail
        refine (bracket_no b q s _ _ 41 har hle hs rfl (unhide H41)).mono ?_
        rintro e w3 ⟨rfl, hk3⟩
        go_wp2
        exact ⟨rfl, inv_end_no (unhide HI) (unhide H41) hk3⟩
    · obtain ⟨j', rfl⟩ : ∃ j', j = j' + 1 := ⟨j - 1, by omega⟩
      have hk6 : (k : Int) < 6 := by omega
      by_cases h41 : nx s q = 41
      · have H41 := hide h41
        have HN := next_any b q s wr har hle hs
        rw [h41] at HN
        clear h41
        go_wp2_with fail
        refine HN.mono ?_
        rintro e w3 ⟨rfl, hk3, ha3⟩
        clear HN
        go_wp2_with fail
        refine (bracket_ok b q s _ 41 ha3 hle hs (unhide H41)).mono ?_
        rintro e w4 ⟨rfl, hk4, ha4⟩
        go_wp2
        go_ret
        exact inv_end_ok hbw (unhide HI) (unhide H41) (hk3.trans hk4) ha4
      · have H41 := hide h41
        have HN := next_any b q s wr har hle hs
        obtain ⟨c, hcc⟩ : ∃ c, c = nx s q := ⟨_, rfl⟩
        rw [← hcc] at HN
        have hne41 : ((c : Int) != 41) = true := by simp; omega
        clear h41 hcc
        go_wp2_with fail
        refine HN.mono ?_
        rintro e w3 ⟨rfl, hk3, ha3⟩
        clear HN
        go_wp2_with fail
        refine ((unhide HO) q _ ha3 hle hfuel).mono ?_
        intro e w4 hpo
        unfold TyPost at hpo
        cases hTq : (Pt.ty (nx s) f q).1 with
        | false =>
          rw [hTq, if_neg (by simp)] at hpo
          obtain ⟨rfl, hk4⟩ := hpo
          have HTq := hide hTq
          clear hTq
          go_wp2
          exact ⟨rfl, inv_bad (unhide HI) (unhide H41) (unhide HTq) (hk3.trans hk4)⟩
        | true =>
          rw [hTq, if_pos rfl] at hpo
          obtain ⟨e0, e1, e2, rfl, hk4, ha4, hr4⟩ := hpo
          have HTq := hide hTq
          clear hTq
          obtain ⟨⟨x0, rfl⟩, ⟨x1, rfl⟩, ⟨ea, en, ec, rfl⟩⟩ := rep_shape hr4
          have hk34 := hk3.trans hk4
          have how := owns_keeps (unhide HI).owns hk34 hbw
          have hsz := (unhide HI).keeps.size
          have hsz4 := hk34.size
          have HR := hide hr4
          have HA4 := hide ha4
          have HK34 := hide hk34
          have hb3 : wr.heap.size ≤ w3.heap.size := hk3.size
          clear hr4 ha4 hk34 hk3 hk4 ha3 har
          go_wp2_with (at_builtin; refine wpList_append_own_at _ rfl _ _ 151 rfl w.heap.size 153 i0 (.agg #[.int .u8 0, .int .i64 0, .slice none 0 0]) 3 40 Tryz.underlying151 hi hz0 hz1 hz2 rfl (by decide) _ k xs rfl (how.alloc _) ⟨w4.heap.size, 0, none⟩ 1 1 [.int .u8 x0, .int .i64 x1, .slice ea en ec] rfl rfl ?c1 ?c2 ?c3 ?c4 ?c5 ?_)
          case c1 =>
            intro i u hu
            obtain ⟨t0, t1, t2, _⟩ := (Tri.new w4 (.int .u8 x0) (.int .i64 x1) (.slice ea en ec)).facts
            match i, hu with
            | 0, hu => simp at hu; subst hu; exact t0
            | 1, hu => simp at hu; subst hu; exact t1
            | 2, hu => simp at hu; subst hu; exact t2
          case c2 =>
            intro u hu
            simp at hu
            rcases hu with rfl | rfl | rfl <;> rfl
          case c3 => unfold maxLen; omega
          case c4 => omega
          case c5 => simp; omega
          intro v' w5 hown' hgrow _ hat
          have R := inv_push hbw (unhide HI) (unhide HK34) (unhide HA4) (unhide HTq) (unhide HA) (unhide H41) (rep_mono (fun k' hk' _ => by omega) (unhide HR)) hown' hgrow (by simpa using hat)
          have hl5 : lenOf v' = k + 1 := by
            obtain ⟨g', cap', hv', _⟩ := owns_cons hown' (by omega)
            rw [hv']
            rfl
          have R := hide R
          have hl5 := hide hl5
          clear hown' hgrow hat how
          go_wp2
          go_roundw
          case rel => exact ⟨_, _, _, _, _, unhide R⟩
          case measure => rw [unhide hl5]; simp only [lenOf]; omega

theorem parts_any (b f p : Nat) (s : ByteArray) (w : World) (h : At w b s p) (hp : p ≤ s.size) (hs : s.size ≤ 40) (hf : p < s.size → s.size - (p + 1) < f) (H : OneSaid b s f) (hA : Pt.Agree (nx s) s.size f) :
    Calls Tryz.prog 196 #[.pointer (some ⟨b, 0, none⟩)] w fun e w' =>
      if nx s p = 40 then (if (Pt.ty (nx s) f (p + 1)).1 then PartsPost b s f p w e w' else e = wrongAt (Pt.ty (nx s) f (p + 1)).2 ∧ Keeps b w w') else e = wrongAt p ∧ Keeps b w w' := by
  by_cases hc : nx s p = 40
  · have hlt : p < s.size := by
      rcases Nat.lt_or_ge p s.size with h' | h'
      · exact h'
      · rw [nx_out h'] at hc
        omega
    simp only [hc, if_true]
    cases hT : (Pt.ty (nx s) f (p + 1)).1 with
    | false => simpa using parts_first b f p s w h hlt hs (hf hlt) hc H hT
    | true => simpa using parts_rest b f p s w h hlt hs (hf hlt) hc H hA hT
  · simp only [hc, if_false]
    exact parts_open b p s w h hp hs hc

theorem nx_pos {s : ByteArray} {p c : Nat} (h : nx s p = c) (hc : c ≠ 0) : p < s.size := by
  rcases Nat.lt_or_ge p s.size with h' | h'
  · exact h'
  · rw [nx_out h'] at h
    omega

theorem one_any (b : Nat) (s : ByteArray) (hs : s.size ≤ 40) : ∀ f, OneSaid b s f := by
  have hA := fun f => Pt.agree (g := nx s) (n := s.size) (fun p hp => nx_out hp) f
  intro f
  induction f with
  | zero => intro p w _ _ hf; omega
  | succ f ih =>
    intro p w h hp hf
    obtain ⟨c, hc⟩ : ∃ c, nx s p = c := ⟨_, rfl⟩
    by_cases hl : c = 98 ∨ c = 99 ∨ c = 105 ∨ c = 115
    · have hlf : Pt.isLeaf c = true := by simp [Pt.isLeaf]; omega
      refine (one_leaf b p s w c h hp hs hc hl).mono ?_
      rintro e w' ⟨rfl, hk, ha⟩
      have e1 : Pt.ty (nx s) (f + 1) p = (true, p + 1) := by simp [Pt.ty, hc, hlf]
      unfold TyPost
      rw [e1, if_pos rfl]
      refine ⟨_, _, _, rfl, hk, ha, rep_none ?_ (by rw [hc]) ?_⟩
      · have n1 : ¬ c = 97 := by omega
        have n2 : ¬ c = 113 := by omega
        have n3 : ¬ c = 114 := by omega
        have n4 : ¬ c = 117 := by omega
        simp [Pt.kids, hc, n1, n2, n3, n4]
      · unfold nodeDigit
        rw [if_neg (by rw [hc]; omega)]
    have hlf : Pt.isLeaf c = false := by simp [Pt.isLeaf]; omega
    by_cases he : c = 101
    · subst he
      have hlt := nx_pos hc (by omega)
      by_cases hd : 48 + 1 ≤ nx s (p + 1) ∧ nx s (p + 1) ≤ 57
      · refine (one_e b p s w h hlt hs hc hd).mono ?_
        rintro e w' ⟨rfl, hk, ha⟩
        have e1 : Pt.ty (nx s) (f + 1) p = (true, p + 2) := by simp [Pt.ty, hc, hlf, Pt.dig]; omega
        unfold TyPost
        rw [e1, if_pos rfl]
        refine ⟨_, _, _, rfl, hk, ha, rep_none (by simp [Pt.kids, hc]) (by rw [hc]; rfl) ?_⟩
        unfold nodeDigit
        rw [if_pos (by omega)]
      · refine (one_e_no b p s w h hlt hs hc hd).mono ?_
        rintro e w' ⟨rfl, hk⟩
        have e1 : Pt.ty (nx s) (f + 1) p = (false, p + 1) := by
          simp only [Pt.ty, hc, hlf, Pt.dig]
          simp
          omega
        unfold TyPost
        rw [e1, if_neg (by simp)]
        exact ⟨rfl, hk⟩
    by_cases ha' : c = 97
    · subst ha'
      have hlt := nx_pos hc (by omega)
      by_cases hd : 48 + 1 ≤ nx s (p + 1) ∧ nx s (p + 1) ≤ 57
      · have hlt2 := nx_pos (s := s) (p := p + 1) rfl (by omega)
        have hdg : Pt.dig (nx s) 1 (p + 1) = (true, p + 2) := by unfold Pt.dig; rw [if_pos hd]
        have e1 : Pt.ty (nx s) (f + 1) p = Pt.ty (nx s) f (p + 2) := by simp [Pt.ty, hc, hlf, hdg]
        have hch := fun w' (ha : At w' b s (p + 2)) => ih (p + 2) w' ha (by omega) (by omega)
        unfold TyPost at hch ⊢
        rw [e1]
        cases hT : (Pt.ty (nx s) f (p + 2)).1 with
        | false =>
          simp only [hT, Bool.false_eq_true, if_false] at hch ⊢
          exact one_a_in b p s w _ h hlt hs hc hd hch
        | true =>
          simp only [hT, if_true] at hch ⊢
          exact one_a_ok b p f s w _ h hlt hs hc hd hch
      · refine (one_a_no b p s w h hlt hs hc hd).mono ?_
        rintro e w' ⟨rfl, hk⟩
        have hdg : Pt.dig (nx s) 1 (p + 1) = (false, p + 1) := by unfold Pt.dig; rw [if_neg hd]
        have e1 : Pt.ty (nx s) (f + 1) p = (false, p + 1) := by simp [Pt.ty, hc, hlf, hdg]
        unfold TyPost
        rw [e1, if_neg (by simp)]
        exact ⟨rfl, hk⟩
    by_cases hq' : c = 113
    · subst hq'
      have hlt := nx_pos hc (by omega)
      by_cases hd : 48 + 0 ≤ nx s (p + 1) ∧ nx s (p + 1) ≤ 57
      · have hlt2 := nx_pos (s := s) (p := p + 1) rfl (by omega)
        have hdg : Pt.dig (nx s) 0 (p + 1) = (true, p + 2) := by unfold Pt.dig; rw [if_pos hd]
        have e1 : Pt.ty (nx s) (f + 1) p = Pt.ty (nx s) f (p + 2) := by simp [Pt.ty, hc, hlf, hdg]
        have hch := fun w' (ha : At w' b s (p + 2)) => ih (p + 2) w' ha (by omega) (by omega)
        unfold TyPost at hch ⊢
        rw [e1]
        cases hT : (Pt.ty (nx s) f (p + 2)).1 with
        | false =>
          simp only [hT, Bool.false_eq_true, if_false] at hch ⊢
          exact one_q_in b p s w _ h hlt hs hc hd hch
        | true =>
          simp only [hT, if_true] at hch ⊢
          exact one_q_ok b p f s w _ h hlt hs hc hd hch
      · refine (one_q_no b p s w h hlt hs hc hd).mono ?_
        rintro e w' ⟨rfl, hk⟩
        have hdg : Pt.dig (nx s) 0 (p + 1) = (false, p + 1) := by unfold Pt.dig; rw [if_neg hd]
        have e1 : Pt.ty (nx s) (f + 1) p = (false, p + 1) := by simp [Pt.ty, hc, hlf, hdg]
        unfold TyPost
        rw [e1, if_neg (by simp)]
        exact ⟨rfl, hk⟩
    by_cases hr : c = 114 ∨ c = 117
    · have hlt := nx_pos hc (by omega)
      have e1 : Pt.ty (nx s) (f + 1) p = (if nx s (p + 1) = 40 then (if (Pt.ty (nx s) f (p + 2)).1 then Pt.lst (Pt.ty (nx s) f) (nx s) 5 (Pt.ty (nx s) f (p + 2)).2 else (false, (Pt.ty (nx s) f (p + 2)).2)) else (false, p + 1)) := by
        simp [Pt.ty, hc, hlf, he, ha', hq', hr]
      have ek : Pt.kids (nx s) f p = (p + 2) :: Pt.lkids (Pt.ty (nx s) f) (nx s) 5 (Pt.ty (nx s) f (p + 2)).2 := by simp [Pt.kids, hc, ha', hq', hr]
      have hch := fun w' (ha : At w' b s (p + 1)) => parts_any b f (p + 1) s w' ha (by omega) hs (fun _ => by omega) ih (hA f)
      by_cases h40 : nx s (p + 1) = 40
      · cases hT : (Pt.ty (nx s) f (p + 2)).1 with
        | false =>
          simp only [h40, if_true, show p + 1 + 1 = p + 2 from rfl, hT, Bool.false_eq_true, if_false] at hch
          unfold TyPost
          rw [e1]
          simp only [h40, if_true, hT, Bool.false_eq_true, if_false]
          rcases hr with rfl | rfl
          · exact one_r_in b p s w _ h hlt hs hc hch
          · exact one_u_in b p s w _ h hlt hs hc hch
        | true =>
          unfold PartsPost at hch
          simp only [h40, if_true, show p + 1 + 1 = p + 2 from rfl, hT] at hch
          unfold TyPost
          rw [e1]
          simp only [h40, if_true, hT]
          cases hL : (Pt.lst (Pt.ty (nx s) f) (nx s) 5 (Pt.ty (nx s) f (p + 2)).2).1 with
          | false =>
            simp only [hL, Bool.false_eq_true, if_false] at hch ⊢
            rcases hr with rfl | rfl
            · exact one_r_in b p s w _ h hlt hs hc hch
            · exact one_u_in b p s w _ h hlt hs hc hch
          | true =>
            simp only [hL, if_true, ← ek] at hch ⊢
            rcases hr with rfl | rfl
            · exact one_r_ok b p f s w _ h hlt hs hc hch
            · exact one_u_ok b p f s w _ h hlt hs hc hch
      · simp only [h40, if_false] at hch
        unfold TyPost
        rw [e1]
        simp only [h40, if_false, Bool.false_eq_true]
        rcases hr with rfl | rfl
        · exact one_r_in b p s w _ h hlt hs hc hch
        · exact one_u_in b p s w _ h hlt hs hc hch
    · refine (one_bad b p s w c h hp hs hc (by omega)).mono ?_
      rintro e w' ⟨rfl, hk⟩
      have e1 : Pt.ty (nx s) (f + 1) p = (false, p) := by simp [Pt.ty, hc, hlf, he, ha', hq', hr]
      unfold TyPost
      rw [e1, if_neg (by simp)]
      exact ⟨rfl, hk⟩
end Go.Proofs.YtblomippkddgiaaGreatDoor.V
/-
  The landed code's depth, over a type as it lies in memory.
-/
namespace Go.Proofs.YtblomippkddgiaaGreatDoor.V
open Go.RowKit

theorem top_le {l : List Nat} {m : Nat} (h : ∀ x ∈ l, x ≤ m) : Pt.top l ≤ m := by
  induction l with
  | nil => simp [Pt.top]
  | cons x l ih =>
    have h1 := h x (by simp)
    have h2 := ih (fun y hy => h y (by simp [hy]))
    simp only [Pt.top]
    omega
theorem dep_le (g : Nat → Nat) : ∀ f p, Pt.dep g f p ≤ f := by
  intro f
  induction f with
  | zero => intro p; simp [Pt.dep]
  | succ f ih =>
    intro p
    simp only [Pt.dep]
    have := top_le (l := (Pt.kids g f p).map (Pt.dep g f)) (m := f) (by intro x hx; simp at hx; obtain ⟨a, _, rfl⟩ := hx; exact ih a)
    omega
theorem top_snoc (l : List Nat) (x : Nat) : Pt.top (l ++ [x]) = max (Pt.top l) x := by
  induction l with
  | nil => simp [Pt.top]
  | cons y l ih => simp only [List.cons_append, Pt.top, ih]; omega

theorem top_take {ks : List Nat} {d : Nat → Nat} {k q : Nat} (h : ks[k]? = some q) : Pt.top ((ks.take (k + 1)).map d) = max (Pt.top ((ks.take k).map d)) (d q) := by
  rw [List.take_add_one, h]
  simp only [Option.toList_some, List.map_append, List.map_cons, List.map_nil]
  exact top_snoc _ _
theorem lkids_len (T : Nat → Bool × Nat) (g : Nat → Nat) : ∀ j p, (Pt.lkids T g j p).length ≤ j := by
  intro j
  induction j with
  | zero => intro p; simp [Pt.lkids]
  | succ j ih =>
    intro p
    unfold Pt.lkids
    split
    · simp
    · have := ih (T p).2
      simp
      omega
theorem kids_len (g : Nat → Nat) (f p : Nat) : (Pt.kids g f p).length ≤ 6 := by
  unfold Pt.kids
  split
  · simp
  · split
    · have := lkids_len (Pt.ty g f) g 5 (Pt.ty g f (p + 2)).2
      simp
      omega
    · simp

def DepthSaid (g : Nat → Nat) (f : Nat) : Prop := ∀ (p : Nat) (S : Nat → Prop) (c0 c1 c2 : Value) (w : World), Rep w S g f p c0 c1 c2 → Calls Tryz.prog 130 #[.agg #[c0, c1, c2]] w fun e w' => e = .returned (.int .i64 (Pt.dep g f p)) ∧ Below w.heap.size w w'

set_option maxRecDepth 100000 in
set_option maxHeartbeats 400000 in
theorem depth_step (g : Nat → Nat) (f : Nat) (hf : f ≤ 41) (ih : DepthSaid g f) : DepthSaid g (f + 1) := by
  intro p S c0 c1 c2 w h
  obtain ⟨rfl, rfl, xs, ho, hi⟩ := h
  obtain ⟨va, vn, vc, rfl, hvn⟩ : ∃ a n c, c2 = .slice a n c ∧ n = (Pt.kids g f p).length := by
    rcases ho.1.2 with ⟨rfl, h0⟩ | ⟨gb, cap, cur, rfl, _⟩
    · exact ⟨_, _, _, rfl, h0.symm⟩
    · exact ⟨_, _, _, rfl, rfl⟩
  have HO := (show Hid (Owns w S (.slice va vn vc) (Pt.kids g f p).length xs) from ho)
  have HI := hide hi
  have HIH := hide ih
  have HN := hide hvn
  have hvl : vn ≤ 6 := by rw [hvn]; exact kids_len g f p
  clear ho hi ih hvn
  go_enter Tryz.func130, Tryz.ntmps130
  go_wp2
  go_loopw [3, 9] (fun gr i wr => ∃ k : Nat, k ≤ vn ∧ i = .int .i64 k ∧ gr = .int .i64 (Pt.top (((Pt.kids g f p).take k).map (Pt.dep g f))) ∧ Below w.heap.size w wr) (fun _ i _ => vn - (intOf i).toNat)
  case atStart => exact ⟨0, Nat.zero_le _, rfl, rfl, (Below.refl _ _).alloc (Nat.le_refl _) _⟩
  case round =>
    obtain ⟨k, hk, rfl, rfl, hb⟩ := hrel
    obtain ⟨tk, htk⟩ : ∃ tk, tk = Pt.top (((Pt.kids g f p).take k).map (Pt.dep g f)) := ⟨_, rfl⟩
    have htl : tk ≤ f := by
      rw [htk]
      exact top_le (fun x hx => by
        obtain ⟨a, _, rfl⟩ := List.mem_map.1 hx
        exact dep_le g f a)
    rw [← htk]
    have HTK := hide htk
    clear htk
    by_cases hlt : k < vn
    · obtain ⟨q, hq⟩ : ∃ q, (Pt.kids g f p)[k]? = some q := ⟨_, List.getElem?_eq_getElem (by have := unhide HN; omega)⟩
      obtain ⟨d0, d1, d2, a0, a1, a2, hr⟩ := (unhide HI) k q hq
      obtain ⟨gb, rfl, hgb⟩ : ∃ gb, va = some ⟨gb, 0, none⟩ ∧ gb < w.heap.size := by
        rcases (unhide HO).1.2 with ⟨hv, h0⟩ | ⟨gb, cap, cur, hv, _, hh, _⟩
        · have := unhide HN; omega
        · cases hv; exact ⟨gb, rfl, lt_of_block hh⟩
      have hcl := (unhide HO).1.cells (g := gb) rfl
      have ad : ∀ o, (⟨gb, 0, none⟩ : Addr).add o = ⟨gb, o, none⟩ := fun o => by simp [Addr.add]; omega
      have f0 : wr.cell? ⟨gb, k * 3, none⟩ = some d0 := by
        rw [hb.cell (p := ⟨gb, k * 3, none⟩) hgb, ← ad, Nat.mul_comm]; exact hcl _ _ a0
      have f1 : wr.cell? ⟨gb, k * 3 + 1, none⟩ = some d1 := by
        rw [hb.cell (p := ⟨gb, k * 3 + 1, none⟩) hgb, ← ad, Nat.mul_comm]; exact hcl _ _ a1
      have f2 : wr.cell? ⟨gb, k * 3 + 2, none⟩ = some d2 := by
        rw [hb.cell (p := ⟨gb, k * 3 + 2, none⟩) hgb, ← ad, Nat.mul_comm]; exact hcl _ _ a2
      obtain ⟨⟨x0, rfl⟩, ⟨x1, rfl⟩, ⟨ea, en, ec, rfl⟩⟩ := rep_shape hr
      have hr' : ∀ o, Rep (wr.alloc o) S g f q (.int .u8 x0) (.int .i64 x1) (.slice ea en ec) := fun o => rep_above ((show Above S w wr from ⟨hb.size, fun k' _ hl => hb.block k' hl⟩).alloc o) hr
      have HR := hide hr'
      have HQ := hide hq
      clear hq hr hr' a0 a1 a2 hcl ad
      go_wp2_with fail
      refine ((unhide HIH) q S _ _ _ _ (unhide HR _)).mono ?_
      rintro e w2 ⟨rfl, hb2⟩
      obtain ⟨dq, hdq⟩ : ∃ dq, dq = Pt.dep g f q := ⟨_, rfl⟩
      have hdl : dq ≤ f := by rw [hdq]; exact dep_le g f q
      rw [← hdq]
      have HDQ := hide hdq
      have hb' : Below w.heap.size w w2 := (hb.alloc hb.size _).trans (hb2.mono (by have := hb.size; simp; omega))
      clear hdq hb2 hb f0 f1 f2
      go_wp2
      go_roundw
      case rel =>
        refine ⟨k + 1, by omega, by go_num, ?_, hb'⟩
        rw [top_take (unhide HQ), ← unhide HTK, ← unhide HDQ]
        by_cases hx : tk < dq
        · rw [if_pos hx, show max tk dq = dq by omega]
        · rw [if_neg hx, show max tk dq = tk by omega]
      case measure => simp [intOf]; omega
    · go_wp2
      go_ret
      refine ⟨?_, hb⟩
      have e1 : Pt.dep g (f + 1) p = tk + 1 := by
        rw [unhide HTK, List.take_of_length_le (by have := unhide HN; omega)]
        rfl
      rw [e1]
      rfl

theorem depth_any (g : Nat → Nat) : ∀ f, f ≤ 42 → DepthSaid g f := by
  intro f
  induction f with
  | zero => intro _ p S c0 c1 c2 w h; exact h.elim
  | succ f ih => intro hf; exact depth_step g f (by omega) (ih (by omega))
end Go.Proofs.YtblomippkddgiaaGreatDoor.V
/-
  Plain mathematics, without a program: where a type ends (the stack looked over until it is empty), the chain of the types of a list, and what a value of a type is: which items it takes, which of them are strings.
-/
namespace Go.Proofs.YtblomippkddgiaaGreatDoor.V.Pt

def bh (g : Nat → Nat) : Nat → List (Nat × Nat × Nat) → Nat → Nat
  | 0, _, p => p
  | m + 1, S, p => match goes S (g p) with
    | none => p
    | some S' => bh g m S' (p + 1)

def endsB (g : Nat → Nat) (n : Nat) (S : List (Nat × Nat × Nat)) (r : Bool × Nat) : Nat := if r.1 then bh g (n - r.2) S r.2 else r.2

theorem bh_step {g : Nat → Nat} {n p : Nat} {S S' : List (Nat × Nat × Nat)} (hp : p < n) (h : goes S (g p) = some S') : bh g (n - p) S p = bh g (n - (p + 1)) S' (p + 1) := by
  obtain ⟨m, hm⟩ : ∃ m, n - p = m + 1 := ⟨n - p - 1, by omega⟩
  rw [hm, bh, h, show n - (p + 1) = m by omega]
theorem bh_stop {g : Nat → Nat} {n p : Nat} {S : List (Nat × Nat × Nat)} (hp : p < n) (h : goes S (g p) = none) : bh g (n - p) S p = p := by
  obtain ⟨m, hm⟩ : ∃ m, n - p = m + 1 := ⟨n - p - 1, by omega⟩
  rw [hm, bh, h]
theorem bh_out {g : Nat → Nat} {n : Nat} {S : List (Nat × Nat × Nat)} : bh g (n - n) S n = n := by
  rw [Nat.sub_self, bh]
theorem bh_nil {g : Nat → Nat} {n p : Nat} : bh g (n - p) [] p = p := by
  cases h : n - p with
  | zero => rfl
  | succ m => rfl

theorem bh_dig {g : Nat → Nat} {n p h least : Nat} {S : List (Nat × Nat × Nat)} (hg : ∀ p, n ≤ p → g p = 0) (hp : p ≤ n) (hh : (h = 2 ∧ least = 1) ∨ (h = 3 ∧ least = 0)) :
    bh g (n - p) ((h, 0, 0) :: S) p = endsB g n S (dig g least p) := by
  by_cases hn : p = n
  · subst hn
    have h0 := hg p (Nat.le_refl _)
    have hd : dig g least p = (false, p) := by unfold dig; rw [if_neg (by omega)]
    rw [hd, bh_out]
    simp [endsB]
  · have hlt : p < n := by omega
    by_cases hc : 48 + least ≤ g p ∧ g p ≤ 57
    · have hd : dig g least p = (true, p + 1) := by unfold dig; rw [if_pos hc]
      have hgo : goes ((h, 0, 0) :: S) (g p) = some S := by
        rcases hh with ⟨rfl, rfl⟩ | ⟨rfl, rfl⟩
        · simp [goes]; omega
        · simp [goes]; omega
      rw [hd, bh_step hlt hgo]
      simp [endsB]
    · have hd : dig g least p = (false, p) := by unfold dig; rw [if_neg hc]
      have hgo : goes ((h, 0, 0) :: S) (g p) = none := by
        rcases hh with ⟨rfl, rfl⟩ | ⟨rfl, rfl⟩
        · simp [goes]; omega
        · simp [goes]; omega
      rw [hd, bh_stop hlt hgo]
      simp [endsB]

theorem bh_list {g : Nat → Nat} {n p k L : Nat} {S : List (Nat × Nat × Nat)} (hp : p ≤ n) (h : k = 0 ∨ (g p ≠ 41 ∧ k ≠ 6)) :
    bh g (n - p) ((5, k, L) :: S) p = bh g (n - p) ((1, 0, L) :: (5, k + 1, L) :: S) p := by
  by_cases hn : p = n
  · subst hn
    rw [bh_out, bh_out]
  · have hlt : p < n := by omega
    have hgo := goes_list (S := S) (L := L) h
    cases hx : goes ((5, k, L) :: S) (g p) with
    | none => rw [bh_stop hlt hx, bh_stop hlt (hgo ▸ hx)]
    | some S' => rw [bh_step hlt hx, bh_step hlt (hgo ▸ hx)]

def AgreeB (g : Nat → Nat) (n f : Nat) : Prop := ∀ (p k L : Nat) (S : List (Nat × Nat × Nat)), p ≤ n → n - p < f → bh g (n - p) ((1, k, L) :: S) p = endsB g n S (ty g f p)

theorem lst_mainB {g : Nat → Nat} {n f : Nat} (hg : ∀ p, n ≤ p → g p = 0) (hA : Agree g n f) (hT : AgreeB g n f) : ∀ (j p k L : Nat) (S : List (Nat × Nat × Nat)), k + j = 6 → 1 ≤ k → p ≤ n → n - p < f →
    bh g (n - p) ((5, k, L) :: S) p = endsB g n S (lst (ty g f) g j p) := by
  have close : ∀ (p k L : Nat) (S : List (Nat × Nat × Nat)), 1 ≤ k → p ≤ n → g p = 41 → bh g (n - p) ((5, k, L) :: S) p = endsB g n S (true, p + 1) := by
    intro p k L S hk hp hc
    have hlt : p < n := by
      rcases Nat.lt_or_ge p n with h | h
      · exact h
      · have := hg p h
        omega
    have hgo : goes ((5, k, L) :: S) (g p) = some S := by
      have : 0 < k := by omega
      simp [goes, hc, this]
    rw [bh_step hlt hgo]
    simp [endsB]
  intro j
  induction j with
  | zero =>
    intro p k L S hk h1 hp _
    obtain rfl : k = 6 := by omega
    by_cases hc : g p = 41
    · rw [close p 6 L S h1 hp hc]
      simp [lst, hc]
    · have e : lst (ty g f) g 0 p = (false, p) := by simp [lst, hc]
      rw [e]
      by_cases hn : p = n
      · subst hn
        rw [bh_out]
        simp [endsB]
      · rw [bh_stop (by omega) (by simp [goes, hc])]
        simp [endsB]
  | succ j ih =>
    intro p k L S hk h1 hp hf
    by_cases hc : g p = 41
    · rw [close p k L S h1 hp hc]
      simp [lst, hc]
    · rw [bh_list hp (Or.inr ⟨hc, by omega⟩), hT p 0 L ((5, k + 1, L) :: S) hp hf]
      obtain ⟨_, hb, _⟩ := hA p 0 L 0 [] hp hf
      cases hx : (ty g f p).1 with
      | false =>
        have e : lst (ty g f) g (j + 1) p = (false, (ty g f p).2) := by simp [lst, hc, hx]
        rw [e]
        simp [endsB, hx]
      | true =>
        obtain ⟨q1, q2⟩ := hb hx
        have e : lst (ty g f) g (j + 1) p = lst (ty g f) g j (ty g f p).2 := by simp [lst, hc, hx]
        rw [e, ← ih (ty g f p).2 (k + 1) L S (by omega) (by omega) q2 (by omega)]
        simp [endsB, hx]

theorem agreeB {g : Nat → Nat} {n : Nat} (hg : ∀ p, n ≤ p → g p = 0) : ∀ f, AgreeB g n f := by
  intro f
  induction f with
  | zero => intro p k L S hp hf; omega
  | succ f ih =>
    intro p k L S hp hf
    by_cases hn : p = n
    · subst hn
      have h0 := hg p (Nat.le_refl _)
      have e : ty g (f + 1) p = (false, p) := by simp [ty, h0, isLeaf]
      rw [e, bh_out]
      simp [endsB]
    have hlt : p < n := by omega
    cases hl : isLeaf (g p) with
    | true =>
      have e : ty g (f + 1) p = (true, p + 1) := by simp [ty, hl]
      have hgo : goes ((1, k, L) :: S) (g p) = some S := by rw [goes_type]; simp [begins, hl]
      rw [e, bh_step hlt hgo]
      simp [endsB]
    | false =>
    by_cases he : g p = 101
    · have e : ty g (f + 1) p = dig g 1 (p + 1) := by simp [ty, he, isLeaf]
      have hgo : goes ((1, k, L) :: S) (g p) = some ((2, 0, 0) :: S) := by rw [goes_type]; simp [begins, he, isLeaf]
      rw [e, bh_step hlt hgo, bh_dig hg (show p + 1 ≤ n by omega) (Or.inl ⟨rfl, rfl⟩)]
    by_cases ha : g p = 97 ∨ g p = 113
    · obtain ⟨h, least, hh, hgo, hty⟩ : ∃ h least, ((h = 2 ∧ least = 1) ∨ (h = 3 ∧ least = 0)) ∧ goes ((1, k, L) :: S) (g p) = some ((h, 0, 0) :: (1, 0, L + 1) :: S) ∧ ty g (f + 1) p = (if (dig g least (p + 1)).1 then ty g f (p + 2) else (false, p + 1)) := by
        rcases ha with ha | ha
        · exact ⟨2, 1, Or.inl ⟨rfl, rfl⟩, by rw [goes_type]; simp [begins, ha, isLeaf], by simp [ty, ha, isLeaf]⟩
        · exact ⟨3, 0, Or.inr ⟨rfl, rfl⟩, by rw [goes_type]; simp [begins, ha, isLeaf], by simp [ty, ha, isLeaf]⟩
      obtain ⟨_, d2, d3⟩ := run_dig (S := S) (D := 0) hg (show p + 1 ≤ n by omega) hh
      rw [bh_step hlt hgo, bh_dig hg (show p + 1 ≤ n by omega) hh, hty]
      cases hx : (dig g least (p + 1)).1 with
      | false =>
        have hq := d3 hx
        rw [if_neg (by simp)]
        simp [endsB, hx, hq]
      | true =>
        obtain ⟨hq, hlt2⟩ := d2 hx
        rw [if_pos rfl, ← ih (p + 2) 0 (L + 1) S (by omega) (by omega)]
        simp [endsB, hx, hq]
    by_cases hr : g p = 114 ∨ g p = 117
    · have n1 : ¬ g p = 97 := by omega
      have n2 : ¬ g p = 113 := by omega
      have hgo : goes ((1, k, L) :: S) (g p) = some ((4, 0, 0) :: (5, 0, L + 1) :: S) := by
        rw [goes_type]; simp [begins, hl, he, n1, n2, hr]
      have hty : ty g (f + 1) p = (if g (p + 1) = 40 then (if (ty g f (p + 2)).1 then lst (ty g f) g 5 (ty g f (p + 2)).2 else (false, (ty g f (p + 2)).2)) else (false, p + 1)) := by
        simp [ty, hl, he, n1, n2, hr]
      rw [bh_step hlt hgo, hty]
      by_cases hb : g (p + 1) = 40
      · have hlt2 : p + 1 < n := by
          rcases Nat.lt_or_ge (p + 1) n with h | h
          · exact h
          · have := hg _ h
            omega
        rw [if_pos hb, bh_step hlt2 (show goes ((4, 0, 0) :: (5, 0, L + 1) :: S) (g (p + 1)) = some ((5, 0, L + 1) :: S) by simp [goes, hb]), show p + 1 + 1 = p + 2 from rfl, bh_list (by omega) (Or.inl rfl), ih (p + 2) 0 (L + 1) _ (by omega) (by omega)]
        obtain ⟨_, ib, _⟩ := agree hg f (p + 2) 0 1 0 [] (by omega) (by omega)
        cases hx : (ty g f (p + 2)).1 with
        | false =>
          rw [if_neg (by simp)]
          simp [endsB, hx]
        | true =>
          obtain ⟨q1, q2⟩ := ib hx
          rw [if_pos rfl, ← lst_mainB hg (agree hg f) ih 5 (ty g f (p + 2)).2 1 (L + 1) S (by omega) (by omega) q2 (by omega)]
          simp [endsB, hx]
      · rw [if_neg hb]
        by_cases hn2 : p + 1 = n
        · rw [hn2, bh_out]
          simp [endsB]
        · rw [bh_stop (by omega) (by simp [goes, hb])]
          simp [endsB]
    · have n1 : ¬ g p = 97 := by omega
      have n2 : ¬ g p = 113 := by omega
      have e : ty g (f + 1) p = (false, p) := by simp [ty, hl, he, n1, n2, hr]
      have hgo : goes ((1, k, L) :: S) (g p) = none := by rw [goes_type]; simp [begins, hl, he, n1, n2, hr]
      rw [e, bh_stop hlt hgo]
      simp [endsB]

theorem behind_ty {g : Nat → Nat} {n f p : Nat} (hg : ∀ p, n ≤ p → g p = 0) (hp : p ≤ n) (hf : n - p < f) : bh g (n - p) [(1, 0, 1)] p = (ty g f p).2 := by
  rw [agreeB hg f p 0 1 [] hp hf]
  unfold endsB
  split
  · exact bh_nil
  · rfl

/- the types at the places ks follow one another from 'start' on, and a ')' behind them at c -/
def chain (T : Nat → Bool × Nat) (g : Nat → Nat) : Nat → List Nat → Nat → Prop
  | start, [], c => start = c ∧ g c = 41
  | start, k :: r, c => start = k ∧ g k ≠ 41 ∧ (T k).1 = true ∧ chain T g (T k).2 r c

theorem chain_lkids {T : Nat → Bool × Nat} {g : Nat → Nat} : ∀ (j p : Nat), (lst T g j p).1 = true → chain T g p (lkids T g j p) ((lst T g j p).2 - 1) ∧ 1 ≤ (lst T g j p).2 := by
  intro j
  induction j with
  | zero =>
    intro p h
    by_cases hc : g p = 41
    · simp [lst, hc, lkids, chain]
    · simp [lst, hc] at h
  | succ j ih =>
    intro p h
    by_cases hc : g p = 41
    · simp [lst, hc, lkids, chain]
    · cases hx : (T p).1 with
      | false => simp [lst, hc, hx] at h
      | true =>
        have e : lst T g (j + 1) p = lst T g j (T p).2 := by simp [lst, hc, hx]
        rw [e] at h ⊢
        obtain ⟨h1, h2⟩ := ih (T p).2 h
        refine ⟨?_, h2⟩
        simp only [lkids, hc, if_false]
        exact ⟨rfl, hc, hx, h1⟩

end Go.Proofs.YtblomippkddgiaaGreatDoor.V.Pt
