/-
  Joined: VRef.
-/
import Derived.Test.YtblomippkddgiaaGreatDoorJ07
/-
  The document's own Check, walked: it answers what the stack of what is wanted says.
-/
namespace Go.Proofs.YtblomippkddgiaaGreatDoor.V
open Go.RowKit

def okW (M : Nat) (x : Want) : Prop := 1 ≤ x.1 ∧ x.1 ≤ 5 ∧ x.2.1 ≤ 6 ∧ x.2.2 ≤ M

theorem begins_bound {c L M : Nat} (hL : L ≤ M) : ∀ l, Pt.begins c L = some l → l.length ≤ 2 ∧ ∀ x ∈ l, okW (M + 1) x := by
  intro l hl
  unfold Pt.begins at hl
  repeat' split at hl
  all_goals (first | (cases hl; done) | skip)
  all_goals (simp only [Option.some.injEq] at hl; subst hl; simp [okW]; try omega)

theorem goes_bound {S S' : List Want} {c M : Nat} (h : ∀ x ∈ S, okW M x) (hg : Pt.goes S c = some S') : S'.length ≤ S.length + 2 ∧ ∀ x ∈ S', okW (M + 1) x := by
  match S, h, hg with
  | (a, k, L) :: R, h, hg =>
    have hx := h (a, k, L) (by simp)
    have hR : ∀ x ∈ R, okW (M + 1) x := fun x hm => by
      have := h x (by simp [hm])
      unfold okW at this ⊢
      omega
    unfold okW at hx
    simp only at hx
    have popR : some R = some S' → S'.length ≤ ((a, k, L) :: R).length + 2 ∧ ∀ x ∈ S', okW (M + 1) x := by
      intro e
      cases e
      exact ⟨by simp; omega, hR⟩
    simp only [Pt.goes] at hg
    split at hg
    · split at hg
      · exact popR hg
      · cases hg
    · split at hg
      · split at hg
        · exact popR hg
        · cases hg
      · split at hg
        · split at hg
          · exact popR hg
          · cases hg
        · split at hg
          · split at hg
            · exact popR hg
            · split at hg
              · cases hg
              · obtain ⟨l, hl, rfl⟩ := Option.map_eq_some_iff.1 hg
                obtain ⟨h1, h2⟩ := begins_bound (M := M) hx.2.2.2 l hl
                refine ⟨by simp; omega, ?_⟩
                intro x hm
                rcases List.mem_append.1 hm with hm | hm
                · exact h2 x hm
                · rcases List.mem_cons.1 hm with rfl | hm
                  · unfold okW; simp only; omega
                  · exact hR x hm
          · obtain ⟨l, hl, rfl⟩ := Option.map_eq_some_iff.1 hg
            obtain ⟨h1, h2⟩ := begins_bound (M := M) hx.2.2.2 l hl
            refine ⟨by simp; omega, ?_⟩
            intro x hm
            rcases List.mem_append.1 hm with hm | hm
            · exact h2 x hm
            · exact hR x hm

theorem nd_le {S : List Want} {c D M : Nat} (h : ∀ x ∈ S, okW M x) (hD : D ≤ M) : Pt.nd S c D ≤ M := by
  match S, h with
  | [], _ => simpa [Pt.nd] using hD
  | (a, k, L) :: R, h =>
    have hx := h (a, k, L) (by simp)
    unfold okW at hx
    simp only at hx
    simp only [Pt.nd]
    split <;> omega

structure CInv (s : ByteArray) (w : World) (res : Nat × Nat) (p D : Nat) (S : List Want) (v : Value) (wr : World) : Prop where
  le : p ≤ s.size
  stk : Stk wr w.heap.size v S
  len : S.length ≤ 2 * p + 1
  all : ∀ x ∈ S, okW (p + 1) x
  deep : D ≤ p + 1
  below : Below w.heap.size w wr
  run : Pt.run (nx s) s.size (s.size - p) S D p = res

theorem inv_first (s : ByteArray) (w : World) : CInv s w (Pt.run (nx s) s.size s.size [(1, 0, 1)] 0 0) 0 0 [(1, 0, 1)] (.slice (some ⟨w.heap.size, 0, none⟩) 1 1) (w.alloc (.cells #[.int .i64 1, .int .i64 0, .int .i64 1] 293)) := by
  refine ⟨Nat.zero_le _, stk_new w _ rfl (Nat.le_refl _) rfl (by simp [wcells, wc]) (by omega), by simp, ?_, by omega, (Below.refl _ _).alloc (Nat.le_refl _) _, rfl⟩
  intro x hx
  simp at hx
  subst hx
  unfold okW
  simp

theorem inv_next {s : ByteArray} {w wr w2 w3 : World} {res : Nat × Nat} {p D : Nat} {S S' : List Want} {v v' : Value} (I : CInv s w res p D S v wr) (hp : p < s.size) (hg : Pt.goes S (nx s p) = some S') (hb2 : Below wr.heap.size wr w2) (hs : Stk w2 wr.heap.size v' S') (hb3 : Below w2.heap.size w2 w3) :
    CInv s w res (p + 1) (Pt.nd S (nx s p) D) S' v' w3 := by
  obtain ⟨h1, h2⟩ := goes_bound I.all hg
  have hsz := I.below.size
  have hsz2 := hb2.size
  have hl := I.len
  refine ⟨hp, own_below (own_le hs hsz) hb3, by omega, h2, ?_, (I.below.trans (hb2.mono hsz)).trans (hb3.mono (by omega)), ?_⟩
  · have := nd_le (c := nx s p) I.all I.deep
    omega
  · rw [← Pt.run_step hp hg]
    exact I.run

set_option maxHeartbeats 400000 in
theorem ref_long (s : ByteArray) (w : World) (hs : ¬ s.size ≤ 40) :
    Calls Tryz.prog 147 #[.string s] w fun e w' => e = .returned (.tuple #[.int .i64 1, .int .i64 0]) ∧ Below w.heap.size w w' := by
  have h : (40 : Int) < (s.size : Int) := by omega
  clear hs
  go_enter Tryz.func147, Tryz.ntmps147
  go_wp2
  go_ret2
  exact ⟨rfl, Below.refl _ _⟩

set_option maxRecDepth 100000 in
set_option maxHeartbeats 2000000 in
theorem ref_short (s : ByteArray) (w : World) (hs : s.size ≤ 40) :
    Calls Tryz.prog 147 #[.string s] w fun e w' => e = .returned (.tuple #[.int .i64 (Pt.run (nx s) s.size s.size [(1, 0, 1)] 0 0).1, .int .i64 (Pt.run (nx s) s.size s.size [(1, 0, 1)] 0 0).2]) ∧ Below w.heap.size w w' := by
  have I0 := hide (inv_first s w)
  generalize Pt.run (nx s) s.size s.size [(1, 0, 1)] 0 0 = res at *
  have h40 : ¬ (40 : Int) < (s.size : Int) := by omega
  go_enter Tryz.func147, Tryz.ntmps147
  go_wp2
  go_loopw [4, 5, 6] (fun v dp i wr => ∃ (p D : Nat) (S : List Want), i = .int .i64 p ∧ dp = .int .i64 D ∧ CInv s w res p D S v wr) (fun _ _ i _ => s.size - (intOf i).toNat)
  case atStart => exact ⟨0, 0, _, rfl, rfl, unhide I0⟩
  case round =>
    obtain ⟨p, D, S, rfl, rfl, I⟩ := hrel
    clear I0
    have hle := I.le
    have hD := I.deep
    have hSl := I.len
    have hSw : ∀ x ∈ S, 1 ≤ x.1 ∧ x.1 ≤ 5 ∧ x.2.1 ≤ 6 ∧ x.2.2 ≤ 1000 := fun x hx => by
      have := I.all x hx
      unfold okW at this
      omega
    by_cases hlt : p < s.size
    · have hc : nx s p = (s[p]).toNat := nx_in hlt
      have HC := hide hc
      clear hc
      have hsz := I.below.size
      have HI := hide I
      have HG := hide (goes_any S u4 (s[p]).toNat wr (own_le I.stk (Nat.zero_le _)) (by omega) hSw)
      clear hSw
      cases hg : Pt.goes S (s[p]).toNat with
      | none =>
        have hres : res = (2, p) := by
          rw [← I.run]
          exact Pt.run_stop hlt (by rw [unhide HC]; exact hg)
        subst hres
        clear I
        have HGG : Hid (Calls Tryz.prog 205 #[u4, .int .u8 (s[p]).toNat] wr fun e w' => ∃ v, e = .returned (.tuple #[v, .bool false]) ∧ Below wr.heap.size wr w') := by
          refine (unhide HG).mono ?_
          rintro e w' ⟨v', rfl, hb, _⟩
          rw [hg]
          exact ⟨v', rfl, hb⟩
        clear HG hg
        go_wp2_with fail
        refine (unhide HGG).mono ?_
        rintro e w2 ⟨v2, rfl, hb2⟩
        go_wp2
        go_ret2
        exact ⟨rfl, (unhide HI).below.trans (hb2.mono hsz)⟩
      | some S' =>
        have HGG : Hid (Calls Tryz.prog 205 #[u4, .int .u8 (s[p]).toNat] wr fun e w' => ∃ v, e = .returned (.tuple #[v, .bool true]) ∧ Below wr.heap.size wr w' ∧ Stk w' wr.heap.size v S') := by
          refine (unhide HG).mono ?_
          rintro e w' ⟨v', rfl, hb, hst⟩
          rw [hg]
          exact ⟨v', rfl, hb, hst S' hg⟩
        have HS : Hid (Pt.goes S (nx s p) = some S') := by rw [unhide HC]; exact hg
        clear HG
        match S, hg, I, HI, HS with
        | [], hg, _, _, _ => simp [Pt.goes] at hg
        | (h, k, L) :: R, hg, I, HI, HS =>
          have hx := I.all (h, k, L) (by simp)
          unfold okW at hx
          simp only at hx
          obtain ⟨hx1, hx2, hx3, hx4⟩ := hx
          obtain ⟨gb, cap, rfl, hcap, hgl, _, f0, f1, f2⟩ := stk_open I.stk
          simp only at f0 f1 f2
          have hRl : R.length ≤ 100 := by have := I.len; simp at this; omega
          generalize hrr : R.length = r at *
          have HRR := hide hrr
          clear hrr hg I
          have hcs : h = 1 ∨ h = 2 ∨ h = 3 ∨ h = 4 ∨ h = 5 := by omega
          clear hx1 hx2
          rcases hcs with rfl | rfl | rfl | rfl | rfl
          · by_cases hdl : D < L
            · have hnd : Pt.nd ((1, k, L) :: R) (nx s p) D = L := by
                simp [Pt.nd, hdl]
              have HND := hide hnd
              clear hnd
              have hdI : (D : Int) < (L : Int) := by omega
              go_wp2_with fail
              refine (unhide HGG).mono ?_
              rintro e w2 ⟨v2, rfl, hb2, hst⟩
              have g0 : w2.cell? ⟨gb, r * 3, none⟩ = some (.int .i64 1) := (hb2.cell (p := ⟨gb, r * 3, none⟩) hgl).trans f0
              have g1 : w2.cell? ⟨gb, r * 3 + 1, none⟩ = some (.int .i64 k) := (hb2.cell (p := ⟨gb, r * 3 + 1, none⟩) hgl).trans f1
              have g2 : w2.cell? ⟨gb, r * 3 + 2, none⟩ = some (.int .i64 L) := (hb2.cell (p := ⟨gb, r * 3 + 2, none⟩) hgl).trans f2
              have HST := hide hst
              have HB2 := hide hb2
              clear f0 f1 f2 hst hb2
              go_wp2
              go_roundw
              case rel =>
                have J := inv_next (unhide HI) hlt (unhide HS) (unhide HB2) (unhide HST) ((Below.refl _ _).alloc (Nat.le_refl _) (.cells #[.int .i64 1, .int .i64 k, .int .i64 L] 293))
                rw [unhide HND] at J
                exact ⟨p + 1, _, _, by go_num, rfl, J⟩
              case measure => simp [intOf]; omega
            · have hnd : Pt.nd ((1, k, L) :: R) (nx s p) D = D := by
                simp [Pt.nd, hdl]
              have HND := hide hnd
              clear hnd
              have hdI : ¬ (D : Int) < (L : Int) := by omega
              go_wp2_with fail
              refine (unhide HGG).mono ?_
              rintro e w2 ⟨v2, rfl, hb2, hst⟩
              have g0 : w2.cell? ⟨gb, r * 3, none⟩ = some (.int .i64 1) := (hb2.cell (p := ⟨gb, r * 3, none⟩) hgl).trans f0
              have g1 : w2.cell? ⟨gb, r * 3 + 1, none⟩ = some (.int .i64 k) := (hb2.cell (p := ⟨gb, r * 3 + 1, none⟩) hgl).trans f1
              have g2 : w2.cell? ⟨gb, r * 3 + 2, none⟩ = some (.int .i64 L) := (hb2.cell (p := ⟨gb, r * 3 + 2, none⟩) hgl).trans f2
              have HST := hide hst
              have HB2 := hide hb2
              clear f0 f1 f2 hst hb2
              go_wp2
              go_roundw
              case rel =>
                have J := inv_next (unhide HI) hlt (unhide HS) (unhide HB2) (unhide HST) ((Below.refl _ _).alloc (Nat.le_refl _) (.cells #[.int .i64 1, .int .i64 k, .int .i64 L] 293))
                rw [unhide HND] at J
                exact ⟨p + 1, _, _, by go_num, rfl, J⟩
              case measure => simp [intOf]; omega
          · have hnd : Pt.nd ((2, k, L) :: R) (nx s p) D = D := by
              simp [Pt.nd]
            have HND := hide hnd
            clear hnd
            go_wp2_with fail
            refine (unhide HGG).mono ?_
            rintro e w2 ⟨v2, rfl, hb2, hst⟩
            have g0 : w2.cell? ⟨gb, r * 3, none⟩ = some (.int .i64 2) := (hb2.cell (p := ⟨gb, r * 3, none⟩) hgl).trans f0
            have g1 : w2.cell? ⟨gb, r * 3 + 1, none⟩ = some (.int .i64 k) := (hb2.cell (p := ⟨gb, r * 3 + 1, none⟩) hgl).trans f1
            have g2 : w2.cell? ⟨gb, r * 3 + 2, none⟩ = some (.int .i64 L) := (hb2.cell (p := ⟨gb, r * 3 + 2, none⟩) hgl).trans f2
            have HST := hide hst
            have HB2 := hide hb2
            clear f0 f1 f2 hst hb2
            go_wp2
            go_roundw
            case rel =>
              have J := inv_next (unhide HI) hlt (unhide HS) (unhide HB2) (unhide HST) ((Below.refl _ _).alloc (Nat.le_refl _) (.cells #[.int .i64 2, .int .i64 k, .int .i64 L] 293))
              rw [unhide HND] at J
              exact ⟨p + 1, _, _, by go_num, rfl, J⟩
            case measure => simp [intOf]; omega
          · have hnd : Pt.nd ((3, k, L) :: R) (nx s p) D = D := by
              simp [Pt.nd]
            have HND := hide hnd
            clear hnd
            go_wp2_with fail
            refine (unhide HGG).mono ?_
            rintro e w2 ⟨v2, rfl, hb2, hst⟩
            have g0 : w2.cell? ⟨gb, r * 3, none⟩ = some (.int .i64 3) := (hb2.cell (p := ⟨gb, r * 3, none⟩) hgl).trans f0
            have g1 : w2.cell? ⟨gb, r * 3 + 1, none⟩ = some (.int .i64 k) := (hb2.cell (p := ⟨gb, r * 3 + 1, none⟩) hgl).trans f1
            have g2 : w2.cell? ⟨gb, r * 3 + 2, none⟩ = some (.int .i64 L) := (hb2.cell (p := ⟨gb, r * 3 + 2, none⟩) hgl).trans f2
            have HST := hide hst
            have HB2 := hide hb2
            clear f0 f1 f2 hst hb2
            go_wp2
            go_roundw
            case rel =>
              have J := inv_next (unhide HI) hlt (unhide HS) (unhide HB2) (unhide HST) ((Below.refl _ _).alloc (Nat.le_refl _) (.cells #[.int .i64 3, .int .i64 k, .int .i64 L] 293))
              rw [unhide HND] at J
              exact ⟨p + 1, _, _, by go_num, rfl, J⟩
            case measure => simp [intOf]; omega
          · have hnd : Pt.nd ((4, k, L) :: R) (nx s p) D = D := by
              simp [Pt.nd]
            have HND := hide hnd
            clear hnd
            go_wp2_with fail
            refine (unhide HGG).mono ?_
            rintro e w2 ⟨v2, rfl, hb2, hst⟩
            have g0 : w2.cell? ⟨gb, r * 3, none⟩ = some (.int .i64 4) := (hb2.cell (p := ⟨gb, r * 3, none⟩) hgl).trans f0
            have g1 : w2.cell? ⟨gb, r * 3 + 1, none⟩ = some (.int .i64 k) := (hb2.cell (p := ⟨gb, r * 3 + 1, none⟩) hgl).trans f1
            have g2 : w2.cell? ⟨gb, r * 3 + 2, none⟩ = some (.int .i64 L) := (hb2.cell (p := ⟨gb, r * 3 + 2, none⟩) hgl).trans f2
            have HST := hide hst
            have HB2 := hide hb2
            clear f0 f1 f2 hst hb2
            go_wp2
            go_roundw
            case rel =>
              have J := inv_next (unhide HI) hlt (unhide HS) (unhide HB2) (unhide HST) ((Below.refl _ _).alloc (Nat.le_refl _) (.cells #[.int .i64 4, .int .i64 k, .int .i64 L] 293))
              rw [unhide HND] at J
              exact ⟨p + 1, _, _, by go_num, rfl, J⟩
            case measure => simp [intOf]; omega
          · by_cases h41 : nx s p = 41
            · have H41 := hide h41
              have hne : ((((s[p]).toNat : Nat) : Int) != 41) = false := by rw [← unhide HC, h41]; rfl
              clear h41
              have hnd : Pt.nd ((5, k, L) :: R) (nx s p) D = D := by
                simp [Pt.nd, unhide H41]
              have HND := hide hnd
              clear hnd
              go_wp2_with fail
              refine (unhide HGG).mono ?_
              rintro e w2 ⟨v2, rfl, hb2, hst⟩
              have g0 : w2.cell? ⟨gb, r * 3, none⟩ = some (.int .i64 5) := (hb2.cell (p := ⟨gb, r * 3, none⟩) hgl).trans f0
              have g1 : w2.cell? ⟨gb, r * 3 + 1, none⟩ = some (.int .i64 k) := (hb2.cell (p := ⟨gb, r * 3 + 1, none⟩) hgl).trans f1
              have g2 : w2.cell? ⟨gb, r * 3 + 2, none⟩ = some (.int .i64 L) := (hb2.cell (p := ⟨gb, r * 3 + 2, none⟩) hgl).trans f2
              have HST := hide hst
              have HB2 := hide hb2
              clear f0 f1 f2 hst hb2
              go_wp2
              go_roundw
              case rel =>
                have J := inv_next (unhide HI) hlt (unhide HS) (unhide HB2) (unhide HST) ((Below.refl _ _).alloc (Nat.le_refl _) (.cells #[.int .i64 5, .int .i64 k, .int .i64 L] 293))
                rw [unhide HND] at J
                exact ⟨p + 1, _, _, by go_num, rfl, J⟩
              case measure => simp [intOf]; omega
            · have H41 := hide h41
              have hne : ((((s[p]).toNat : Nat) : Int) != 41) = true := by rw [← unhide HC]; simp; omega
              clear h41
              by_cases hdl : D < L
              · have hnd : Pt.nd ((5, k, L) :: R) (nx s p) D = L := by
                  simp [Pt.nd, unhide H41, hdl]
                have HND := hide hnd
                clear hnd
                have hdI : (D : Int) < (L : Int) := by omega
                go_wp2_with fail
                refine (unhide HGG).mono ?_
                rintro e w2 ⟨v2, rfl, hb2, hst⟩
                have g0 : w2.cell? ⟨gb, r * 3, none⟩ = some (.int .i64 5) := (hb2.cell (p := ⟨gb, r * 3, none⟩) hgl).trans f0
                have g1 : w2.cell? ⟨gb, r * 3 + 1, none⟩ = some (.int .i64 k) := (hb2.cell (p := ⟨gb, r * 3 + 1, none⟩) hgl).trans f1
                have g2 : w2.cell? ⟨gb, r * 3 + 2, none⟩ = some (.int .i64 L) := (hb2.cell (p := ⟨gb, r * 3 + 2, none⟩) hgl).trans f2
                have HST := hide hst
                have HB2 := hide hb2
                clear f0 f1 f2 hst hb2
                go_wp2
                go_roundw
                case rel =>
                  have J := inv_next (unhide HI) hlt (unhide HS) (unhide HB2) (unhide HST) ((Below.refl _ _).alloc (Nat.le_refl _) (.cells #[.int .i64 5, .int .i64 k, .int .i64 L] 293))
                  rw [unhide HND] at J
                  exact ⟨p + 1, _, _, by go_num, rfl, J⟩
                case measure => simp [intOf]; omega
              · have hnd : Pt.nd ((5, k, L) :: R) (nx s p) D = D := by
                  simp [Pt.nd, unhide H41, hdl]
                have HND := hide hnd
                clear hnd
                have hdI : ¬ (D : Int) < (L : Int) := by omega
                go_wp2_with fail
                refine (unhide HGG).mono ?_
                rintro e w2 ⟨v2, rfl, hb2, hst⟩
                have g0 : w2.cell? ⟨gb, r * 3, none⟩ = some (.int .i64 5) := (hb2.cell (p := ⟨gb, r * 3, none⟩) hgl).trans f0
                have g1 : w2.cell? ⟨gb, r * 3 + 1, none⟩ = some (.int .i64 k) := (hb2.cell (p := ⟨gb, r * 3 + 1, none⟩) hgl).trans f1
                have g2 : w2.cell? ⟨gb, r * 3 + 2, none⟩ = some (.int .i64 L) := (hb2.cell (p := ⟨gb, r * 3 + 2, none⟩) hgl).trans f2
                have HST := hide hst
                have HB2 := hide hb2
                clear f0 f1 f2 hst hb2
                go_wp2
                go_roundw
                case rel =>
                  have J := inv_next (unhide HI) hlt (unhide HS) (unhide HB2) (unhide HST) ((Below.refl _ _).alloc (Nat.le_refl _) (.cells #[.int .i64 5, .int .i64 k, .int .i64 L] 293))
                  rw [unhide HND] at J
                  exact ⟨p + 1, _, _, by go_num, rfl, J⟩
                case measure => simp [intOf]; omega
    · have hpn : p = s.size := by omega
      have hres : res = Pt.fin s.size S D := by
        rw [← I.run, hpn, Nat.sub_self]
        rfl
      have hbb := I.below
      have hst := I.stk
      clear I
      match S, hst, hres with
      | [], hst, hres =>
        obtain ⟨a, cap, rfl⟩ : ∃ a cap, u4 = .slice a 0 cap := by
          obtain ⟨_, h⟩ := hst
          rcases h with ⟨hv, _⟩ | ⟨gb, cap, cur, hv, _⟩
          · exact ⟨_, _, hv⟩
          · exact ⟨_, _, hv⟩
        clear hst
        by_cases h4 : 4 < D
        · have hres : res = (3, 0) := by rw [hres]; simp [Pt.fin, h4]
          subst hres
          have h4' : (4 : Int) < (D : Int) := by omega
          go_wp2
          go_ret2
          exact ⟨rfl, hbb⟩
        · have hres : res = (0, 0) := by rw [hres]; simp [Pt.fin, h4]
          subst hres
          have h4' : ¬ (4 : Int) < (D : Int) := by omega
          go_wp2
          go_ret2
          exact ⟨rfl, hbb⟩
      | x :: R, hst, hres =>
        obtain ⟨gb, cap, rfl, hcap, hgl, _, f0, f1, f2⟩ := stk_open hst
        clear hst f0 f1 f2
        have hres : res = (2, s.size) := by rw [hres]; simp [Pt.fin]
        subst hres
        go_wp2
        go_ret2
        exact ⟨rfl, hbb⟩
end Go.Proofs.YtblomippkddgiaaGreatDoor.V
