/-
  Joined: VRef VParts.
-/
import Derived.Test.YtblomippkddgiaaGreatDoorJ06
import Derived.Test.YtblomippkddgiaaGreatDoorJ04
import Derived.Maps.AppendAt
/-
  The document's own Check, walked: it answers what the stack of what is wanted says.
-/
namespace Go.Proofs.YtblomippkddgiaaGreatDoor.V
open Go.RowKit

def okW (M : Nat) (x : Want) : Prop := 1 ≤ x.1 ∧ x.1 ≤ 5 ∧ x.2.1 ≤ 6 ∧ x.2.2 ≤ M

theorem begins_bound {c L M : Nat} (hL : L ≤ M) : ∀ l, Pt.begins c L = some l → l.length ≤ 2 ∧ ∀ x ∈ l, okW (M + 1) x := by
  intro l hl
  unfold Pt.begins at hl
  repeat' split at hl
  all_goals (first | (cases hl; done) | skip)
  all_goals (simp only [Option.some.injEq] at hl; subst hl; simp [okW]; try omega)

theorem goes_bound {S S' : List Want} {c M : Nat} (h : ∀ x ∈ S, okW M x) (hg : Pt.goes S c = some S') : S'.length ≤ S.length + 2 ∧ ∀ x ∈ S', okW (M + 1) x := by
  match S, h, hg with
  | (a, k, L) :: R, h, hg =>
    have hx := h (a, k, L) (by simp)
    have hR : ∀ x ∈ R, okW (M + 1) x := fun x hm => by
      have := h x (by simp [hm])
      unfold okW at this ⊢
      omega
    unfold okW at hx
    simp only at hx
    have popR : some R = some S' → S'.length ≤ ((a, k, L) :: R).length + 2 ∧ ∀ x ∈ S', okW (M + 1) x := by
      intro e
      cases e
      exact ⟨by simp; omega, hR⟩
    simp only [Pt.goes] at hg
    split at hg
    · split at hg
      · exact popR hg
      · cases hg
    · split at hg
      · split at hg
        · exact popR hg
        · cases hg
      · split at hg
        · split at hg
          · exact popR hg
          · cases hg
        · split at hg
          · split at hg
            · exact popR hg
            · split at hg
              · cases hg
              · obtain ⟨l, hl, rfl⟩ := Option.map_eq_some_iff.1 hg
                obtain ⟨h1, h2⟩ := begins_bound (M := M) hx.2.2.2 l hl
                refine ⟨by simp; omega, ?_⟩
                intro x hm
                rcases List.mem_append.1 hm with hm | hm
                · exact h2 x hm
                · rcases List.mem_cons.1 hm with rfl | hm
                  · unfold okW; simp only; omega
                  · exact hR x hm
          · obtain ⟨l, hl, rfl⟩ := Option.map_eq_some_iff.1 hg
            obtain ⟨h1, h2⟩ := begins_bound (M := M) hx.2.2.2 l hl
            refine ⟨by simp; omega, ?_⟩
            intro x hm
            rcases List.mem_append.1 hm with hm | hm
            · exact h2 x hm
            · exact hR x hm

theorem nd_le {S : List Want} {c D M : Nat} (h : ∀ x ∈ S, okW M x) (hD : D ≤ M) : Pt.nd S c D ≤ M := by
  match S, h with
  | [], _ => simpa [Pt.nd] using hD
  | (a, k, L) :: R, h =>
    have hx := h (a, k, L) (by simp)
    unfold okW at hx
    simp only at hx
    simp only [Pt.nd]
    split <;> omega

structure CInv (s : ByteArray) (w : World) (res : Nat × Nat) (p D : Nat) (S : List Want) (v : Value) (wr : World) : Prop where
  le : p ≤ s.size
  stk : Stk wr w.heap.size v S
  len : S.length ≤ 2 * p + 1
  all : ∀ x ∈ S, okW (p + 1) x
  deep : D ≤ p + 1
  below : Below w.heap.size w wr
  run : Pt.run (nx s) s.size (s.size - p) S D p = res

theorem inv_first (s : ByteArray) (w : World) : CInv s w (Pt.run (nx s) s.size s.size [(1, 0, 1)] 0 0) 0 0 [(1, 0, 1)] (.slice (some ⟨w.heap.size, 0, none⟩) 1 1) (w.alloc (.cells #[.int .i64 1, .int .i64 0, .int .i64 1] 293)) := by
  refine ⟨Nat.zero_le _, stk_new w _ rfl (Nat.le_refl _) rfl (by simp [wcells, wc]) (by omega), by simp, ?_, by omega, (Below.refl _ _).alloc (Nat.le_refl _) _, rfl⟩
  intro x hx
  simp at hx
  subst hx
  unfold okW
  simp

theorem inv_next {s : ByteArray} {w wr w2 w3 : World} {res : Nat × Nat} {p D : Nat} {S S' : List Want} {v v' : Value} (I : CInv s w res p D S v wr) (hp : p < s.size) (hg : Pt.goes S (nx s p) = some S') (hb2 : Below wr.heap.size wr w2) (hs : Stk w2 wr.heap.size v' S') (hb3 : Below w2.heap.size w2 w3) :
    CInv s w res (p + 1) (Pt.nd S (nx s p) D) S' v' w3 := by
  obtain ⟨h1, h2⟩ := goes_bound I.all hg
  have hsz := I.below.size
  have hsz2 := hb2.size
  have hl := I.len
  refine ⟨hp, own_below (own_le hs hsz) hb3, by omega, h2, ?_, (I.below.trans (hb2.mono hsz)).trans (hb3.mono (by omega)), ?_⟩
  · have := nd_le (c := nx s p) I.all I.deep
    omega
  · rw [← Pt.run_step hp hg]
    exact I.run

set_option maxHeartbeats 400000 in
theorem ref_long (s : ByteArray) (w : World) (hs : ¬ s.size ≤ 40) :
    Calls Tryz.prog 147 #[.string s] w fun e w' => e = .returned (.tuple #[.int .i64 1, .int .i64 0]) ∧ Below w.heap.size w w' := by
  have h : (40 : Int) < (s.size : Int) := by omega
  clear hs
  go_enter Tryz.func147, Tryz.ntmps147
  go_wp2
  go_ret2
  exact ⟨rfl, Below.refl _ _⟩

set_option maxRecDepth 100000 in
set_option maxHeartbeats 2000000 in
theorem ref_short (s : ByteArray) (w : World) (hs : s.size ≤ 40) :
    Calls Tryz.prog 147 #[.string s] w fun e w' => e = .returned (.tuple #[.int .i64 (Pt.run (nx s) s.size s.size [(1, 0, 1)] 0 0).1, .int .i64 (Pt.run (nx s) s.size s.size [(1, 0, 1)] 0 0).2]) ∧ Below w.heap.size w w' := by
  have I0 := hide (inv_first s w)
  generalize Pt.run (nx s) s.size s.size [(1, 0, 1)] 0 0 = res at *
  have h40 : ¬ (40 : Int) < (s.size : Int) := by omega
  go_enter Tryz.func147, Tryz.ntmps147
  go_wp2
  go_loopw [4, 5, 6] (fun v dp i wr => ∃ (p D : Nat) (S : List Want), i = .int .i64 p ∧ dp = .int .i64 D ∧ CInv s w res p D S v wr) (fun _ _ i _ => s.size - (intOf i).toNat)
  case atStart => exact ⟨0, 0, _, rfl, rfl, unhide I0⟩
  case round =>
    obtain ⟨p, D, S, rfl, rfl, I⟩ := hrel
    clear I0
    have hle := I.le
    have hD := I.deep
    have hSl := I.len
    have hSw : ∀ x ∈ S, 1 ≤ x.1 ∧ x.1 ≤ 5 ∧ x.2.1 ≤ 6 ∧ x.2.2 ≤ 1000 := fun x hx => by
      have := I.all x hx
      unfold okW at this
      omega
    by_cases hlt : p < s.size
    · have hc : nx s p = (s[p]).toNat := nx_in hlt
      have HC := hide hc
      clear hc
      have hsz := I.below.size
      have HI := hide I
      have HG := hide (goes_any S u4 (s[p]).toNat wr (own_le I.stk (Nat.zero_le _)) (by omega) hSw)
      clear hSw
      cases hg : Pt.goes S (s[p]).toNat with
      | none =>
        have hres : res = (2, p) := by
          rw [← I.run]
          exact Pt.run_stop hlt (by rw [unhide HC]; exact hg)
        subst hres
        clear I
        have HGG : Hid (Calls Tryz.prog 205 #[u4, .int .u8 (s[p]).toNat] wr fun e w' => ∃ v, e = .returned (.tuple #[v, .bool false]) ∧ Below wr.heap.size wr w') := by
          refine (unhide HG).mono ?_
          rintro e w' ⟨v', rfl, hb, _⟩
          rw [hg]
          exact ⟨v', rfl, hb⟩
        clear HG hg
        go_wp2_with fail
        refine (unhide HGG).mono ?_
        rintro e w2 ⟨v2, rfl, hb2⟩
        go_wp2
        go_ret2
        exact ⟨rfl, (unhide HI).below.trans (hb2.mono hsz)⟩
      | some S' =>
        have HGG : Hid (Calls Tryz.prog 205 #[u4, .int .u8 (s[p]).toNat] wr fun e w' => ∃ v, e = .returned (.tuple #[v, .bool true]) ∧ Below wr.heap.size wr w' ∧ Stk w' wr.heap.size v S') := by
          refine (unhide HG).mono ?_
          rintro e w' ⟨v', rfl, hb, hst⟩
          rw [hg]
          exact ⟨v', rfl, hb, hst S' hg⟩
        have HS : Hid (Pt.goes S (nx s p) = some S') := by rw [unhide HC]; exact hg
        clear HG
        match S, hg, I, HI, HS with
        | [], hg, _, _, _ => simp [Pt.goes] at hg
        | (h, k, L) :: R, hg, I, HI, HS =>
          have hx := I.all (h, k, L) (by simp)
          unfold okW at hx
          simp only at hx
          obtain ⟨hx1, hx2, hx3, hx4⟩ := hx
          obtain ⟨gb, cap, rfl, hcap, hgl, _, f0, f1, f2⟩ := stk_open I.stk
          simp only at f0 f1 f2
          have hRl : R.length ≤ 100 := by have := I.len; simp at this; omega
          generalize hrr : R.length = r at *
          have HRR := hide hrr
          clear hrr hg I
          have hcs : h = 1 ∨ h = 2 ∨ h = 3 ∨ h = 4 ∨ h = 5 := by omega
          clear hx1 hx2
          rcases hcs with rfl | rfl | rfl | rfl | rfl
          · by_cases hdl : D < L
            · have hnd : Pt.nd ((1, k, L) :: R) (nx s p) D = L := by
                simp [Pt.nd, hdl]
              have HND := hide hnd
              clear hnd
              have hdI : (D : Int) < (L : Int) := by omega
              go_wp2_with fail
              refine (unhide HGG).mono ?_
              rintro e w2 ⟨v2, rfl, hb2, hst⟩
              have g0 : w2.cell? ⟨gb, r * 3, none⟩ = some (.int .i64 1) := (hb2.cell (p := ⟨gb, r * 3, none⟩) hgl).trans f0
              have g1 : w2.cell? ⟨gb, r * 3 + 1, none⟩ = some (.int .i64 k) := (hb2.cell (p := ⟨gb, r * 3 + 1, none⟩) hgl).trans f1
              have g2 : w2.cell? ⟨gb, r * 3 + 2, none⟩ = some (.int .i64 L) := (hb2.cell (p := ⟨gb, r * 3 + 2, none⟩) hgl).trans f2
              have HST := hide hst
              have HB2 := hide hb2
              clear f0 f1 f2 hst hb2
              go_wp2
              go_roundw
              case rel =>
                have J := inv_next (unhide HI) hlt (unhide HS) (unhide HB2) (unhide HST) ((Below.refl _ _).alloc (Nat.le_refl _) (.cells #[.int .i64 1, .int .i64 k, .int .i64 L] 293))
                rw [unhide HND] at J
                exact ⟨p + 1, _, _, by go_num, rfl, J⟩
              case measure => simp [intOf]; omega
            · have hnd : Pt.nd ((1, k, L) :: R) (nx s p) D = D := by
                simp [Pt.nd, hdl]
              have HND := hide hnd
              clear hnd
              have hdI : ¬ (D : Int) < (L : Int) := by omega
              go_wp2_with fail
              refine (unhide HGG).mono ?_
              rintro e w2 ⟨v2, rfl, hb2, hst⟩
              have g0 : w2.cell? ⟨gb, r * 3, none⟩ = some (.int .i64 1) := (hb2.cell (p := ⟨gb, r * 3, none⟩) hgl).trans f0
              have g1 : w2.cell? ⟨gb, r * 3 + 1, none⟩ = some (.int .i64 k) := (hb2.cell (p := ⟨gb, r * 3 + 1, none⟩) hgl).trans f1
              have g2 : w2.cell? ⟨gb, r * 3 + 2, none⟩ = some (.int .i64 L) := (hb2.cell (p := ⟨gb, r * 3 + 2, none⟩) hgl).trans f2
              have HST := hide hst
              have HB2 := hide hb2
              clear f0 f1 f2 hst hb2
              go_wp2
              go_roundw
              case rel =>
                have J := inv_next (unhide HI) hlt (unhide HS) (unhide HB2) (unhide HST) ((Below.refl _ _).alloc (Nat.le_refl _) (.cells #[.int .i64 1, .int .i64 k, .int .i64 L] 293))
                rw [unhide HND] at J
                exact ⟨p + 1, _, _, by go_num, rfl, J⟩
              case measure => simp [intOf]; omega
          · have hnd : Pt.nd ((2, k, L) :: R) (nx s p) D = D := by
              simp [Pt.nd]
            have HND := hide hnd
            clear hnd
            go_wp2_with fail
            refine (unhide HGG).mono ?_
            rintro e w2 ⟨v2, rfl, hb2, hst⟩
            have g0 : w2.cell? ⟨gb, r * 3, none⟩ = some (.int .i64 2) := (hb2.cell (p := ⟨gb, r * 3, none⟩) hgl).trans f0
            have g1 : w2.cell? ⟨gb, r * 3 + 1, none⟩ = some (.int .i64 k) := (hb2.cell (p := ⟨gb, r * 3 + 1, none⟩) hgl).trans f1
            have g2 : w2.cell? ⟨gb, r * 3 + 2, none⟩ = some (.int .i64 L) := (hb2.cell (p := ⟨gb, r * 3 + 2, none⟩) hgl).trans f2
            have HST := hide hst
            have HB2 := hide hb2
            clear f0 f1 f2 hst hb2
            go_wp2
            go_roundw
            case rel =>
              have J := inv_next (unhide HI) hlt (unhide HS) (unhide HB2) (unhide HST) ((Below.refl _ _).alloc (Nat.le_refl _) (.cells #[.int .i64 2, .int .i64 k, .int .i64 L] 293))
              rw [unhide HND] at J
              exact ⟨p + 1, _, _, by go_num, rfl, J⟩
            case measure => simp [intOf]; omega
          · have hnd : Pt.nd ((3, k, L) :: R) (nx s p) D = D := by
              simp [Pt.nd]
            have HND := hide hnd
            clear hnd
            go_wp2_with fail
            refine (unhide HGG).mono ?_
            rintro e w2 ⟨v2, rfl, hb2, hst⟩
            have g0 : w2.cell? ⟨gb, r * 3, none⟩ = some (.int .i64 3) := (hb2.cell (p := ⟨gb, r * 3, none⟩) hgl).trans f0
            have g1 : w2.cell? ⟨gb, r * 3 + 1, none⟩ = some (.int .i64 k) := (hb2.cell (p := ⟨gb, r * 3 + 1, none⟩) hgl).trans f1
            have g2 : w2.cell? ⟨gb, r * 3 + 2, none⟩ = some (.int .i64 L) := (hb2.cell (p := ⟨gb, r * 3 + 2, none⟩) hgl).trans f2
            have HST := hide hst
            have HB2 := hide hb2
            clear f0 f1 f2 hst hb2
            go_wp2
            go_roundw
            case rel =>
              have J := inv_next (unhide HI) hlt (unhide HS) (unhide HB2) (unhide HST) ((Below.refl _ _).alloc (Nat.le_refl _) (.cells #[.int .i64 3, .int .i64 k, .int .i64 L] 293))
              rw [unhide HND] at J
              exact ⟨p + 1, _, _, by go_num, rfl, J⟩
            case measure => simp [intOf]; omega
          · have hnd : Pt.nd ((4, k, L) :: R) (nx s p) D = D := by
              simp [Pt.nd]
            have HND := hide hnd
            clear hnd
            go_wp2_with fail
            refine (unhide HGG).mono ?_
            rintro e w2 ⟨v2, rfl, hb2, hst⟩
            have g0 : w2.cell? ⟨gb, r * 3, none⟩ = some (.int .i64 4) := (hb2.cell (p := ⟨gb, r * 3, none⟩) hgl).trans f0
            have g1 : w2.cell? ⟨gb, r * 3 + 1, none⟩ = some (.int .i64 k) := (hb2.cell (p := ⟨gb, r * 3 + 1, none⟩) hgl).trans f1
            have g2 : w2.cell? ⟨gb, r * 3 + 2, none⟩ = some (.int .i64 L) := (hb2.cell (p := ⟨gb, r * 3 + 2, none⟩) hgl).trans f2
            have HST := hide hst
            have HB2 := hide hb2
            clear f0 f1 f2 hst hb2
            go_wp2
            go_roundw
            case rel =>
              have J := inv_next (unhide HI) hlt (unhide HS) (unhide HB2) (unhide HST) ((Below.refl _ _).alloc (Nat.le_refl _) (.cells #[.int .i64 4, .int .i64 k, .int .i64 L] 293))
              rw [unhide HND] at J
              exact ⟨p + 1, _, _, by go_num, rfl, J⟩
            case measure => simp [intOf]; omega
          · by_cases h41 : nx s p = 41
            · have H41 := hide h41
              have hne : ((((s[p]).toNat : Nat) : Int) != 41) = false := by rw [← unhide HC, h41]; rfl
              clear h41
              have hnd : Pt.nd ((5, k, L) :: R) (nx s p) D = D := by
                simp [Pt.nd, unhide H41]
              have HND := hide hnd
              clear hnd
              go_wp2_with fail
              refine (unhide HGG).mono ?_
              rintro e w2 ⟨v2, rfl, hb2, hst⟩
              have g0 : w2.cell? ⟨gb, r * 3, none⟩ = some (.int .i64 5) := (hb2.cell (p := ⟨gb, r * 3, none⟩) hgl).trans f0
              have g1 : w2.cell? ⟨gb, r * 3 + 1, none⟩ = some (.int .i64 k) := (hb2.cell (p := ⟨gb, r * 3 + 1, none⟩) hgl).trans f1
              have g2 : w2.cell? ⟨gb, r * 3 + 2, none⟩ = some (.int .i64 L) := (hb2.cell (p := ⟨gb, r * 3 + 2, none⟩) hgl).trans f2
              have HST := hide hst
              have HB2 := hide hb2
              clear f0 f1 f2 hst hb2
              go_wp2
              go_roundw
              case rel =>
                have J := inv_next (unhide HI) hlt (unhide HS) (unhide HB2) (unhide HST) ((Below.refl _ _).alloc (Nat.le_refl _) (.cells #[.int .i64 5, .int .i64 k, .int .i64 L] 293))
                rw [unhide HND] at J
                exact ⟨p + 1, _, _, by go_num, rfl, J⟩
              case measure => simp [intOf]; omega
            · have H41 := hide h41
              have hne : ((((s[p]).toNat : Nat) : Int) != 41) = true := by rw [← unhide HC]; simp; omega
              clear h41
              by_cases hdl : D < L
              · have hnd : Pt.nd ((5, k, L) :: R) (nx s p) D = L := by
                  simp [Pt.nd, unhide H41, hdl]
                have HND := hide hnd
                clear hnd
                have hdI : (D : Int) < (L : Int) := by omega
                go_wp2_with fail
                refine (unhide HGG).mono ?_
                rintro e w2 ⟨v2, rfl, hb2, hst⟩
                have g0 : w2.cell? ⟨gb, r * 3, none⟩ = some (.int .i64 5) := (hb2.cell (p := ⟨gb, r * 3, none⟩) hgl).trans f0
                have g1 : w2.cell? ⟨gb, r * 3 + 1, none⟩ = some (.int .i64 k) := (hb2.cell (p := ⟨gb, r * 3 + 1, none⟩) hgl).trans f1
                have g2 : w2.cell? ⟨gb, r * 3 + 2, none⟩ = some (.int .i64 L) := (hb2.cell (p := ⟨gb, r * 3 + 2, none⟩) hgl).trans f2
                have HST := hide hst
                have HB2 := hide hb2
                clear f0 f1 f2 hst hb2
                go_wp2
                go_roundw
                case rel =>
                  have J := inv_next (unhide HI) hlt (unhide HS) (unhide HB2) (unhide HST) ((Below.refl _ _).alloc (Nat.le_refl _) (.cells #[.int .i64 5, .int .i64 k, .int .i64 L] 293))
                  rw [unhide HND] at J
                  exact ⟨p + 1, _, _, by go_num, rfl, J⟩
                case measure => simp [intOf]; omega
              · have hnd : Pt.nd ((5, k, L) :: R) (nx s p) D = D := by
                  simp [Pt.nd, unhide H41, hdl]
                have HND := hide hnd
                clear hnd
                have hdI : ¬ (D : Int) < (L : Int) := by omega
                go_wp2_with fail
                refine (unhide HGG).mono ?_
                rintro e w2 ⟨v2, rfl, hb2, hst⟩
                have g0 : w2.cell? ⟨gb, r * 3, none⟩ = some (.int .i64 5) := (hb2.cell (p := ⟨gb, r * 3, none⟩) hgl).trans f0
                have g1 : w2.cell? ⟨gb, r * 3 + 1, none⟩ = some (.int .i64 k) := (hb2.cell (p := ⟨gb, r * 3 + 1, none⟩) hgl).trans f1
                have g2 : w2.cell? ⟨gb, r * 3 + 2, none⟩ = some (.int .i64 L) := (hb2.cell (p := ⟨gb, r * 3 + 2, none⟩) hgl).trans f2
                have HST := hide hst
                have HB2 := hide hb2
                clear f0 f1 f2 hst hb2
                go_wp2
                go_roundw
                case rel =>
                  have J := inv_next (unhide HI) hlt (unhide HS) (unhide HB2) (unhide HST) ((Below.refl _ _).alloc (Nat.le_refl _) (.cells #[.int .i64 5, .int .i64 k, .int .i64 L] 293))
                  rw [unhide HND] at J
                  exact ⟨p + 1, _, _, by go_num, rfl, J⟩
                case measure => simp [intOf]; omega
    · have hpn : p = s.size := by omega
      have hres : res = Pt.fin s.size S D := by
        rw [← I.run, hpn, Nat.sub_self]
        rfl
      have hbb := I.below
      have hst := I.stk
      clear I
      match S, hst, hres with
      | [], hst, hres =>
        obtain ⟨a, cap, rfl⟩ : ∃ a cap, u4 = .slice a 0 cap := by
          obtain ⟨_, h⟩ := hst
          rcases h with ⟨hv, _⟩ | ⟨gb, cap, cur, hv, _⟩
          · exact ⟨_, _, hv⟩
          · exact ⟨_, _, hv⟩
        clear hst
        by_cases h4 : 4 < D
        · have hres : res = (3, 0) := by rw [hres]; simp [Pt.fin, h4]
          subst hres
          have h4' : (4 : Int) < (D : Int) := by omega
          go_wp2
          go_ret2
          exact ⟨rfl, hbb⟩
        · have hres : res = (0, 0) := by rw [hres]; simp [Pt.fin, h4]
          subst hres
          have h4' : ¬ (4 : Int) < (D : Int) := by omega
          go_wp2
          go_ret2
          exact ⟨rfl, hbb⟩
      | x :: R, hst, hres =>
        obtain ⟨gb, cap, rfl, hcap, hgl, _, f0, f1, f2⟩ := stk_open hst
        clear hst f0 f1 f2
        have hres : res = (2, s.size) := by rw [hres]; simp [Pt.fin]
        subst hres
        go_wp2
        go_ret2
        exact ⟨rfl, hbb⟩
end Go.Proofs.YtblomippkddgiaaGreatDoor.V
/-
  The landed code's partsInBrackets and, by one induction, oneType: for every text of at most 40 bytes and every place in it.
-/
namespace Go.Proofs.YtblomippkddgiaaGreatDoor.V
open Go.RowKit

theorem info63 : (Tryz.prog.info? 153).map (fun i => (i.zero, i.size, i.bytes)) = some (some (.agg #[.int .u8 0, .int .i64 0, .slice none 0 0]), 3, 40) := by kernel_rfl

/- the contract of oneType at fuel f -/
def OneSaid (b : Nat) (s : ByteArray) (f : Nat) : Prop := ∀ (p : Nat) (w : World), At w b s p → p ≤ s.size → s.size - p < f → Calls Tryz.prog 128 #[.pointer (some ⟨b, 0, none⟩)] w (TyPost b s f p w)

/- the types read so far lie in v, none of them in v's own row -/
def Inside (w : World) (B : Nat) (s : ByteArray) (f : Nat) (ks : List Nat) (v : Value) (xs : List Value) : Prop :=
  ∀ (i q : Nat), ks[i]? = some q → ∃ d0 d1 d2, xs[3 * i]? = some d0 ∧ xs[3 * i + 1]? = some d1 ∧ xs[3 * i + 2]? = some d2 ∧ Rep w (fun k => B ≤ k ∧ v.ownBlock ≠ some k) (nx s) f q d0 d1 d2

structure PInv (b f p : Nat) (s : ByteArray) (w : World) (j k q : Nat) (ks : List Nat) (v : Value) (xs : List Value) (wr : World) : Prop where
  sum : k + j = 6
  some : 1 ≤ k
  len : ks.length = k
  le : q ≤ s.size
  fuel : s.size - q < f
  reader : At wr b s q
  keeps : Keeps b w wr
  owns : wr.ownsRow w.heap.size 153 3 v k xs
  inside : Inside wr w.heap.size s f ks v xs
  rest : Pt.lst (Pt.ty (nx s) f) (nx s) 5 (Pt.ty (nx s) f (p + 1)).2 = Pt.lst (Pt.ty (nx s) f) (nx s) j q
  kids : (p + 1) :: Pt.lkids (Pt.ty (nx s) f) (nx s) 5 (Pt.ty (nx s) f (p + 1)).2 = ks ++ Pt.lkids (Pt.ty (nx s) f) (nx s) j q

def lenOf : Value → Nat | .slice _ n _ => n | _ => 0

theorem rep_shape {w : World} {S : Nat → Prop} {g : Nat → Nat} {f p : Nat} {c0 c1 c2 : Value} (h : Rep w S g f p c0 c1 c2) : (∃ x, c0 = .int .u8 x) ∧ (∃ x, c1 = .int .i64 x) ∧ (∃ a n c, c2 = .slice a n c) := by
  cases f with
  | zero => exact h.elim
  | succ f =>
    obtain ⟨h0, h1, xs, ⟨⟨_, ho⟩, _⟩, _⟩ := h
    refine ⟨⟨_, h0⟩, ⟨_, h1⟩, ?_⟩
    rcases ho with ⟨hv, _⟩ | ⟨g, cap, cur, hv, _⟩
    · exact ⟨_, _, _, hv⟩
    · exact ⟨_, _, _, hv⟩

theorem owns_cons {w : World} {B n : Nat} {v : Value} {xs : List Value} (h : w.ownsRow B 153 3 v n xs) (hn : 1 ≤ n) : ∃ g cap, v = .slice (some ⟨g, 0, none⟩) n cap ∧ B ≤ g ∧ g < w.heap.size := by
  obtain ⟨_, h⟩ := h
  rcases h with ⟨_, h0⟩ | ⟨g, cap, cur, hv, hg, hh, _⟩
  · omega
  · exact ⟨g, cap, hv, hg, lt_of_block hh⟩

theorem owns_keeps {w w' : World} {b B n : Nat} {v : Value} {xs : List Value} (h : w.ownsRow B 153 3 v n xs) (hk : Keeps b w w') (hb : b < B) : w'.ownsRow B 153 3 v n xs := by
  obtain ⟨hl, h⟩ := h
  refine ⟨hl, ?_⟩
  rcases h with h | ⟨g, cap, cur, hv, hg, hh, r⟩
  · exact Or.inl h
  · refine Or.inr ⟨g, cap, cur, hv, hg, ?_, r⟩
    rw [hk.block g (lt_of_block hh) (by omega)]
    exact hh

theorem inv_start {b f p q0 : Nat} {s : ByteArray} {w w1 w2 : World} {d0 d1 d2 : Value} (hk1 : Keeps b w w1) (hk2 : Keeps b w1 w2) (ha : At w2 b s q0) (hq : (Pt.ty (nx s) f (p + 1)).2 = q0) (hle : q0 ≤ s.size) (hf : s.size - q0 < f)
    (hr : Rep w2 (fun k => w1.heap.size ≤ k) (nx s) f (p + 1) d0 d1 d2) :
    PInv b f p s w 5 1 q0 [p + 1] (.slice (some ⟨w2.heap.size, 0, none⟩) 1 1) [d0, d1, d2] (w2.alloc (.cells #[d0, d1, d2] 153)) := by
  have hs1 := hk1.size
  have hs2 := hk2.size
  refine ⟨rfl, Nat.le_refl _, rfl, hle, hf, ha.alloc _, (hk1.trans hk2).alloc _, ?_, ?_, by rw [hq], by rw [hq]; rfl⟩
  · obtain ⟨⟨hl, ho⟩, hS⟩ := owns_new (d0 := d0) (d1 := d1) (d2 := d2) w2 rfl
    refine ⟨hl, ?_⟩
    rcases ho with ⟨h1, _⟩ | ⟨g, cap, cur, hv, hg, r⟩
    · cases h1
    · cases hv
      exact Or.inr ⟨_, _, cur, rfl, by omega, r⟩
  · intro i q hq'
    match i, hq' with
    | 0, hq' =>
      simp at hq'
      subst hq'
      refine ⟨d0, d1, d2, rfl, rfl, rfl, rep_above ((Above.refl _ _).alloc _) (rep_mono (fun k hk hlt => ⟨by omega, ?_⟩) hr)⟩
      simp only [Value.ownBlock, ne_eq, Option.some.injEq]
      omega

theorem inv_push {b f p j k q : Nat} {s : ByteArray} {w wr w2 w3 : World} {ks : List Nat} {v v' d0 d1 d2 : Value} {xs : List Value} (hbw : b < w.heap.size) (I : PInv b f p s w (j + 1) k q ks v xs wr) (hk : Keeps b wr w2)
    (ha : At w2 b s (Pt.ty (nx s) f q).2) (hT : (Pt.ty (nx s) f q).1 = true) (hb : Pt.Agree (nx s) s.size f) (hc : ¬ nx s q = 41) (hr : Rep w2 (fun k => wr.heap.size ≤ k) (nx s) f q d0 d1 d2)
    (hown : w3.ownsRow w.heap.size 153 3 v' (k + 1) (xs ++ [d0, d1, d2])) (hg : (w2.alloc (.cells #[d0, d1, d2] 153)).grownBy w3 v.ownBlock) (hat : v'.ownBlock = v.ownBlock ∨ v'.ownBlock = some (w2.alloc (.cells #[d0, d1, d2] 153)).heap.size) :
    PInv b f p s w j (k + 1) (Pt.ty (nx s) f q).2 (ks ++ [q]) v' (xs ++ [d0, d1, d2]) w3 := by
  obtain ⟨hsum, hsome, hlen, hle, hfuel, hrd, hkp, how, hin, hrest, hkids⟩ := I
  obtain ⟨g, cap, hv, hBg, hgl⟩ := owns_cons how hsome
  have hvb : v.ownBlock = some g := by rw [hv]; rfl
  obtain ⟨_, hpos, _⟩ := hb q 0 1 0 [] hle hfuel
  obtain ⟨q1, q2⟩ := hpos hT
  have hs1 := hkp.size
  have hs2 := hk.size
  have hxl : xs.length = 3 * k := by have := how.1; omega
  have hgs : (w2.alloc (.cells #[d0, d1, d2] 153)).heap.size = w2.heap.size + 1 := by simp
  have hsz3 : w2.heap.size + 1 ≤ w3.heap.size := by have := hg.size; omega
  have keep3 : ∀ k', k' < w2.heap.size → ¬ k' = g → w3.heap[k']? = w2.heap[k']? := by
    intro k' hl hn
    rw [hg.block k' (by omega) (by rw [hvb]; intro e; cases e; exact hn rfl)]
    exact Below.heap_alloc _ _ _ hl
  refine ⟨by omega, by omega, by simp [hlen], q2, by omega, ?_, ?_, hown, ?_, ?_, ?_⟩
  · unfold At at ha ⊢
    rw [keep3 b (lt_of_block ha) (by omega)]
    exact ha
  · refine ⟨?_, ?_, ?_, by omega, ?_⟩
    · exact hg.os.trans (hk.os.trans hkp.os)
    · exact hg.tape.trans (hk.tape.trans hkp.tape)
    · exact hg.output.trans (hk.output.trans hkp.output)
    · intro k' hl hn
      rw [keep3 k' (by omega) (by omega), hk.block k' (by omega) hn, hkp.block k' hl hn]
  · have ab : ∀ (S : Nat → Prop), ¬ S g → Above S w2 w3 := fun S hS => ⟨by omega, fun k' hk' hl => keep3 k' hl (fun e => hS (e ▸ hk'))⟩
    have fresh : ∀ k', k' < w2.heap.size → ¬ k' = g → v'.ownBlock ≠ some k' := by
      intro k' hl hn e
      rcases hat with h | h
      · rw [h, hvb] at e; cases e; exact hn rfl
      · rw [h, hgs] at e; cases e; omega
    intro i q' hq'
    by_cases hi : i < ks.length
    · rw [List.getElem?_append_left hi] at hq'
      obtain ⟨e0, e1, e2, a0, a1, a2, hre⟩ := hin i q' hq'
      refine ⟨e0, e1, e2, ?_, ?_, ?_, ?_⟩
      · rw [List.getElem?_append_left (by omega)]; exact a0
      · rw [List.getElem?_append_left (by omega)]; exact a1
      · rw [List.getElem?_append_left (by omega)]; exact a2
      · have h1 := rep_above (hk.above (S := fun k => w.heap.size ≤ k ∧ v.ownBlock ≠ some k) (by omega)) hre
        have h2 := rep_mono (S' := fun k => w.heap.size ≤ k ∧ v.ownBlock ≠ some k ∧ v'.ownBlock ≠ some k) (fun k' hk' hl => ⟨hk'.1, hk'.2, fresh k' hl (fun e => hk'.2 (by rw [e]; exact hvb))⟩) h1
        exact rep_mono (fun k' hk' _ => ⟨hk'.1, hk'.2.2⟩) (rep_above (ab _ (fun h => h.2.1 hvb)) h2)
    · have hi' : i = ks.length := by
        rcases Nat.lt_or_ge i (ks.length + 1) with h | h
        · omega
        · rw [List.getElem?_eq_none (by simpa using h)] at hq'
          cases hq'
      subst hi'
      rw [List.getElem?_append_right (Nat.le_refl _)] at hq'
      simp at hq'
      subst hq'
      refine ⟨d0, d1, d2, ?_, ?_, ?_, ?_⟩
      · rw [List.getElem?_append_right (by omega), show 3 * ks.length - xs.length = 0 by omega]; rfl
      · rw [List.getElem?_append_right (by omega), show 3 * ks.length + 1 - xs.length = 1 by omega]; rfl
      · rw [List.getElem?_append_right (by omega), show 3 * ks.length + 2 - xs.length = 2 by omega]; rfl
      · have h2 := rep_mono (S' := fun k => w.heap.size ≤ k ∧ ¬ k = g ∧ v'.ownBlock ≠ some k) (fun k' hk' hl => ⟨by omega, by omega, fresh k' hl (by omega)⟩) hr
        exact rep_mono (fun k' hk' _ => ⟨hk'.1, hk'.2.2⟩) (rep_above (ab _ (fun h => h.2.1 rfl)) h2)
  · rw [hrest]
    simp [Pt.lst, hc, hT]
  · rw [hkids]
    simp [Pt.lkids, hc]

def PartsPost (b : Nat) (s : ByteArray) (f p : Nat) (w : World) (e : Ending) (w' : World) : Prop :=
  if (Pt.lst (Pt.ty (nx s) f) (nx s) 5 (Pt.ty (nx s) f (p + 1)).2).1 then ∃ v, e = .returned v ∧ Keeps b w w' ∧ At w' b s (Pt.lst (Pt.ty (nx s) f) (nx s) 5 (Pt.ty (nx s) f (p + 1)).2).2 ∧ Kids w' (fun k => w.heap.size ≤ k) (nx s) f ((p + 1) :: Pt.lkids (Pt.ty (nx s) f) (nx s) 5 (Pt.ty (nx s) f (p + 1)).2) v
  else e = wrongAt (Pt.lst (Pt.ty (nx s) f) (nx s) 5 (Pt.ty (nx s) f (p + 1)).2).2 ∧ Keeps b w w'

theorem inv_end_ok {b f p j k q : Nat} {s : ByteArray} {w wr w' : World} {ks : List Nat} {v : Value} {xs : List Value} (hbw : b < w.heap.size) (I : PInv b f p s w j k q ks v xs wr) (hq : nx s q = 41) (hk : Keeps b wr w') (ha : At w' b s (q + 1)) :
    PartsPost b s f p w (.returned v) w' := by
  have e1 : Pt.lst (Pt.ty (nx s) f) (nx s) j q = (true, q + 1) := by cases j <;> simp [Pt.lst, hq]
  have e2 : Pt.lkids (Pt.ty (nx s) f) (nx s) j q = [] := by cases j <;> simp [Pt.lkids, hq]
  unfold PartsPost
  rw [I.rest, e1, I.kids, e2, List.append_nil, if_pos rfl]
  refine ⟨v, rfl, I.keeps.trans hk, ha, xs, ⟨?_, ?_⟩, ?_⟩
  · obtain ⟨hl, h⟩ := owns_keeps I.owns hk hbw
    rw [I.len]
    refine ⟨hl, ?_⟩
    rcases h with h | ⟨g, cap, cur, hv, hg, r⟩
    · exact Or.inl h
    · exact Or.inr ⟨g, cap, cur, hv, Nat.zero_le _, r⟩
  · intro k' hk'
    obtain ⟨g, cap, hv, hBg, hgl⟩ := owns_cons I.owns I.some
    rw [hv] at hk'
    cases hk'
    exact hBg
  · intro i q' hq'
    obtain ⟨d0, d1, d2, a0, a1, a2, hr⟩ := I.inside i q' hq'
    refine ⟨d0, d1, d2, a0, a1, a2, rep_mono (fun k' hk' _ => hk'.1) (rep_above (hk.above ?_) hr)⟩
    intro h
    have := h.1
    omega

theorem inv_end_no {b f p k q : Nat} {s : ByteArray} {w wr w' : World} {ks : List Nat} {v : Value} {xs : List Value} (I : PInv b f p s w 0 k q ks v xs wr) (hq : ¬ nx s q = 41) (hk : Keeps b wr w') :
    PartsPost b s f p w (wrongAt q) w' := by
  have e1 : Pt.lst (Pt.ty (nx s) f) (nx s) 0 q = (false, q) := by simp [Pt.lst, hq]
  unfold PartsPost
  rw [I.rest, e1, if_neg (by simp)]
  exact ⟨rfl, I.keeps.trans hk⟩

theorem inv_bad {b f p j k q : Nat} {s : ByteArray} {w wr w' : World} {ks : List Nat} {v : Value} {xs : List Value} (I : PInv b f p s w (j + 1) k q ks v xs wr) (hq : ¬ nx s q = 41) (hT : (Pt.ty (nx s) f q).1 = false) (hk : Keeps b wr w') :
    PartsPost b s f p w (wrongAt (Pt.ty (nx s) f q).2) w' := by
  have e1 : Pt.lst (Pt.ty (nx s) f) (nx s) (j + 1) q = (false, (Pt.ty (nx s) f q).2) := by simp [Pt.lst, hq, hT]
  unfold PartsPost
  rw [I.rest, e1, if_neg (by simp)]
  exact ⟨rfl, I.keeps.trans hk⟩

end Go.Proofs.YtblomippkddgiaaGreatDoor.V
