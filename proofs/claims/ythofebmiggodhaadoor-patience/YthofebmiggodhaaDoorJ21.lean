/-
  Joined: Right Read Read2.
-/
import Derived.Test.YthofebmiggodhaaDoorJ20
/-
  The landed code's look whether a packet is right.
-/
namespace Go.Proofs.YthofebmiggodhaaDoor
open Go.RowKit

def withinP (n lo hi : Int) (w : World) (e : Ending) (w' : World) : Prop := w' = w ∧ (((lo ≤ n ∧ n ≤ hi) ∧ e = .returned (.tuple #[])) ∨ (¬ (lo ≤ n ∧ n ≤ hi) ∧ e = gaveUp 7 0))
set_option maxRecDepth 100000 in
set_option maxHeartbeats 400000 in
theorem within_any (n lo hi : Int) (w : World) : Calls Tryd.prog 62 #[.int .i64 n, .int .i64 lo, .int .i64 hi] w (withinP n lo hi w) := by
  by_cases h1 : n < lo
  · go_enter Tryd.func62, Tryd.ntmps62
    go_wp2
    exact ⟨rfl, rfl, Or.inr ⟨by omega, rfl⟩⟩
  · by_cases h2 : hi < n
    · go_enter Tryd.func62, Tryd.ntmps62
      go_wp2
      exact ⟨rfl, rfl, Or.inr ⟨by omega, rfl⟩⟩
    · go_enter Tryd.func62, Tryd.ntmps62
      go_wp2
      go_end0
      exact ⟨rfl, Or.inl ⟨⟨by omega, by omega⟩, rfl⟩⟩

def boundsI (kind part off : Int) : Int × Int := if kind = 1 ∨ kind = 5 then (if part < off - 1 then (8, 8) else (0, 8)) else (0, 0)
theorem bounds_ok (p : Pk) : ((boundsI p.kind p.part p.off).1 ≤ (p.body.length : Int) ∧ (p.body.length : Int) ≤ (boundsI p.kind p.part p.off).2) ↔ bodyOk p := by
  unfold boundsI bodyOk
  split
  · split <;> simp <;> omega
  · simp

abbrev pvs (k c li ln sq u pa o : Int) (pl : Bool) (S : ByteArray) : Value := .agg #[.int .i64 k, .int .i64 c, .int .i64 li, .int .i64 ln, .int .i64 sq, .int .i64 u, .int .i64 pa, .int .i64 o, .bool pl, .string S]

set_option maxRecDepth 100000 in
set_option maxHeartbeats 1000000 in
theorem bounds_any (k c li ln sq u pa o : Int) (pl : Bool) (S : ByteArray) (w : World) (ho : 1 ≤ o ∧ o ≤ 9) :
    Calls Tryd.prog 63 #[pvs k c li ln sq u pa o pl S] w fun e w' => e = .returned (.tuple #[.int .i64 (boundsI k pa o).1, .int .i64 (boundsI k pa o).2]) ∧ Below w.heap.size w w' := by
  have hw : wrap64 (o - 1) = o - 1 := by unfold wrap64; omega
  have HB := hide ((Below.refl w.heap.size w).alloc (Nat.le_refl _) (.cells #[.int .i64 k, .int .i64 c, .int .i64 li, .int .i64 ln, .int .i64 sq, .int .i64 u, .int .i64 pa, .int .i64 o, .bool pl, .string S] 42))
  by_cases h1 : k = 1
  · subst h1
    by_cases h2 : pa < o - 1
    · have e : boundsI 1 pa o = (8, 8) := by simp [boundsI, h2]
      rw [e]
      go_enter Tryd.func63, Tryd.ntmps63
      go_wp2
      exact bodyPost_ret (v := .tuple #[.int .i64 8, .int .i64 8]) (by simp [results, Tryd.results63, go_sem]) rfl ⟨rfl, unhide HB⟩
    · have e : boundsI 1 pa o = (0, 8) := by simp [boundsI, h2]
      rw [e]
      go_enter Tryd.func63, Tryd.ntmps63
      go_wp2
      exact bodyPost_ret (v := .tuple #[.int .i64 0, .int .i64 8]) (by simp [results, Tryd.results63, go_sem]) rfl ⟨rfl, unhide HB⟩
  · have hk : (k != 1) = true := by simpa using h1
    by_cases h5 : k = 5
    · subst h5
      by_cases h2 : pa < o - 1
      · have e : boundsI 5 pa o = (8, 8) := by simp [boundsI, h2]
        rw [e]
        go_enter Tryd.func63, Tryd.ntmps63
        go_wp2
        exact bodyPost_ret (v := .tuple #[.int .i64 8, .int .i64 8]) (by simp [results, Tryd.results63, go_sem]) rfl ⟨rfl, unhide HB⟩
      · have e : boundsI 5 pa o = (0, 8) := by simp [boundsI, h2]
        rw [e]
        go_enter Tryd.func63, Tryd.ntmps63
        go_wp2
        exact bodyPost_ret (v := .tuple #[.int .i64 0, .int .i64 8]) (by simp [results, Tryd.results63, go_sem]) rfl ⟨rfl, unhide HB⟩
    · have hk5 : (k != 5) = true := by simpa using h5
      have e : boundsI k pa o = (0, 0) := by simp [boundsI, h1, h5]
      rw [e]
      clear h1 h5
      go_enter Tryd.func63, Tryd.ntmps63
      go_wp2
      exact bodyPost_ret (v := .tuple #[.int .i64 0, .int .i64 0]) (by simp [results, Tryd.results63, go_sem]) rfl ⟨rfl, unhide HB⟩

def rightPost (p : Pk) (w : World) (e : Ending) (w' : World) : Prop := Below w.heap.size w w' ∧ ((RightP p ∧ e = .returned (.tuple #[])) ∨ (¬ RightP p ∧ e = gaveUp 7 0))

theorem right_why {k c li ln sq u pa o : Int} {pl : Bool} {body : List UInt8} (h : RightP ⟨k, c, li, ln, sq, u, pa, o, pl, body⟩) : ((1 ≤ k ∧ k ≤ 7) ∧ (0 ≤ c ∧ c ≤ 2) ∧ (1 ≤ li ∧ li ≤ 255) ∧ (0 ≤ ln ∧ ln ≤ 2) ∧ (1 ≤ sq ∧ sq ≤ 999) ∧ (1 ≤ u ∧ u ≤ 255) ∧ (1 ≤ o ∧ o ≤ 9) ∧ (0 ≤ pa ∧ pa ≤ o - 1)) ∧ ((boundsI k pa o).1 ≤ (body.length : Int) ∧ (body.length : Int) ≤ (boundsI k pa o).2) := by
  obtain ⟨h1, h2, h3, h4, h5, h6, h7, h8, h9⟩ := h
  exact ⟨⟨h1, h2, h3, h4, h5, h6, h7, h8⟩, (bounds_ok _).2 h9⟩

set_option maxRecDepth 100000 in
set_option maxHeartbeats 4000000 in
theorem right_any (p : Pk) (w : World) : Calls Tryd.prog 44 #[pv p] w (rightPost p w) := by
  have HW := hide within_any
  have HBD := hide bounds_any
  obtain ⟨k, c, li, ln, sq, u, pa, o, pl, body⟩ := p
  have hsz := str_size body
  obtain ⟨S, hS⟩ : ∃ S, S = str body := ⟨_, rfl⟩
  have HB := hide ((Below.refl w.heap.size w).alloc (Nat.le_refl _) (.cells #[.int .i64 k, .int .i64 c, .int .i64 li, .int .i64 ln, .int .i64 sq, .int .i64 u, .int .i64 pa, .int .i64 o, .bool pl, .string S] 42))
  have HWH : Hid (RightP ⟨k, c, li, ln, sq, u, pa, o, pl, body⟩ → _) := right_why
  have HOK := hide (bounds_ok ⟨k, c, li, ln, sq, u, pa, o, pl, body⟩)
  obtain ⟨post, hpost⟩ : ∃ post, post = rightPost ⟨k, c, li, ln, sq, u, pa, o, pl, body⟩ w := ⟨_, rfl⟩
  have HNO : Hid (∀ w', Below w.heap.size w w' → ¬ RightP ⟨k, c, li, ln, sq, u, pa, o, pl, body⟩ → post (gaveUp 7 0) w') := by
    rw [hpost]
    exact fun w' hb hr => ⟨hb, Or.inr ⟨hr, rfl⟩⟩
  have HYES : Hid (∀ w', Below w.heap.size w w' → RightP ⟨k, c, li, ln, sq, u, pa, o, pl, body⟩ → post (.returned (.tuple #[])) w') := by
    rw [hpost]
    exact fun w' hb hr => ⟨hb, Or.inl ⟨hr, rfl⟩⟩
  show Calls Tryd.prog 44 #[pvs k c li ln sq u pa o pl (str body)] w _
  rw [← hS, ← hpost]
  have hsz2 : (S.size : Int) = (body.length : Int) := by rw [hS, hsz]
  clear hsz hS hpost
  go_enter Tryd.func44, Tryd.ntmps44
  go_wp2_with (first
    | (go_at_call 62; refine ((unhide HW) _ _ _ _).mono ?_; rintro e w1 ⟨rfl, ⟨hin, rfl⟩ | ⟨hout, rfl⟩⟩; rotate_left; (exact ⟨rfl, (unhide HNO) _ (unhide HB) (fun h => by have hh := ((unhide HWH) h).1; omega)⟩); have ⟨hin1, hin2⟩ := hin))
  refine ((unhide HBD) _ _ _ _ _ _ _ _ _ _ _ (by omega)).mono ?_
  rintro e w2 ⟨rfl, hb2⟩
  have hbw := hide ((unhide HB).trans (hb2.mono (by simp)))
  have c9 : w2.cell? ⟨w.heap.size, 9, none⟩ = some (.string S) := (hb2.cell (p := ⟨w.heap.size, 9, none⟩) (by simp)).trans (by simp [go_sem])
  generalize boundsI k pa o = B at *
  obtain ⟨b1, b2⟩ := B
  go_wp2_with fail
  refine ((unhide HW) _ _ _ _).mono ?_
  rintro e w1 ⟨rfl, ⟨hin, rfl⟩ | ⟨hout, rfl⟩⟩
  · go_wp2
    go_end0
    refine (unhide HYES) _ (unhide hbw) ?_
    exact ⟨by omega, by omega, by omega, by omega, by omega, by omega, by omega, by omega, (unhide HOK).1 hin⟩
  · go_wp2
    exact ⟨rfl, (unhide HNO) _ (unhide hbw) (fun h => hout ((unhide HWH) h).2)⟩

end Go.Proofs.YthofebmiggodhaaDoor
/-
  The landed code's reader of a packet, whole.
-/
namespace Go.Proofs.YthofebmiggodhaaDoor
open Go.RowKit

def sumPost (b : Nat) (l r : List UInt8) (w : World) (e : Ending) (w' : World) : Prop := Only b w w' ∧ ((sumP l r = none ∧ e = gaveUp 7 0) ∨ ∃ t, sumP l r = some t ∧ e = .returned (.tuple #[]) ∧ Rd w' b t)
theorem sum_few {l r : List UInt8} (h : r.length < 2) : sumP l r = none := by
  unfold sumP
  split
  · simp at h
    omega
  · rfl

set_option maxRecDepth 100000 in
set_option maxHeartbeats 1000000 in
theorem sum_any (b : Nat) (m r : List UInt8) (w : World) (h : Rd w b r) (hm : m.length ≤ 1000) (hl : (m ++ r).length ≤ 9223372036854775807) :
    Calls Tryd.prog 45 #[.pointer (some ⟨b, 0, none⟩), .string (str (m ++ r))] w (sumPost b (m ++ r) r w) := by
  have hr : r.length ≤ 9223372036854775807 := by rw [List.length_append] at hl; omega
  have H2 := hide (two_any b r w h hr)
  have H6 := hide (fun w => sixteen_any m w (by omega))
  have HRF := hide (fun (r : List UInt8) (w : World) (h : Rd w b r) => refuse_any b r w h)
  have h1 := h.left
  have s1 := str_size (m ++ r)
  have s2 := str_size r
  have ex : (str (m ++ r)).extract 0 m.length = str m := by rw [str_extract]; simp
  have hw : wrap64 (((str (m ++ r)).size : Int) - ((str r).size : Int)) = (m.length : Int) := by
    rw [s1, s2, List.length_append]
    unfold wrap64
    rw [List.length_append] at hl
    omega
  have hle : (m.length : Int) ≤ ((str (m ++ r)).size : Int) := by rw [s1, List.length_append]; omega
  have HT := hide (take_head m r)
  have hcr := crcI_lt m
  have hcd : ((crc m).toNat : Int) = crcI m := rfl
  rw [hcd] at H6
  generalize hC : crcI m = C at *
  generalize hS : str (m ++ r) = S at *
  generalize hR : str r = R at *
  generalize hM : str m = M at *
  generalize m.length = n at *
  clear h s1 s2 hR hcd
  go_enter Tryd.func45, Tryd.ntmps45
  go_wp2_with fail
  refine (unhide H2).mono ?_
  rintro e w1 ⟨hk1, ⟨hlt, rfl⟩ | ⟨a, c, t, rfl, rfl, hr1⟩⟩
  · go_wp2
    exact ⟨rfl, hk1, Or.inl ⟨sum_few hlt, rfl⟩⟩
  · by_cases hne : num2 a c = C
    · have hb : (num2 a c != C) = false := by simpa using hne
      have HR := hide hr1
      clear hr1 HRF
      have HN := hide hne
      clear hne
      go_wp2_with fail
      refine ((unhide H6) _).mono ?_
      rintro e w2 ⟨rfl, rfl⟩
      go_wp2
      go_end0
      refine ⟨hk1, Or.inr ⟨t, ?_, rfl, unhide HR⟩⟩
      show (if num2 a c = crcI ((m ++ a :: c :: t).take ((m ++ a :: c :: t).length - (a :: c :: t).length)) then some t else none) = some t
      rw [unhide HT, hC, if_pos (unhide HN)]
    · have hb : (num2 a c != C) = true := by simpa using hne
      have HX := hide ((unhide HRF) t w1 hr1)
      clear hr1 HRF
      have HN := hide hne
      clear hne
      go_wp2_with fail
      refine ((unhide H6) _).mono ?_
      rintro e w2 ⟨rfl, rfl⟩
      go_wp2_with fail
      refine (unhide HX).mono ?_
      rintro e w3 ⟨rfl, rfl⟩
      go_wp2
      refine ⟨rfl, hk1, Or.inl ⟨?_, rfl⟩⟩
      show (if num2 a c = crcI ((m ++ a :: c :: t).take ((m ++ a :: c :: t).length - (a :: c :: t).length)) then some t else none) = none
      rw [unhide HT, hC, if_neg (unhide HN)]

end Go.Proofs.YthofebmiggodhaaDoor
/-
  The landed code's reader of a packet: Read.
-/
namespace Go.Proofs.YthofebmiggodhaaDoor
open Go.RowKit

def readPost (l : List UInt8) (w : World) (e : Ending) (w' : World) : Prop := Below w.heap.size w w' ∧ ((readP l = none ∧ e = gaveUp 7 0) ∨ ∃ p, readP l = some p ∧ e = .returned (pv p))

theorem fields_len {l : List UInt8} {p : Pk} {r : List UInt8} (h : fieldsP l = some (p, r)) : p.body.length ≤ 255 := by
  unfold fieldsP at h
  split at h
  · split at h
    · rename_i L t hc
      cases h
      simp only [List.length_take]
      have := L.toNat_lt
      omega
    · cases h
  · cases h

theorem read_no1 {l : List UInt8} (h : fieldsP l = none) : readP l = none := by
  unfold readP
  rw [h]
theorem read_no2 {l r : List UInt8} {p : Pk} (h : fieldsP l = some (p, r)) (hr : ¬ RightP p) : readP l = none := by
  unfold readP
  rw [h]
  simp only
  rw [if_neg hr]
theorem read_no3 {l r : List UInt8} {p : Pk} (h : fieldsP l = some (p, r)) (hs : sumP l r = none) : readP l = none := by
  unfold readP
  rw [h]
  simp only
  split
  · rw [hs]
  · rfl
theorem read_no4 {l r t : List UInt8} {p : Pk} (h : fieldsP l = some (p, r)) (hs : sumP l r = some t) (ht : t ≠ []) : readP l = none := by
  unfold readP
  rw [h]
  simp only
  split
  · rw [hs]
    cases t with
    | nil => exact absurd rfl ht
    | cons _ _ => rfl
  · rfl
theorem read_yes {l r : List UInt8} {p : Pk} (h : fieldsP l = some (p, r)) (hr : RightP p) (hs : sumP l r = some []) : readP l = some p := by
  unfold readP
  rw [h]
  simp only
  rw [if_pos hr, hs]

theorem sum_len {l r t : List UInt8} (h : sumP l r = some t) : t.length ≤ r.length := by
  unfold sumP at h
  split at h
  · split at h
    · cases h
      simp
      omega
    · cases h
  · cases h

abbrev rdW (w : World) (l : List UInt8) : World := (w.alloc (.cells zeroCells 42)).alloc (.cells #[.string (str l), .int .i64 7] 96)
theorem rdW_rd (w : World) (l : List UInt8) : Rd (rdW w l) (w.heap.size + 1) l := by
  unfold Rd
  have := heap_alloc_new (w.alloc (.cells zeroCells 42)) (.cells #[.string (str l), .int .i64 7] 96)
  rw [show (w.alloc (.cells zeroCells 42)).heap.size = w.heap.size + 1 by simp] at this
  exact this
theorem rdW_zero (w : World) (l : List UInt8) : (rdW w l).heap[w.heap.size]? = some (.cells zeroCells 42 (0, 0)) := by
  rw [Below.heap_alloc _ _ _ (by simp)]
  exact heap_alloc_new w _
theorem rdW_below (w : World) (l : List UInt8) : Below w.heap.size w (rdW w l) := ((Below.refl _ _).alloc (Nat.le_refl _) _).alloc (by simp) _

set_option maxRecDepth 100000 in
set_option maxHeartbeats 2000000 in
theorem read_any (l : List UInt8) (w : World) (hl : l.length ≤ 9223372036854775807) : Calls Tryd.prog 27 #[.string (str l)] w (readPost l w) := by
  have HF := hide (fields_any (w.heap.size + 1) l (rdW w l) (rdW_rd w l) hl)
  have hW0 : (rdW w l).heap.size = w.heap.size + 2 := by simp
  obtain ⟨post, hpost⟩ : ∃ post, post = readPost l w := ⟨_, rfl⟩
  have HNO : Hid (∀ w', Below w.heap.size w w' → readP l = none → post (gaveUp 7 0) w') := by
    rw [hpost]
    exact fun w' hb hr => ⟨hb, Or.inl ⟨hr, rfl⟩⟩
  have HYES : Hid (∀ w' p, Below w.heap.size w w' → readP l = some p → post (.returned (pv p)) w') := by
    rw [hpost]
    exact fun w' p hb hr => ⟨hb, Or.inr ⟨p, hr, rfl⟩⟩
  have HZ := hide (rdW_zero w l)
  have HB0 := hide (rdW_below w l)
  rw [← hpost]
  clear hpost
  go_enter Tryd.func27, Tryd.ntmps27
  go_wp2_with fail
  refine (unhide HF).mono ?_
  rintro e w1 ⟨hk1, ⟨hn, rfl⟩ | ⟨p, r, hp, rfl, hr1⟩⟩
  · go_wp2
    exact ⟨rfl, (unhide HNO) _ ((unhide HB0).trans (hk1.below.mono (by omega))) (read_no1 hn)⟩
  · have hs1 := hk1.size
    have HB1 := hide ((unhide HB0).trans (hk1.below.mono (by omega : w.heap.size ≤ w.heap.size + 1)))
    have HZ1 := hide ((hk1.block _ (by omega) (by omega)).trans (unhide HZ))
    have HLEN := hide (fields_len hp)
    have HHD := hide (fields_some hp)
    have HP := hide hp
    have HR1 := hide hr1
    have hlt1 := hr1.lt
    clear hp hr1 hk1 HF
    have HRT := hide (fun w => right_any p w)
    obtain ⟨k, c, li, ln, sq, u, pa, o, pl, body⟩ := p
    go_wp2_with fail
    refine ((unhide HRT) _).mono ?_
    rintro e w3 ⟨hb3, ⟨hrt, rfl⟩ | ⟨hnr, rfl⟩⟩
    · have hs3 := hb3.size
      have HB3 := hide (((unhide HB1).alloc (by omega) (.cells #[.int .i64 k, .int .i64 c, .int .i64 li, .int .i64 ln, .int .i64 sq, .int .i64 u, .int .i64 pa, .int .i64 o, .bool pl, .string (str body)] 42)).trans (hb3.mono (by simp; omega)))
      have hk3 := (hb3.block w1.heap.size (by simp)).trans (heap_alloc_new w1 _)
      have hz3 := (hb3.block w.heap.size (by simp; omega)).trans ((Below.heap_alloc w1 _ _ (by omega)).trans (unhide HZ1))
      have hr3 : Rd w3 (w.heap.size + 1) r := by
        have h := unhide HR1
        unfold Rd at h ⊢
        rw [hb3.block _ (by simp; omega), Below.heap_alloc _ _ _ hlt1]
        exact h
      have hlr : r.length ≤ 9223372036854775807 := by
        have := congrArg List.length (unhide HHD)
        rw [List.length_append] at this
        omega
      have hsum := sum_any (w.heap.size + 1) (headB ⟨k, c, li, ln, sq, u, pa, o, pl, body⟩) r w3 hr3 (by have := headB_length ⟨k, c, li, ln, sq, u, pa, o, pl, body⟩; have h2 := unhide HLEN; simp only at this; omega) (by rw [← unhide HHD]; exact hl)
      rw [← unhide HHD] at hsum
      have HS := hide hsum
      have HRT' := hide hrt
      simp at hs3
      clear hsum hr3 hb3 hrt HRT HR1 HZ1 HZ HB0
      go_wp2_with fail
      refine (unhide HS).mono ?_
      rintro e w4 ⟨hk4, ⟨hs, rfl⟩ | ⟨t, hs, rfl, hr4⟩⟩
      · go_wp2
        exact ⟨rfl, (unhide HNO) _ ((unhide HB3).trans (hk4.below.mono (by omega))) (read_no3 (unhide HP) hs)⟩
      · have HE := hide (end_any (w.heap.size + 1) t w4 hr4 (by have := sum_len hs; omega))
        have HB4 := hide ((unhide HB3).trans (hk4.below.mono (by omega : w.heap.size ≤ w.heap.size + 1)))
        have hk := (hk4.block _ (by omega) (by omega)).trans hk3
        have hz := (hk4.block _ (by omega) (by omega)).trans hz3
        have HSS := hide hs
        clear hs hk4 hr4 hk3 hz3 HS HB3
        by_cases ht : t = []
        · subst ht
          have e0 := cell_of hk 0 _ rfl
          have e1 := cell_of hk 1 _ rfl
          have e2 := cell_of hk 2 _ rfl
          have e3 := cell_of hk 3 _ rfl
          have e4 := cell_of hk 4 _ rfl
          have e5 := cell_of hk 5 _ rfl
          have e6 := cell_of hk 6 _ rfl
          have e7 := cell_of hk 7 _ rfl
          have e8 := cell_of hk 8 _ rfl
          have e9 := cell_of hk 9 _ rfl
          have c0 := cell_of hz 0 _ rfl
          have c1 := cell_of hz 1 _ rfl
          have c2 := cell_of hz 2 _ rfl
          have c3 := cell_of hz 3 _ rfl
          have c4 := cell_of hz 4 _ rfl
          have c5 := cell_of hz 5 _ rfl
          have c6 := cell_of hz 6 _ rfl
          have c7 := cell_of hz 7 _ rfl
          have c8 := cell_of hz 8 _ rfl
          have c9 := cell_of hz 9 _ rfl
          have cz := thaw_of hz
          clear hk hz
          go_wp2_with fail
          refine (unhide HE).mono ?_
          rintro e w5 ⟨rfl, rfl⟩
          go_wp2
          refine bodyPost_ret (v := pv ⟨k, c, li, ln, sq, u, pa, o, pl, body⟩) (by simp [results, Tryd.results27, go_sem, c0, c1, c2, c3, c4, c5, c6, c7, c8, c9]) rfl ((unhide HYES) _ _ ?_ (read_yes (unhide HP) (unhide HRT') (unhide HSS)))
          exact ((((((((((unhide HB4).setCell (by simp) _).setCell (by simp) _).setCell (by simp) _).setCell (by simp) _).setCell (by simp) _).setCell (by simp) _).setCell (by simp) _).setCell (by simp) _).setCell (by simp) _).setCell (by simp) _
        · have HE2 := HE
          rw [if_neg ht] at HE2
          clear HE hk hz
          go_wp2_with fail
          refine (unhide HE2).mono ?_
          rintro e w5 ⟨rfl, rfl⟩
          go_wp2
          exact ⟨rfl, (unhide HNO) _ (unhide HB4) (read_no4 (unhide HP) (unhide HSS) ht)⟩
    · go_wp2
      exact ⟨rfl, (unhide HNO) _ (((unhide HB1).alloc (by omega) _).trans (hb3.mono (by simp; omega))) (read_no2 (unhide HP) hnr)⟩
end Go.Proofs.YthofebmiggodhaaDoor
