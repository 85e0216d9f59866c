/-
  Joined: Right Read Read2 Open.
-/
import Derived.Test.YtblomippkddgiaaGreatDoorJ31
/-
  The landed code's look whether a packet is right.
-/
namespace Go.Proofs.YtblomippkddgiaaGreatDoor
open Go.RowKit

def withinP (n lo hi : Int) (w : World) (e : Ending) (w' : World) : Prop := w' = w ∧ (((lo ≤ n ∧ n ≤ hi) ∧ e = .returned (.tuple #[])) ∨ (¬ (lo ≤ n ∧ n ≤ hi) ∧ e = gaveUp 7 0))
set_option maxRecDepth 100000 in
set_option maxHeartbeats 400000 in
theorem within_any (n lo hi : Int) (w : World) : Calls Tryz.prog 117 #[.int .i64 n, .int .i64 lo, .int .i64 hi] w (withinP n lo hi w) := by
  by_cases h1 : n < lo
  · go_enter Tryz.func117, Tryz.ntmps117
    go_wp2
    exact ⟨rfl, rfl, Or.inr ⟨by omega, rfl⟩⟩
  · by_cases h2 : hi < n
    · go_enter Tryz.func117, Tryz.ntmps117
      go_wp2
      exact ⟨rfl, rfl, Or.inr ⟨by omega, rfl⟩⟩
    · go_enter Tryz.func117, Tryz.ntmps117
      go_wp2
      go_end0
      exact ⟨rfl, Or.inl ⟨⟨by omega, by omega⟩, rfl⟩⟩

def boundsI (kind part off : Int) : Int × Int := if kind = 1 ∨ kind = 5 then (if part < off - 1 then (8, 8) else (0, 8)) else (0, 0)
theorem bounds_ok (p : Pk) : ((boundsI p.kind p.part p.off).1 ≤ (p.body.length : Int) ∧ (p.body.length : Int) ≤ (boundsI p.kind p.part p.off).2) ↔ bodyOk p := by
  unfold boundsI bodyOk
  split
  · split <;> simp <;> omega
  · simp

abbrev pvs (k c li ln sq u pa o : Int) (pl : Bool) (S : ByteArray) : Value := .agg #[.int .i64 k, .int .i64 c, .int .i64 li, .int .i64 ln, .int .i64 sq, .int .i64 u, .int .i64 pa, .int .i64 o, .bool pl, .string S]

set_option maxRecDepth 100000 in
set_option maxHeartbeats 1000000 in
theorem bounds_any (k c li ln sq u pa o : Int) (pl : Bool) (S : ByteArray) (w : World) (ho : 1 ≤ o ∧ o ≤ 9) :
    Calls Tryz.prog 118 #[pvs k c li ln sq u pa o pl S] w fun e w' => e = .returned (.tuple #[.int .i64 (boundsI k pa o).1, .int .i64 (boundsI k pa o).2]) ∧ Below w.heap.size w w' := by
  have hw : wrap64 (o - 1) = o - 1 := by unfold wrap64; omega
  have HB := hide ((Below.refl w.heap.size w).alloc (Nat.le_refl _) (.cells #[.int .i64 k, .int .i64 c, .int .i64 li, .int .i64 ln, .int .i64 sq, .int .i64 u, .int .i64 pa, .int .i64 o, .bool pl, .string S] 41))
  by_cases h1 : k = 1
  · subst h1
    by_cases h2 : pa < o - 1
    · have e : boundsI 1 pa o = (8, 8) := by simp [boundsI, h2]
      rw [e]
      go_enter Tryz.func118, Tryz.ntmps118
      go_wp2
      exact bodyPost_ret (v := .tuple #[.int .i64 8, .int .i64 8]) (by simp [results, Tryz.results118, go_sem]) rfl ⟨rfl, unhide HB⟩
    · have e : boundsI 1 pa o = (0, 8) := by simp [boundsI, h2]
      rw [e]
      go_enter Tryz.func118, Tryz.ntmps118
      go_wp2
      exact bodyPost_ret (v := .tuple #[.int .i64 0, .int .i64 8]) (by simp [results, Tryz.results118, go_sem]) rfl ⟨rfl, unhide HB⟩
  · have hk : (k != 1) = true := by simpa using h1
    by_cases h5 : k = 5
    · subst h5
      by_cases h2 : pa < o - 1
      · have e : boundsI 5 pa o = (8, 8) := by simp [boundsI, h2]
        rw [e]
        go_enter Tryz.func118, Tryz.ntmps118
        go_wp2
        exact bodyPost_ret (v := .tuple #[.int .i64 8, .int .i64 8]) (by simp [results, Tryz.results118, go_sem]) rfl ⟨rfl, unhide HB⟩
      · have e : boundsI 5 pa o = (0, 8) := by simp [boundsI, h2]
        rw [e]
        go_enter Tryz.func118, Tryz.ntmps118
        go_wp2
        exact bodyPost_ret (v := .tuple #[.int .i64 0, .int .i64 8]) (by simp [results, Tryz.results118, go_sem]) rfl ⟨rfl, unhide HB⟩
    · have hk5 : (k != 5) = true := by simpa using h5
      have e : boundsI k pa o = (0, 0) := by simp [boundsI, h1, h5]
      rw [e]
      clear h1 h5
      go_enter Tryz.func118, Tryz.ntmps118
      go_wp2
      exact bodyPost_ret (v := .tuple #[.int .i64 0, .int .i64 0]) (by simp [results, Tryz.results118, go_sem]) rfl ⟨rfl, unhide HB⟩

def rightPost (p : Pk) (w : World) (e : Ending) (w' : World) : Prop := Below w.heap.size w w' ∧ ((RightP p ∧ e = .returned (.tuple #[])) ∨ (¬ RightP p ∧ e = gaveUp 7 0))

theorem right_why {k c li ln sq u pa o : Int} {pl : Bool} {body : List UInt8} (h : RightP ⟨k, c, li, ln, sq, u, pa, o, pl, body⟩) : ((1 ≤ k ∧ k ≤ 7) ∧ (0 ≤ c ∧ c ≤ 2) ∧ (1 ≤ li ∧ li ≤ 255) ∧ (0 ≤ ln ∧ ln ≤ 2) ∧ (1 ≤ sq ∧ sq ≤ 999) ∧ (1 ≤ u ∧ u ≤ 255) ∧ (1 ≤ o ∧ o ≤ 9) ∧ (0 ≤ pa ∧ pa ≤ o - 1)) ∧ ((boundsI k pa o).1 ≤ (body.length : Int) ∧ (body.length : Int) ≤ (boundsI k pa o).2) := by
  obtain ⟨h1, h2, h3, h4, h5, h6, h7, h8, h9⟩ := h
  exact ⟨⟨h1, h2, h3, h4, h5, h6, h7, h8⟩, (bounds_ok _).2 h9⟩

set_option maxRecDepth 100000 in
set_option maxHeartbeats 4000000 in
theorem right_any (p : Pk) (w : World) : Calls Tryz.prog 67 #[pv p] w (rightPost p w) := by
  have HW := hide within_any
  have HBD := hide bounds_any
  obtain ⟨k, c, li, ln, sq, u, pa, o, pl, body⟩ := p
  have hsz := str_size body
  obtain ⟨S, hS⟩ : ∃ S, S = str body := ⟨_, rfl⟩
  have HB := hide ((Below.refl w.heap.size w).alloc (Nat.le_refl _) (.cells #[.int .i64 k, .int .i64 c, .int .i64 li, .int .i64 ln, .int .i64 sq, .int .i64 u, .int .i64 pa, .int .i64 o, .bool pl, .string S] 41))
  have HWH : Hid (RightP ⟨k, c, li, ln, sq, u, pa, o, pl, body⟩ → _) := right_why
  have HOK := hide (bounds_ok ⟨k, c, li, ln, sq, u, pa, o, pl, body⟩)
  obtain ⟨post, hpost⟩ : ∃ post, post = rightPost ⟨k, c, li, ln, sq, u, pa, o, pl, body⟩ w := ⟨_, rfl⟩
  have HNO : Hid (∀ w', Below w.heap.size w w' → ¬ RightP ⟨k, c, li, ln, sq, u, pa, o, pl, body⟩ → post (gaveUp 7 0) w') := by
    rw [hpost]
    exact fun w' hb hr => ⟨hb, Or.inr ⟨hr, rfl⟩⟩
  have HYES : Hid (∀ w', Below w.heap.size w w' → RightP ⟨k, c, li, ln, sq, u, pa, o, pl, body⟩ → post (.returned (.tuple #[])) w') := by
    rw [hpost]
    exact fun w' hb hr => ⟨hb, Or.inl ⟨hr, rfl⟩⟩
  show Calls Tryz.prog 67 #[pvs k c li ln sq u pa o pl (str body)] w _
  rw [← hS, ← hpost]
  have hsz2 : (S.size : Int) = (body.length : Int) := by rw [hS, hsz]
  clear hsz hS hpost
  go_enter Tryz.func67, Tryz.ntmps67
  go_wp2_with (first
    | (go_at_call 117; refine ((unhide HW) _ _ _ _).mono ?_; rintro e w1 ⟨rfl, ⟨hin, rfl⟩ | ⟨hout, rfl⟩⟩; rotate_left; (exact ⟨rfl, (unhide HNO) _ (unhide HB) (fun h => by have hh := ((unhide HWH) h).1; omega)⟩); have ⟨hin1, hin2⟩ := hin))
  refine ((unhide HBD) _ _ _ _ _ _ _ _ _ _ _ (by omega)).mono ?_
  rintro e w2 ⟨rfl, hb2⟩
  have hbw := hide ((unhide HB).trans (hb2.mono (by simp)))
  have c9 : w2.cell? ⟨w.heap.size, 9, none⟩ = some (.string S) := (hb2.cell (p := ⟨w.heap.size, 9, none⟩) (by simp)).trans (by simp [go_sem])
  generalize boundsI k pa o = B at *
  obtain ⟨b1, b2⟩ := B
  go_wp2_with fail
  refine ((unhide HW) _ _ _ _).mono ?_
  rintro e w1 ⟨rfl, ⟨hin, rfl⟩ | ⟨hout, rfl⟩⟩
  · go_wp2
    go_end0
    refine (unhide HYES) _ (unhide hbw) ?_
    exact ⟨by omega, by omega, by omega, by omega, by omega, by omega, by omega, by omega, (unhide HOK).1 hin⟩
  · go_wp2
    exact ⟨rfl, (unhide HNO) _ (unhide hbw) (fun h => hout ((unhide HWH) h).2)⟩

end Go.Proofs.YtblomippkddgiaaGreatDoor
/-
  The landed code's reader of a packet, whole.
-/
namespace Go.Proofs.YtblomippkddgiaaGreatDoor
open Go.RowKit

def sumPost (b : Nat) (l r : List UInt8) (w : World) (e : Ending) (w' : World) : Prop := Only b w w' ∧ ((sumP l r = none ∧ e = gaveUp 7 0) ∨ ∃ t, sumP l r = some t ∧ e = .returned (.tuple #[]) ∧ Rd w' b t)
theorem sum_few {l r : List UInt8} (h : r.length < 2) : sumP l r = none := by
  unfold sumP
  split
  · simp at h
    omega
  · rfl

set_option maxRecDepth 100000 in
set_option maxHeartbeats 1000000 in
theorem sum_any (b : Nat) (m r : List UInt8) (w : World) (h : Rd w b r) (hm : m.length ≤ 1000) (hl : (m ++ r).length ≤ 9223372036854775807) :
    Calls Tryz.prog 68 #[.pointer (some ⟨b, 0, none⟩), .string (str (m ++ r))] w (sumPost b (m ++ r) r w) := by
  have hr : r.length ≤ 9223372036854775807 := by rw [List.length_append] at hl; omega
  have H2 := hide (two_any b r w h hr)
  have H6 := hide (fun w => sixteen_any m w (by omega))
  have HRF := hide (fun (r : List UInt8) (w : World) (h : Rd w b r) => refuse_any b r w h)
  have h1 := h.left
  have s1 := str_size (m ++ r)
  have s2 := str_size r
  have ex : (str (m ++ r)).extract 0 m.length = str m := by rw [str_extract]; simp
  have hw : wrap64 (((str (m ++ r)).size : Int) - ((str r).size : Int)) = (m.length : Int) := by
    rw [s1, s2, List.length_append]
    unfold wrap64
    rw [List.length_append] at hl
    omega
  have hle : (m.length : Int) ≤ ((str (m ++ r)).size : Int) := by rw [s1, List.length_append]; omega
  have HT := hide (take_head m r)
  have hcr := crcI_lt m
  have hcd : ((crc m).toNat : Int) = crcI m := rfl
  rw [hcd] at H6
  generalize hC : crcI m = C at *
  generalize hS : str (m ++ r) = S at *
  generalize hR : str r = R at *
  generalize hM : str m = M at *
  generalize m.length = n at *
  clear h s1 s2 hR hcd
  go_enter Tryz.func68, Tryz.ntmps68
  go_wp2_with fail
  refine (unhide H2).mono ?_
  rintro e w1 ⟨hk1, ⟨hlt, rfl⟩ | ⟨a, c, t, rfl, rfl, hr1⟩⟩
  · go_wp2
    exact ⟨rfl, hk1, Or.inl ⟨sum_few hlt, rfl⟩⟩
  · by_cases hne : num2 a c = C
    · have hb : (num2 a c != C) = false := by simpa using hne
      have HR := hide hr1
      clear hr1 HRF
      have HN := hide hne
      clear hne
      go_wp2_with fail
      refine ((unhide H6) _).mono ?_
      rintro e w2 ⟨rfl, rfl⟩
      go_wp2
      go_end0
      refine ⟨hk1, Or.inr ⟨t, ?_, rfl, unhide HR⟩⟩
      show (if num2 a c = crcI ((m ++ a :: c :: t).take ((m ++ a :: c :: t).length - (a :: c :: t).length)) then some t else none) = some t
      rw [unhide HT, hC, if_pos (unhide HN)]
    · have hb : (num2 a c != C) = true := by simpa using hne
      have HX := hide ((unhide HRF) t w1 hr1)
      clear hr1 HRF
      have HN := hide hne
      clear hne
      go_wp2_with fail
      refine ((unhide H6) _).mono ?_
      rintro e w2 ⟨rfl, rfl⟩
      go_wp2_with fail
      refine (unhide HX).mono ?_
      rintro e w3 ⟨rfl, rfl⟩
      go_wp2
      refine ⟨rfl, hk1, Or.inl ⟨?_, rfl⟩⟩
      show (if num2 a c = crcI ((m ++ a :: c :: t).take ((m ++ a :: c :: t).length - (a :: c :: t).length)) then some t else none) = none
      rw [unhide HT, hC, if_neg (unhide HN)]

end Go.Proofs.YtblomippkddgiaaGreatDoor
/-
  The landed code's reader of a packet: Read.
-/
namespace Go.Proofs.YtblomippkddgiaaGreatDoor
open Go.RowKit

def readPost (l : List UInt8) (w : World) (e : Ending) (w' : World) : Prop := Below w.heap.size w w' ∧ ((readP l = none ∧ e = gaveUp 7 0) ∨ ∃ p, readP l = some p ∧ e = .returned (pv p))

theorem fields_len {l : List UInt8} {p : Pk} {r : List UInt8} (h : fieldsP l = some (p, r)) : p.body.length ≤ 255 := by
  unfold fieldsP at h
  split at h
  · split at h
    · rename_i L t hc
      cases h
      simp only [List.length_take]
      have := L.toNat_lt
      omega
    · cases h
  · cases h

theorem read_no1 {l : List UInt8} (h : fieldsP l = none) : readP l = none := by
  unfold readP
  rw [h]
theorem read_no2 {l r : List UInt8} {p : Pk} (h : fieldsP l = some (p, r)) (hr : ¬ RightP p) : readP l = none := by
  unfold readP
  rw [h]
  simp only
  rw [if_neg hr]
theorem read_no3 {l r : List UInt8} {p : Pk} (h : fieldsP l = some (p, r)) (hs : sumP l r = none) : readP l = none := by
  unfold readP
  rw [h]
  simp only
  split
  · rw [hs]
  · rfl
theorem read_no4 {l r t : List UInt8} {p : Pk} (h : fieldsP l = some (p, r)) (hs : sumP l r = some t) (ht : t ≠ []) : readP l = none := by
  unfold readP
  rw [h]
  simp only
  split
  · rw [hs]
    cases t with
    | nil => exact absurd rfl ht
    | cons _ _ => rfl
  · rfl
theorem read_yes {l r : List UInt8} {p : Pk} (h : fieldsP l = some (p, r)) (hr : RightP p) (hs : sumP l r = some []) : readP l = some p := by
  unfold readP
  rw [h]
  simp only
  rw [if_pos hr, hs]

theorem sum_len {l r t : List UInt8} (h : sumP l r = some t) : t.length ≤ r.length := by
  unfold sumP at h
  split at h
  · split at h
    · cases h
      simp
      omega
    · cases h
  · cases h

abbrev rdW (w : World) (l : List UInt8) : World := (w.alloc (.cells zeroCells 41)).alloc (.cells #[.string (str l), .int .i64 7] 127)
theorem rdW_rd (w : World) (l : List UInt8) : Rd (rdW w l) (w.heap.size + 1) l := by
  unfold Rd
  have := heap_alloc_new (w.alloc (.cells zeroCells 41)) (.cells #[.string (str l), .int .i64 7] 127)
  rw [show (w.alloc (.cells zeroCells 41)).heap.size = w.heap.size + 1 by simp] at this
  exact this
theorem rdW_zero (w : World) (l : List UInt8) : (rdW w l).heap[w.heap.size]? = some (.cells zeroCells 41 (0, 0)) := by
  rw [Below.heap_alloc _ _ _ (by simp)]
  exact heap_alloc_new w _
theorem rdW_below (w : World) (l : List UInt8) : Below w.heap.size w (rdW w l) := ((Below.refl _ _).alloc (Nat.le_refl _) _).alloc (by simp) _

set_option maxRecDepth 100000 in
set_option maxHeartbeats 2000000 in
theorem read_any (l : List UInt8) (w : World) (hl : l.length ≤ 9223372036854775807) : Calls Tryz.prog 35 #[.string (str l)] w (readPost l w) := by
  have HF := hide (fields_any (w.heap.size + 1) l (rdW w l) (rdW_rd w l) hl)
  have hW0 : (rdW w l).heap.size = w.heap.size + 2 := by simp
  obtain ⟨post, hpost⟩ : ∃ post, post = readPost l w := ⟨_, rfl⟩
  have HNO : Hid (∀ w', Below w.heap.size w w' → readP l = none → post (gaveUp 7 0) w') := by
    rw [hpost]
    exact fun w' hb hr => ⟨hb, Or.inl ⟨hr, rfl⟩⟩
  have HYES : Hid (∀ w' p, Below w.heap.size w w' → readP l = some p → post (.returned (pv p)) w') := by
    rw [hpost]
    exact fun w' p hb hr => ⟨hb, Or.inr ⟨p, hr, rfl⟩⟩
  have HZ := hide (rdW_zero w l)
  have HB0 := hide (rdW_below w l)
  rw [← hpost]
  clear hpost
  go_enter Tryz.func35, Tryz.ntmps35
  go_wp2_with fail
  refine (unhide HF).mono ?_
  rintro e w1 ⟨hk1, ⟨hn, rfl⟩ | ⟨p, r, hp, rfl, hr1⟩⟩
  · go_wp2
    exact ⟨rfl, (unhide HNO) _ ((unhide HB0).trans (hk1.below.mono (by omega))) (read_no1 hn)⟩
  · have hs1 := hk1.size
    have HB1 := hide ((unhide HB0).trans (hk1.below.mono (by omega : w.heap.size ≤ w.heap.size + 1)))
    have HZ1 := hide ((hk1.block _ (by omega) (by omega)).trans (unhide HZ))
    have HLEN := hide (fields_len hp)
    have HHD := hide (fields_some hp)
    have HP := hide hp
    have HR1 := hide hr1
    have hlt1 := hr1.lt
    clear hp hr1 hk1 HF
    have HRT := hide (fun w => right_any p w)
    obtain ⟨k, c, li, ln, sq, u, pa, o, pl, body⟩ := p
    go_wp2_with fail
    refine ((unhide HRT) _).mono ?_
    rintro e w3 ⟨hb3, ⟨hrt, rfl⟩ | ⟨hnr, rfl⟩⟩
    · have hs3 := hb3.size
      have HB3 := hide (((unhide HB1).alloc (by omega) (.cells #[.int .i64 k, .int .i64 c, .int .i64 li, .int .i64 ln, .int .i64 sq, .int .i64 u, .int .i64 pa, .int .i64 o, .bool pl, .string (str body)] 41)).trans (hb3.mono (by simp; omega)))
      have hk3 := (hb3.block w1.heap.size (by simp)).trans (heap_alloc_new w1 _)
      have hz3 := (hb3.block w.heap.size (by simp; omega)).trans ((Below.heap_alloc w1 _ _ (by omega)).trans (unhide HZ1))
      have hr3 : Rd w3 (w.heap.size + 1) r := by
        have h := unhide HR1
        unfold Rd at h ⊢
        rw [hb3.block _ (by simp; omega), Below.heap_alloc _ _ _ hlt1]
        exact h
      have hlr : r.length ≤ 9223372036854775807 := by
        have := congrArg List.length (unhide HHD)
        rw [List.length_append] at this
        omega
      have hsum := sum_any (w.heap.size + 1) (headB ⟨k, c, li, ln, sq, u, pa, o, pl, body⟩) r w3 hr3 (by have := headB_length ⟨k, c, li, ln, sq, u, pa, o, pl, body⟩; have h2 := unhide HLEN; simp only at this; omega) (by rw [← unhide HHD]; exact hl)
      rw [← unhide HHD] at hsum
      have HS := hide hsum
      have HRT' := hide hrt
      simp at hs3
      clear hsum hr3 hb3 hrt HRT HR1 HZ1 HZ HB0
      go_wp2_with fail
      refine (unhide HS).mono ?_
      rintro e w4 ⟨hk4, ⟨hs, rfl⟩ | ⟨t, hs, rfl, hr4⟩⟩
      · go_wp2
        exact ⟨rfl, (unhide HNO) _ ((unhide HB3).trans (hk4.below.mono (by omega))) (read_no3 (unhide HP) hs)⟩
      · have HE := hide (end_any (w.heap.size + 1) t w4 hr4 (by have := sum_len hs; omega))
        have HB4 := hide ((unhide HB3).trans (hk4.below.mono (by omega : w.heap.size ≤ w.heap.size + 1)))
        have hk := (hk4.block _ (by omega) (by omega)).trans hk3
        have hz := (hk4.block _ (by omega) (by omega)).trans hz3
        have HSS := hide hs
        clear hs hk4 hr4 hk3 hz3 HS HB3
        by_cases ht : t = []
        · subst ht
          have e0 := cell_of hk 0 _ rfl
          have e1 := cell_of hk 1 _ rfl
          have e2 := cell_of hk 2 _ rfl
          have e3 := cell_of hk 3 _ rfl
          have e4 := cell_of hk 4 _ rfl
          have e5 := cell_of hk 5 _ rfl
          have e6 := cell_of hk 6 _ rfl
          have e7 := cell_of hk 7 _ rfl
          have e8 := cell_of hk 8 _ rfl
          have e9 := cell_of hk 9 _ rfl
          have c0 := cell_of hz 0 _ rfl
          have c1 := cell_of hz 1 _ rfl
          have c2 := cell_of hz 2 _ rfl
          have c3 := cell_of hz 3 _ rfl
          have c4 := cell_of hz 4 _ rfl
          have c5 := cell_of hz 5 _ rfl
          have c6 := cell_of hz 6 _ rfl
          have c7 := cell_of hz 7 _ rfl
          have c8 := cell_of hz 8 _ rfl
          have c9 := cell_of hz 9 _ rfl
          have cz := thaw_of hz
          clear hk hz
          go_wp2_with fail
          refine (unhide HE).mono ?_
          rintro e w5 ⟨rfl, rfl⟩
          go_wp2
          refine bodyPost_ret (v := pv ⟨k, c, li, ln, sq, u, pa, o, pl, body⟩) (by simp [results, Tryz.results35, go_sem, c0, c1, c2, c3, c4, c5, c6, c7, c8, c9]) rfl ((unhide HYES) _ _ ?_ (read_yes (unhide HP) (unhide HRT') (unhide HSS)))
          exact ((((((((((unhide HB4).setCell (by simp) _).setCell (by simp) _).setCell (by simp) _).setCell (by simp) _).setCell (by simp) _).setCell (by simp) _).setCell (by simp) _).setCell (by simp) _).setCell (by simp) _).setCell (by simp) _
        · have HE2 := HE
          rw [if_neg ht] at HE2
          clear HE hk hz
          go_wp2_with fail
          refine (unhide HE2).mono ?_
          rintro e w5 ⟨rfl, rfl⟩
          go_wp2
          exact ⟨rfl, (unhide HNO) _ (unhide HB4) (read_no4 (unhide HP) (unhide HSS) ht)⟩
    · go_wp2
      exact ⟨rfl, (unhide HNO) _ (((unhide HB1).alloc (by omega) _).trans (hb3.mono (by simp; omega))) (read_no2 (unhide HP) hnr)⟩
end Go.Proofs.YtblomippkddgiaaGreatDoor
/-
  The face: Open catches what Read gave up with.
-/
namespace Go.Proofs.YtblomippkddgiaaGreatDoor
open Go.RowKit

theorem assert_fault (n q : Nat) (w : World) : (Instr.typeAssert (.iface 86 (faultOf n q)) 20 86 true).run Tryz.prog w = .ok (.tuple #[faultOf n q, .bool true]) w := by kernel_rfl
theorem field_fault (n q : Nat) (w : World) : (Instr.field 86 (faultOf n q) 0).run Tryz.prog w = .ok (.int .i64 n) w := by kernel_rfl
theorem below10 {B s : Nat} {w w1 : World} (h : Below B w w1) (hs : B ≤ s) (x0 x1 x2 x3 x4 x5 x6 x7 x8 x9 : Value) : Below B w (set10 w1 s x0 x1 x2 x3 x4 x5 x6 x7 x8 x9) :=
  (((((((((h.setCell (by exact hs) _).setCell (by exact hs) _).setCell (by exact hs) _).setCell (by exact hs) _).setCell (by exact hs) _).setCell (by exact hs) _).setCell (by exact hs) _).setCell (by exact hs) _).setCell (by exact hs) _).setCell (by exact hs) _
theorem lt_of_cell {w : World} {k o : Nat} {v : Value} (h : w.cell? ⟨k, o, none⟩ = some v) : k < w.heap.size := by
  rcases Nat.lt_or_ge k w.heap.size with hh | hh
  · exact hh
  · simp [World.cell?, Array.getElem?_eq_none hh] at h

theorem set_block {w : World} {s o : Nat} {xs : Array Value} {t : TypeId} (h : w.heap[s]? = some (.cells xs t (0, 0))) (x : Value) : (w.setCell ⟨s, o, none⟩ x).heap[s]? = some (.cells (xs.setIfInBounds o x) t (0, 0)) := by
  simp only [World.setCell, Array.getElem?_modify, h]
  simp
theorem heap10 {w : World} {s : Nat} (h : w.heap[s]? = some (.cells zeroCells 41 (0, 0))) (x0 x1 x2 x3 x4 x5 x6 x7 x8 x9 : Value) : (set10 w s x0 x1 x2 x3 x4 x5 x6 x7 x8 x9).heap[s]? = some (.cells #[x0, x1, x2, x3, x4, x5, x6, x7, x8, x9] 41 (0, 0)) := by
  have h0 := set_block (o := 0) h x0
  have h1 := set_block (o := 1) h0 x1
  have h2 := set_block (o := 2) h1 x2
  have h3 := set_block (o := 3) h2 x3
  have h4 := set_block (o := 4) h3 x4
  have h5 := set_block (o := 5) h4 x5
  have h6 := set_block (o := 6) h5 x6
  have h7 := set_block (o := 7) h6 x7
  have h8 := set_block (o := 8) h7 x8
  have h9 := set_block (o := 9) h8 x9
  refine h9.trans ?_
  simp

set_option maxRecDepth 100000 in
set_option maxHeartbeats 200000 in
theorem caught_any (n q : Nat) (w : World) :
    Calls Tryz.prog 34 #[.iface 86 (faultOf n q)] w fun e w' => e = .returned (faultOf n q) ∧ Below w.heap.size w w' := by
  have hta := assert_fault n q
  go_enter Tryz.func34, Tryz.ntmps34
  go_wp2
  exact bodyPost_ret (v := faultOf n q) (by simp [results, Tryz.results34, go_sem]) rfl ⟨rfl, ((Below.refl _ _).alloc (Nat.le_refl _) _).alloc (by simp) _⟩

set_option maxRecDepth 100000 in
set_option maxHeartbeats 1000000 in
theorem ocatch_panicking (a0 a1 B : Nat) (n q : Nat) (older : List PanicEntry) (w : World) (h0 : w.heap[a0]? = some (.cells zeroCells 41 (0, 0))) (h1 : w.cell? ⟨a1, 0, none⟩ = some (.int .i64 0)) (z1 : w.frozen? ⟨a1, 0, none⟩ = false) (hb0 : B ≤ a0) (hb1 : B ≤ a1) (hne : ¬ a0 = a1) :
    CallsD Tryz.prog 33 #[.pointer (some ⟨a0, 0, none⟩), .pointer (some ⟨a1, 0, none⟩)] (.panicking ({ v := .iface 86 (faultOf n q), recovered := false } :: older)) w fun e u' w' =>
      e = .returned (.tuple #[]) ∧ u' = .panicking ({ v := .iface 86 (faultOf n q), recovered := true } :: older) ∧ w'.heap[a0]? = some (.cells zeroCells 41 (0, 0)) ∧ w'.cell? ⟨a1, 0, none⟩ = some (.int .i64 n) ∧ Below B w w' := by
  refine callsD_of_wpS Tryz.func33 rfl fun c₀ cs hu => ?_
  apply wpS_seq
  apply wpS_region
  simp [wpOpsS, go_sem, recoverD, hu, Tryz.ntmps33, Exit.thenS]
  rw [show (#[Value.pointer (some { block := a0, off := 0 }), Value.pointer (some { block := a1, off := 0 })] ++ ((Array.replicate 8 undef).setIfInBounds 1 (Value.iface 86 (faultOf n q))).setIfInBounds 0 (Value.iface 86 (faultOf n q))) = #[.pointer (some { block := a0, off := 0 }), .pointer (some { block := a1, off := 0 }), .iface 86 (faultOf n q), .iface 86 (faultOf n q), undef, undef, undef, undef, undef, undef] from rfl]
  refine wpS_of_wp ?_
  have hfl := field_fault n q
  have l0 := lt_of_block h0
  have l1 := lt_of_cell h1
  go_wp2_with fail
  refine (caught_any n q _).mono ?_
  rintro e w1 ⟨rfl, hb⟩
  have s1 := hb.size
  have hz : w1.heap[a0]? = some (.cells zeroCells 41 (0, 0)) := (hb.block _ l0).trans h0
  have g1 : w1.cell? ⟨a1, 0, none⟩ = some (.int .i64 0) := (hb.cell (p := ⟨a1, 0, none⟩) l1).trans h1
  have y1 : w1.frozen? ⟨a1, 0, none⟩ = false := (hb.frozen (p := ⟨a1, 0, none⟩) l1).trans z1
  have m0 : a0 < w1.heap.size := by omega
  have m1 : a1 < w1.heap.size := by omega
  have e2 : ¬ a1 = a0 := by omega
  have c0 := cell_of hz 0 _ rfl
  have c1 := cell_of hz 1 _ rfl
  have c2 := cell_of hz 2 _ rfl
  have c3 := cell_of hz 3 _ rfl
  have c4 := cell_of hz 4 _ rfl
  have c5 := cell_of hz 5 _ rfl
  have c6 := cell_of hz 6 _ rfl
  have c7 := cell_of hz 7 _ rfl
  have c8 := cell_of hz 8 _ rfl
  have c9 := cell_of hz 9 _ rfl
  have cz := thaw_of hz
  have HZ := hide hz
  clear h0 h1 z1 hz
  go_wp2
  have F0 := heap10 (unhide HZ) (.int .i64 0) (.int .i64 0) (.int .i64 0) (.int .i64 0) (.int .i64 0) (.int .i64 0) (.int .i64 0) (.int .i64 0) (.bool false) (.string ⟨#[]⟩)
  have FB := below10 (hb.mono (by omega : B ≤ w.heap.size)) hb0 (.int .i64 0) (.int .i64 0) (.int .i64 0) (.int .i64 0) (.int .i64 0) (.int .i64 0) (.int .i64 0) (.int .i64 0) (.bool false) (.string ⟨#[]⟩)
  show bodyPostS Tryz.prog Tryz.f33 c₀ cs _ _ _ _ _
  refine ⟨rfl, _, rfl, _, results_none rfl _ _ _, rfl, rfl, ?_, ?_, FB.setCell (by exact hb1) _⟩
  · rw [Below.heap_setCell _ _ _ _ (by simpa using hne)]
    exact F0
  · simp [go_sem, g1]

theorem ocatch_idle (p0 p1 : Addr) (w : World) :
    CallsD Tryz.prog 33 #[.pointer (some p0), .pointer (some p1)] .returning w fun e u' w' => e = .returned (.tuple #[]) ∧ u' = .returning ∧ w' = w := by
  refine callsD_of_wpS Tryz.func33 rfl fun c₀ cs hu => ?_
  apply wpS_seq
  apply wpS_region
  simp [wpOpsS, go_sem, recoverD, hu, Tryz.ntmps33, Exit.thenS]
  rw [show (#[Value.pointer (some p0), Value.pointer (some p1)] ++ ((Array.replicate 8 undef).setIfInBounds 1 (Value.nilIface)).setIfInBounds 0 (Value.nilIface)) = #[.pointer (some p0), .pointer (some p1), .nilIface, .nilIface, undef, undef, undef, undef, undef, undef] from rfl]
  refine wpS_of_wp ?_
  go_wp2
  exact ⟨rfl, .returning, by cases c₀; simp_all, _, results_none rfl _ _ _, rfl, rfl, rfl⟩

abbrev oface (w : World) : World := (w.alloc (.cells zeroCells 41)).alloc (.cells #[.int .i64 0] 32)
def openPost (l : List UInt8) (w : World) (e : Ending) (w' : World) : Prop := Below w.heap.size w w' ∧ ((readP l = none ∧ e = .returned (.tuple #[zeroP, .int .i64 7])) ∨ ∃ p, readP l = some p ∧ e = .returned (.tuple #[pv p, .int .i64 0]))

set_option maxRecDepth 100000 in
set_option maxHeartbeats 1000000 in
theorem open_any (l : List UInt8) (w : World) (hl : l.length ≤ 9223372036854775807) : Calls Tryz.prog 14 #[.string (str l)] w (openPost l w) := by
  have hmf : ∀ (fn : Fn) (first cap : Array Value) (w : World), (Instr.makeFunc fn first cap).run Tryz.prog w = .ok (.func fn first cap) w := fun _ _ _ _ => rfl
  have HH := hide (read_any l (oface w) hl)
  have hz0 : (oface w).heap[w.heap.size]? = some (.cells zeroCells 41 (0, 0)) := by
    rw [Below.heap_alloc _ _ _ (by simp)]
    exact heap_alloc_new w _
  have HZ := hide hz0
  have hsz : (oface w).heap.size = w.heap.size + 2 := by simp
  have HB := hide (((Below.refl w.heap.size w).alloc (Nat.le_refl _) (.cells zeroCells 41)).alloc (by simp) (.cells #[.int .i64 0] 32))
  clear hz0
  go_enter_defers Tryz.func14, Tryz.ntmps14
  go_wp2_with fail
  refine (unhide HH).mono ?_
  rintro e w1 ⟨hb, ⟨hn, rfl⟩ | ⟨p, hp, rfl⟩⟩
  · have hs := hb.size
    have z0 := (hb.block w.heap.size (by omega)).trans (unhide HZ)
    have c1 : w1.cell? ⟨w.heap.size + 1, 0, none⟩ = some (.int .i64 0) := (hb.cell (p := ⟨w.heap.size + 1, 0, none⟩) (by simp)).trans (by simp [go_sem])
    have z1 : w1.frozen? ⟨w.heap.size + 1, 0, none⟩ = false := (hb.frozen (p := ⟨w.heap.size + 1, 0, none⟩) (by simp)).trans (by simp [go_sem])
    have hb0 : Below w.heap.size w w1 := (unhide HB).trans (hb.mono (by omega))
    have HZ1 := hide z0
    clear z0
    go_wp2
    refine leaves_cons (f := 33) (args := #[.pointer (some ⟨w.heap.size, 0, none⟩), .pointer (some ⟨w.heap.size + 1, 0, none⟩)]) (by simp) (by simp [go_sem]) ?_
    refine (ocatch_panicking w.heap.size (w.heap.size + 1) w.heap.size 7 0 [] _ (unhide HZ1) c1 z1 (Nat.le_refl _) (by omega) (by omega)).mono ?_
    rintro e u' w'' ⟨rfl, rfl, f0, f1, fb⟩
    have c0 := cell_of f0 0 _ rfl
    have d1 := cell_of f0 1 _ rfl
    have c2 := cell_of f0 2 _ rfl
    have c3 := cell_of f0 3 _ rfl
    have c4 := cell_of f0 4 _ rfl
    have c5 := cell_of f0 5 _ rfl
    have c6 := cell_of f0 6 _ rfl
    have c7 := cell_of f0 7 _ rfl
    have c8 := cell_of f0 8 _ rfl
    have c9 := cell_of f0 9 _ rfl
    simp [Leaves, settle, results, Tryz.results14, go_sem, c0, d1, c2, c3, c4, c5, c6, c7, c8, c9, f1]
    exact ⟨hb0.trans fb, Or.inl ⟨hn, rfl⟩⟩
  · have hs := hb.size
    have hz := (hb.block w.heap.size (by omega)).trans (unhide HZ)
    have g1 : w1.cell? ⟨w.heap.size + 1, 0, none⟩ = some (.int .i64 0) := (hb.cell (p := ⟨w.heap.size + 1, 0, none⟩) (by simp)).trans (by simp [go_sem])
    have z1 : w1.frozen? ⟨w.heap.size + 1, 0, none⟩ = false := (hb.frozen (p := ⟨w.heap.size + 1, 0, none⟩) (by simp)).trans (by simp [go_sem])
    have HB1 := hide ((unhide HB).trans (hb.mono (by omega : w.heap.size ≤ (oface w).heap.size)))
    have c0 := cell_of hz 0 _ rfl
    have c1 := cell_of hz 1 _ rfl
    have c2 := cell_of hz 2 _ rfl
    have c3 := cell_of hz 3 _ rfl
    have c4 := cell_of hz 4 _ rfl
    have c5 := cell_of hz 5 _ rfl
    have c6 := cell_of hz 6 _ rfl
    have c7 := cell_of hz 7 _ rfl
    have c8 := cell_of hz 8 _ rfl
    have c9 := cell_of hz 9 _ rfl
    have cz := thaw_of hz
    have HZ1 := hide hz
    have HP := hide hp
    obtain ⟨k, c, li, ln, sq, u, pa, o, pl, body⟩ := p
    clear hz hb hp HH
    go_wp2
    refine leaves_cons (f := 33) (args := #[.pointer (some ⟨w.heap.size, 0, none⟩), .pointer (some ⟨w.heap.size + 1, 0, none⟩)]) (by simp) (by simp [go_sem]) ?_
    refine (ocatch_idle _ _ _).mono ?_
    rintro e u' w'' ⟨rfl, rfl, rfl⟩
    simp [Leaves, settle, results, Tryz.results14, go_sem, c0, c1, c2, c3, c4, c5, c6, c7, c8, c9, g1]
    exact ⟨(below10 (unhide HB1) (Nat.le_refl _) _ _ _ _ _ _ _ _ _ _).setCell (by simp) _, Or.inr ⟨_, unhide HP, rfl⟩⟩

end Go.Proofs.YtblomippkddgiaaGreatDoor
