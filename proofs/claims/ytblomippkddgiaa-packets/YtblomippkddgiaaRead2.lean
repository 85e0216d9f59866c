/-
  The landed code's reader of a packet: Read.
-/
import Derived.Test.YtblomippkddgiaaRead
namespace Go.Proofs.Ytblomippkddgiaa
open Go.RowKit

def readPost (l : List UInt8) (w : World) (e : Ending) (w' : World) : Prop := Below w.heap.size w w' ∧ ((readP l = none ∧ e = gaveUp 7 0) ∨ ∃ p, readP l = some p ∧ e = .returned (pv p))

theorem fields_len {l : List UInt8} {p : Pk} {r : List UInt8} (h : fieldsP l = some (p, r)) : p.body.length ≤ 255 := by
  unfold fieldsP at h
  split at h
  · split at h
    · rename_i L t hc
      cases h
      simp only [List.length_take]
      have := L.toNat_lt
      omega
    · cases h
  · cases h

theorem read_no1 {l : List UInt8} (h : fieldsP l = none) : readP l = none := by
  unfold readP
  rw [h]
theorem read_no2 {l r : List UInt8} {p : Pk} (h : fieldsP l = some (p, r)) (hr : ¬ RightP p) : readP l = none := by
  unfold readP
  rw [h]
  simp only
  rw [if_neg hr]
theorem read_no3 {l r : List UInt8} {p : Pk} (h : fieldsP l = some (p, r)) (hs : sumP l r = none) : readP l = none := by
  unfold readP
  rw [h]
  simp only
  split
  · rw [hs]
  · rfl
theorem read_no4 {l r t : List UInt8} {p : Pk} (h : fieldsP l = some (p, r)) (hs : sumP l r = some t) (ht : t ≠ []) : readP l = none := by
  unfold readP
  rw [h]
  simp only
  split
  · rw [hs]
    cases t with
    | nil => exact absurd rfl ht
    | cons _ _ => rfl
  · rfl
theorem read_yes {l r : List UInt8} {p : Pk} (h : fieldsP l = some (p, r)) (hr : RightP p) (hs : sumP l r = some []) : readP l = some p := by
  unfold readP
  rw [h]
  simp only
  rw [if_pos hr, hs]

theorem sum_len {l r t : List UInt8} (h : sumP l r = some t) : t.length ≤ r.length := by
  unfold sumP at h
  split at h
  · split at h
    · cases h
      simp
      omega
    · cases h
  · cases h

abbrev rdW (w : World) (l : List UInt8) : World := (w.alloc (.cells zeroCells 59)).alloc (.cells #[.string (str l), .int .i64 7] 128)
theorem rdW_rd (w : World) (l : List UInt8) : Rd (rdW w l) (w.heap.size + 1) l := by
  unfold Rd
  have := heap_alloc_new (w.alloc (.cells zeroCells 59)) (.cells #[.string (str l), .int .i64 7] 128)
  rw [show (w.alloc (.cells zeroCells 59)).heap.size = w.heap.size + 1 by simp] at this
  exact this
theorem rdW_zero (w : World) (l : List UInt8) : (rdW w l).heap[w.heap.size]? = some (.cells zeroCells 59 (0, 0)) := by
  rw [Below.heap_alloc _ _ _ (by simp)]
  exact heap_alloc_new w _
theorem rdW_below (w : World) (l : List UInt8) : Below w.heap.size w (rdW w l) := ((Below.refl _ _).alloc (Nat.le_refl _) _).alloc (by simp) _

set_option maxRecDepth 100000 in
set_option maxHeartbeats 2000000 in
theorem read_any (l : List UInt8) (w : World) (hl : l.length ≤ 9223372036854775807) : Calls Try.prog 48 #[.string (str l)] w (readPost l w) := by
  have HF := hide (fields_any (w.heap.size + 1) l (rdW w l) (rdW_rd w l) hl)
  have hW0 : (rdW w l).heap.size = w.heap.size + 2 := by simp
  obtain ⟨post, hpost⟩ : ∃ post, post = readPost l w := ⟨_, rfl⟩
  have HNO : Hid (∀ w', Below w.heap.size w w' → readP l = none → post (gaveUp 7 0) w') := by
    rw [hpost]
    exact fun w' hb hr => ⟨hb, Or.inl ⟨hr, rfl⟩⟩
  have HYES : Hid (∀ w' p, Below w.heap.size w w' → readP l = some p → post (.returned (pv p)) w') := by
    rw [hpost]
    exact fun w' p hb hr => ⟨hb, Or.inr ⟨p, hr, rfl⟩⟩
  have HZ := hide (rdW_zero w l)
  have HB0 := hide (rdW_below w l)
  rw [← hpost]
  clear hpost
  go_enter Try.func48, Try.ntmps48
  go_wp2_with fail
  refine (unhide HF).mono ?_
  rintro e w1 ⟨hk1, ⟨hn, rfl⟩ | ⟨p, r, hp, rfl, hr1⟩⟩
  · go_wp2
    exact ⟨rfl, (unhide HNO) _ ((unhide HB0).trans (hk1.below.mono (by omega))) (read_no1 hn)⟩
  · have hs1 := hk1.size
    have HB1 := hide ((unhide HB0).trans (hk1.below.mono (by omega : w.heap.size ≤ w.heap.size + 1)))
    have HZ1 := hide ((hk1.block _ (by omega) (by omega)).trans (unhide HZ))
    have HLEN := hide (fields_len hp)
    have HHD := hide (fields_some hp)
    have HP := hide hp
    have HR1 := hide hr1
    have hlt1 := hr1.lt
    clear hp hr1 hk1 HF
    have HRT := hide (fun w => right_any p w)
    obtain ⟨k, c, li, ln, sq, u, pa, o, pl, body⟩ := p
    go_wp2_with fail
    refine ((unhide HRT) _).mono ?_
    rintro e w3 ⟨hb3, ⟨hrt, rfl⟩ | ⟨hnr, rfl⟩⟩
    · have hs3 := hb3.size
      have HB3 := hide (((unhide HB1).alloc (by omega) (.cells #[.int .i64 k, .int .i64 c, .int .i64 li, .int .i64 ln, .int .i64 sq, .int .i64 u, .int .i64 pa, .int .i64 o, .bool pl, .string (str body)] 59)).trans (hb3.mono (by simp; omega)))
      have hk3 := (hb3.block w1.heap.size (by simp)).trans (heap_alloc_new w1 _)
      have hz3 := (hb3.block w.heap.size (by simp; omega)).trans ((Below.heap_alloc w1 _ _ (by omega)).trans (unhide HZ1))
      have hr3 : Rd w3 (w.heap.size + 1) r := by
        have h := unhide HR1
        unfold Rd at h ⊢
        rw [hb3.block _ (by simp; omega), Below.heap_alloc _ _ _ hlt1]
        exact h
      have hlr : r.length ≤ 9223372036854775807 := by
        have := congrArg List.length (unhide HHD)
        rw [List.length_append] at this
        omega
      have hsum := sum_any (w.heap.size + 1) (headB ⟨k, c, li, ln, sq, u, pa, o, pl, body⟩) r w3 hr3 (by have := headB_length ⟨k, c, li, ln, sq, u, pa, o, pl, body⟩; have h2 := unhide HLEN; simp only at this; omega) (by rw [← unhide HHD]; exact hl)
      rw [← unhide HHD] at hsum
      have HS := hide hsum
      have HRT' := hide hrt
      simp at hs3
      clear hsum hr3 hb3 hrt HRT HR1 HZ1 HZ HB0
      go_wp2_with fail
      refine (unhide HS).mono ?_
      rintro e w4 ⟨hk4, ⟨hs, rfl⟩ | ⟨t, hs, rfl, hr4⟩⟩
      · go_wp2
        exact ⟨rfl, (unhide HNO) _ ((unhide HB3).trans (hk4.below.mono (by omega))) (read_no3 (unhide HP) hs)⟩
      · have HE := hide (end_any (w.heap.size + 1) t w4 hr4 (by have := sum_len hs; omega))
        have HB4 := hide ((unhide HB3).trans (hk4.below.mono (by omega : w.heap.size ≤ w.heap.size + 1)))
        have hk := (hk4.block _ (by omega) (by omega)).trans hk3
        have hz := (hk4.block _ (by omega) (by omega)).trans hz3
        have HSS := hide hs
        clear hs hk4 hr4 hk3 hz3 HS HB3
        by_cases ht : t = []
        · subst ht
          have e0 := cell_of hk 0 _ rfl
          have e1 := cell_of hk 1 _ rfl
          have e2 := cell_of hk 2 _ rfl
          have e3 := cell_of hk 3 _ rfl
          have e4 := cell_of hk 4 _ rfl
          have e5 := cell_of hk 5 _ rfl
          have e6 := cell_of hk 6 _ rfl
          have e7 := cell_of hk 7 _ rfl
          have e8 := cell_of hk 8 _ rfl
          have e9 := cell_of hk 9 _ rfl
          have c0 := cell_of hz 0 _ rfl
          have c1 := cell_of hz 1 _ rfl
          have c2 := cell_of hz 2 _ rfl
          have c3 := cell_of hz 3 _ rfl
          have c4 := cell_of hz 4 _ rfl
          have c5 := cell_of hz 5 _ rfl
          have c6 := cell_of hz 6 _ rfl
          have c7 := cell_of hz 7 _ rfl
          have c8 := cell_of hz 8 _ rfl
          have c9 := cell_of hz 9 _ rfl
          have cz := thaw_of hz
          clear hk hz
          go_wp2_with fail
          refine (unhide HE).mono ?_
          rintro e w5 ⟨rfl, rfl⟩
          go_wp2
          refine bodyPost_ret (v := pv ⟨k, c, li, ln, sq, u, pa, o, pl, body⟩) (by simp [results, Try.results48, go_sem, c0, c1, c2, c3, c4, c5, c6, c7, c8, c9]) rfl ((unhide HYES) _ _ ?_ (read_yes (unhide HP) (unhide HRT') (unhide HSS)))
          exact ((((((((((unhide HB4).setCell (by simp) _).setCell (by simp) _).setCell (by simp) _).setCell (by simp) _).setCell (by simp) _).setCell (by simp) _).setCell (by simp) _).setCell (by simp) _).setCell (by simp) _).setCell (by simp) _
        · have HE2 := HE
          rw [if_neg ht] at HE2
          clear HE hk hz
          go_wp2_with fail
          refine (unhide HE2).mono ?_
          rintro e w5 ⟨rfl, rfl⟩
          go_wp2
          exact ⟨rfl, (unhide HNO) _ (unhide HB4) (read_no4 (unhide HP) (unhide HSS) ht)⟩
    · go_wp2
      exact ⟨rfl, (unhide HNO) _ (((unhide HB1).alloc (by omega) _).trans (hb3.mono (by simp; omega))) (read_no2 (unhide HP) hnr)⟩
end Go.Proofs.Ytblomippkddgiaa
