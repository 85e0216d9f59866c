/-
  The landed code's reader of a packet, whole.
-/
import Derived.Test.YtblomippkddgiaaRight
namespace Go.Proofs.Ytblomippkddgiaa
open Go.RowKit

def sumPost (b : Nat) (l r : List UInt8) (w : World) (e : Ending) (w' : World) : Prop := Only b w w' ∧ ((sumP l r = none ∧ e = gaveUp 7 0) ∨ ∃ t, sumP l r = some t ∧ e = .returned (.tuple #[]) ∧ Rd w' b t)
theorem sum_few {l r : List UInt8} (h : r.length < 2) : sumP l r = none := by
  unfold sumP
  split
  · simp at h
    omega
  · rfl

set_option maxRecDepth 100000 in
set_option maxHeartbeats 1000000 in
theorem sum_any (b : Nat) (m r : List UInt8) (w : World) (h : Rd w b r) (hm : m.length ≤ 1000) (hl : (m ++ r).length ≤ 9223372036854775807) :
    Calls Try.prog 68 #[.pointer (some ⟨b, 0, none⟩), .string (str (m ++ r))] w (sumPost b (m ++ r) r w) := by
  have hr : r.length ≤ 9223372036854775807 := by rw [List.length_append] at hl; omega
  have H2 := hide (two_any b r w h hr)
  have H6 := hide (fun w => sixteen_any m w (by omega))
  have HRF := hide (fun (r : List UInt8) (w : World) (h : Rd w b r) => refuse_any b r w h)
  have h1 := h.left
  have s1 := str_size (m ++ r)
  have s2 := str_size r
  have ex : (str (m ++ r)).extract 0 m.length = str m := by rw [str_extract]; simp
  have hw : wrap64 (((str (m ++ r)).size : Int) - ((str r).size : Int)) = (m.length : Int) := by
    rw [s1, s2, List.length_append]
    unfold wrap64
    rw [List.length_append] at hl
    omega
  have hle : (m.length : Int) ≤ ((str (m ++ r)).size : Int) := by rw [s1, List.length_append]; omega
  have HT := hide (take_head m r)
  have hcr := crcI_lt m
  have hcd : ((crc m).toNat : Int) = crcI m := rfl
  rw [hcd] at H6
  generalize hC : crcI m = C at *
  generalize hS : str (m ++ r) = S at *
  generalize hR : str r = R at *
  generalize hM : str m = M at *
  generalize m.length = n at *
  clear h s1 s2 hR hcd
  go_enter Try.func68, Try.ntmps68
  go_wp2_with fail
  refine (unhide H2).mono ?_
  rintro e w1 ⟨hk1, ⟨hlt, rfl⟩ | ⟨a, c, t, rfl, rfl, hr1⟩⟩
  · go_wp2
    exact ⟨rfl, hk1, Or.inl ⟨sum_few hlt, rfl⟩⟩
  · by_cases hne : num2 a c = C
    · have hb : (num2 a c != C) = false := by simpa using hne
      have HR := hide hr1
      clear hr1 HRF
      have HN := hide hne
      clear hne
      go_wp2_with fail
      refine ((unhide H6) _).mono ?_
      rintro e w2 ⟨rfl, rfl⟩
      go_wp2
      go_end0
      refine ⟨hk1, Or.inr ⟨t, ?_, rfl, unhide HR⟩⟩
      show (if num2 a c = crcI ((m ++ a :: c :: t).take ((m ++ a :: c :: t).length - (a :: c :: t).length)) then some t else none) = some t
      rw [unhide HT, hC, if_pos (unhide HN)]
    · have hb : (num2 a c != C) = true := by simpa using hne
      have HX := hide ((unhide HRF) t w1 hr1)
      clear hr1 HRF
      have HN := hide hne
      clear hne
      go_wp2_with fail
      refine ((unhide H6) _).mono ?_
      rintro e w2 ⟨rfl, rfl⟩
      go_wp2_with fail
      refine (unhide HX).mono ?_
      rintro e w3 ⟨rfl, rfl⟩
      go_wp2
      refine ⟨rfl, hk1, Or.inl ⟨?_, rfl⟩⟩
      show (if num2 a c = crcI ((m ++ a :: c :: t).take ((m ++ a :: c :: t).length - (a :: c :: t).length)) then some t else none) = none
      rw [unhide HT, hC, if_neg (unhide HN)]

end Go.Proofs.Ytblomippkddgiaa
