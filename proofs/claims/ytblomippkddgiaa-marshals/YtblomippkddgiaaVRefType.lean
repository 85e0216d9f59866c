/-
  The document's own small functions along a type's text: a digit, where a type ends, the types of a record or a choice, the least and the greatest number.
-/
import Derived.Test.YtblomippkddgiaaVRef
import Derived.Test.YtblomippkddgiaaVDepth
import Derived.Test.YtblomippkddgiaaVMath2
namespace Go.Proofs.Ytblomippkddgiaa.V
open Go.RowKit

set_option maxHeartbeats 400000 in
theorem digit_at (s : ByteArray) (p : Nat) (w : World) (hp : p < s.size) (hd : 48 ≤ nx s p) :
    Calls Try.prog 96 #[.string s, .int .i64 p] w fun e w' => e = .returned (.int .i64 ((nx s p : Int) - 48)) ∧ w' = w := by
  have hb := nx_lt s p
  rw [nx_in hp] at *
  go_enter Try.func96, Try.ntmps96
  go_wp2
  go_ret
  exact ⟨rfl, rfl⟩

structure BInv (s : ByteArray) (w : World) (res p : Nat) (S : List Want) (v : Value) (wr : World) : Prop where
  le : p ≤ s.size
  stk : Stk wr w.heap.size v S
  len : S.length ≤ 2 * p + 1
  all : ∀ x ∈ S, okW (p + 1) x
  below : Below w.heap.size w wr
  run : Pt.bh (nx s) (s.size - p) S p = res

theorem binv_first (s : ByteArray) (w : World) (p : Nat) (hp : p ≤ s.size) : BInv s w (Pt.bh (nx s) (s.size - p) [(1, 0, 1)] p) p [(1, 0, 1)] (.slice (some ⟨w.heap.size, 0, none⟩) 1 1) (w.alloc (.cells #[.int .i64 1, .int .i64 0, .int .i64 1] 105)) := by
  refine ⟨hp, stk_new w _ rfl (Nat.le_refl _) rfl (by simp [wcells, wc]) (by omega), by simp, ?_, (Below.refl _ _).alloc (Nat.le_refl _) _, rfl⟩
  intro x hx
  simp at hx
  subst hx
  unfold okW
  simp

theorem binv_next {s : ByteArray} {w wr w2 : World} {res : Nat} {p : Nat} {S S' : List Want} {v v' : Value} (I : BInv s w res p S v wr) (hp : p < s.size) (hg : Pt.goes S (nx s p) = some S') (hb2 : Below wr.heap.size wr w2) (hs : Stk w2 wr.heap.size v' S') :
    BInv s w res (p + 1) S' v' w2 := by
  obtain ⟨h1, h2⟩ := goes_bound I.all hg
  have hsz := I.below.size
  have hl := I.len
  refine ⟨hp, own_le hs hsz, by omega, h2, I.below.trans (hb2.mono hsz), ?_⟩
  rw [← Pt.bh_step hp hg]
  exact I.run

set_option maxRecDepth 100000 in
set_option maxHeartbeats 1000000 in
theorem behind_bh (s : ByteArray) (p : Nat) (w : World) (hp : p ≤ s.size) (hs : s.size ≤ 40) :
    Calls Try.prog 97 #[.string s, .int .i64 p] w fun e w' => e = .returned (.int .i64 (Pt.bh (nx s) (s.size - p) [(1, 0, 1)] p)) ∧ Below w.heap.size w w' := by
  have I0 := hide (binv_first s w p hp)
  generalize Pt.bh (nx s) (s.size - p) [(1, 0, 1)] p = res at *
  go_enter Try.func97, Try.ntmps97
  go_wp2
  go_loopw [1, 5] (fun i v wr => ∃ (p : Nat) (S : List Want), i = .int .i64 p ∧ BInv s w res p S v wr) (fun i _ _ => s.size - (intOf i).toNat)
  case atStart => exact ⟨p, _, rfl, unhide I0⟩
  case round =>
    obtain ⟨p, S, rfl, I⟩ := hrel
    clear I0 hp
    have hle := I.le
    have hSl := I.len
    have hbb := I.below
    have hSw : ∀ x ∈ S, 1 ≤ x.1 ∧ x.1 ≤ 5 ∧ x.2.1 ≤ 6 ∧ x.2.2 ≤ 1000 := fun x hx => by
      have := I.all x hx
      unfold okW at this
      omega
    have HI := hide I
    have hst := I.stk
    have hrun := I.run
    clear I
    match S, HI, hst, hSl, hSw, hrun with
    | [], HI, hst, hSl, hSw, hrun =>
      obtain ⟨a, cap, rfl⟩ : ∃ a cap, u5 = .slice a 0 cap := by
        obtain ⟨_, h⟩ := hst
        rcases h with ⟨hv, _⟩ | ⟨gb, cap, cur, hv, _⟩
        · exact ⟨_, _, hv⟩
        · exact ⟨_, _, hv⟩
      obtain rfl : p = res := by rw [← hrun, Pt.bh_nil]
      clear hst hrun hSl hSw
      go_wp2
      go_ret
      exact ⟨rfl, hbb⟩
    | x :: R, HI, hst, hSl, hSw, hrun =>
      obtain ⟨gb, cap, rfl, hcap, hgl, _, f0, f1, f2⟩ := stk_open hst
      clear f0 f1 f2
      simp only [List.length_cons] at hSl
      by_cases hlt : p < s.size
      · have hc : nx s p = (s[p]).toNat := nx_in hlt
        have HC := hide hc
        have HG := hide (goes_any (x :: R) _ (s[p]).toNat wr (own_le hst (Nat.zero_le _)) (by simp; omega) hSw)
        have HRUN := hide hrun
        clear hc hst hSw hrun
        cases hg : Pt.goes (x :: R) (s[p]).toNat with
        | none =>
          obtain rfl : p = res := by rw [← unhide HRUN, Pt.bh_stop hlt (by rw [unhide HC]; exact hg)]
          have HGG : Hid (Calls Try.prog 54 #[.slice (some ⟨gb, 0, none⟩) (R.length + 1) cap, .int .u8 (s[p]).toNat] wr fun e w' => ∃ v, e = .returned (.tuple #[v, .bool false]) ∧ Below wr.heap.size wr w') := by
            refine (unhide HG).mono ?_
            rintro e w' ⟨v', rfl, hb, _⟩
            rw [hg]
            exact ⟨v', rfl, hb⟩
          clear HG hg HRUN
          go_wp2_with fail
          refine (unhide HGG).mono ?_
          rintro e w2 ⟨v2, rfl, hb2⟩
          go_wp2
          go_ret
          exact ⟨rfl, hbb.trans (hb2.mono hbb.size)⟩
        | some S' =>
          have HGG : Hid (Calls Try.prog 54 #[.slice (some ⟨gb, 0, none⟩) (R.length + 1) cap, .int .u8 (s[p]).toNat] wr fun e w' => ∃ v, e = .returned (.tuple #[v, .bool true]) ∧ Below wr.heap.size wr w' ∧ Stk w' wr.heap.size v S') := by
            refine (unhide HG).mono ?_
            rintro e w' ⟨v', rfl, hb, hst⟩
            rw [hg]
            exact ⟨v', rfl, hb, hst S' hg⟩
          have HS : Hid (Pt.goes (x :: R) (nx s p) = some S') := by rw [unhide HC]; exact hg
          clear HG hg HRUN
          go_wp2_with fail
          refine (unhide HGG).mono ?_
          rintro e w2 ⟨v2, rfl, hb2, hst2⟩
          have J := hide (binv_next (unhide HI) hlt (unhide HS) hb2 hst2)
          clear hb2 hst2
          go_wp2
          go_roundw
          case rel => exact ⟨p + 1, _, by go_num, unhide J⟩
          case measure => simp [intOf]; omega
      · obtain rfl : p = s.size := by omega
        obtain rfl : s.size = res := by rw [← hrun, Pt.bh_out]
        clear hst hrun hSw
        go_wp2
        go_ret
        exact ⟨rfl, hbb⟩

theorem behind_any (s : ByteArray) (f p : Nat) (w : World) (hp : p ≤ s.size) (hs : s.size ≤ 40) (hf : s.size - p < f) :
    Calls Try.prog 97 #[.string s, .int .i64 p] w fun e w' => e = .returned (.int .i64 (Pt.ty (nx s) f p).2) ∧ Below w.heap.size w w' := by
  have h := behind_bh s p w hp hs
  rw [Pt.behind_ty (f := f) (fun p hp => nx_out hp) hp hf] at h
  exact h

def partOf (ks : List Nat) (k : Int) : Nat := if 0 ≤ k then (ks[k.toNat]?).getD ks.length else ks.length

/- a type stands at place p: it is one, and there is fuel for it -/
structure Okp (s : ByteArray) (f p : Nat) : Prop where
  le : p ≤ s.size
  fuel : s.size - p < f
  ok : (Pt.ty (nx s) f p).1 = true

theorem Okp.ends {s : ByteArray} {f p : Nat} (h : Okp s f p) : p < (Pt.ty (nx s) f p).2 ∧ (Pt.ty (nx s) f p).2 ≤ s.size := by
  obtain ⟨_, hb, _⟩ := Pt.agree (g := nx s) (n := s.size) (fun p hp => nx_out hp) f p 0 1 0 [] h.le h.fuel
  exact hb h.ok
theorem Okp.lt {s : ByteArray} {f p : Nat} (h : Okp s f p) : p < s.size := by
  have := h.ends
  omega

theorem chain_ok {s : ByteArray} {f : Nat} : ∀ (ks : List Nat) (start c : Nat), Pt.chain (Pt.ty (nx s) f) (nx s) start ks c → start ≤ s.size → s.size - start < f → ∀ k ∈ ks, start ≤ k ∧ Okp s f k := by
  intro ks
  induction ks with
  | nil => intro start c _ _ _ k hk; cases hk
  | cons a ks ih =>
    intro start c h hle hf k hk
    obtain ⟨rfl, _, hT, hr⟩ := h
    have ho : Okp s f start := ⟨hle, hf, hT⟩
    have he := ho.ends
    rcases List.mem_cons.1 hk with rfl | hk
    · exact ⟨Nat.le_refl _, ho⟩
    · have := ih _ c hr he.2 (by omega) k hk
      exact ⟨by omega, this.2⟩

/- a record or a choice at place p -/
structure Okl (s : ByteArray) (f p : Nat) : Prop where
  here : nx s p = 114 ∨ nx s p = 117
  ok : Okp s (f + 1) p
theorem Okl.chain {s : ByteArray} {f p : Nat} (h : Okl s f p) : p + 2 ≤ s.size ∧ s.size - (p + 2) < f ∧ ∃ c, Pt.chain (Pt.ty (nx s) f) (nx s) (p + 2) (Pt.kids (nx s) f p) c := by
  have hlt := h.ok.lt
  have hfu := h.ok.fuel
  have n1 : ¬ nx s p = 97 := by have := h.here; omega
  have n2 : ¬ nx s p = 113 := by have := h.here; omega
  have n3 : ¬ nx s p = 101 := by have := h.here; omega
  have n4 : Pt.isLeaf (nx s p) = false := Pt.isLeaf_of (by have := h.here; omega)
  have hok := h.ok.ok
  have hty : Pt.ty (nx s) (f + 1) p = (if nx s (p + 1) = 40 then (if (Pt.ty (nx s) f (p + 2)).1 then Pt.lst (Pt.ty (nx s) f) (nx s) 5 (Pt.ty (nx s) f (p + 2)).2 else (false, (Pt.ty (nx s) f (p + 2)).2)) else (false, p + 1)) := by
    simp [Pt.ty, n4, n3, n1, n2, h.here]
  rw [hty] at hok
  have hks : Pt.kids (nx s) f p = (p + 2) :: Pt.lkids (Pt.ty (nx s) f) (nx s) 5 (Pt.ty (nx s) f (p + 2)).2 := by simp [Pt.kids, n1, n2, h.here]
  by_cases h40 : nx s (p + 1) = 40
  · have hlt2 : p + 1 < s.size := nx_pos h40 (by omega)
    rw [if_pos h40] at hok
    cases hx : (Pt.ty (nx s) f (p + 2)).1 with
    | false => rw [hx] at hok; simp at hok
    | true =>
      rw [hx, if_pos rfl] at hok
      have ho2 : Okp s f (p + 2) := ⟨by omega, by omega, hx⟩
      have hl2 := ho2.lt
      refine ⟨by omega, by omega, (Pt.lst (Pt.ty (nx s) f) (nx s) 5 (Pt.ty (nx s) f (p + 2)).2).2 - 1, ?_⟩
      rw [hks]
      refine ⟨rfl, ?_, hx, (Pt.chain_lkids 5 _ hok).1⟩
      intro h41
      cases f with
      | zero => omega
      | succ f =>
        have : Pt.ty (nx s) (f + 1) (p + 2) = (false, p + 2) := by simp [Pt.ty, h41, Pt.isLeaf]
        rw [this] at hx
        cases hx
  · rw [if_neg h40] at hok
    simp at hok

set_option maxRecDepth 100000 in
set_option maxHeartbeats 1000000 in
theorem part_any (s : ByteArray) (f p : Nat) (k : Int) (w : World) (h : Okl s f p) (hs : s.size ≤ 40) (hk1 : -1 ≤ k) (hk2 : k ≤ 1000) :
    Calls Try.prog 83 #[.string s, .int .i64 p, .int .i64 k] w fun e w' => e = .returned (.int .i64 (partOf (Pt.kids (nx s) f p) k)) ∧ Below w.heap.size w w' := by
  obtain ⟨hp2, hf2, c, hch⟩ := h.chain
  have hkl := kids_len (nx s) f p
  generalize Pt.kids (nx s) f p = ks at *
  have HCH := hide hch
  have HF2 := hide hf2
  clear hch h hf2
  go_enter Try.func83, Try.ntmps83
  go_wp2
  go_loopw [1, 7] (fun a n wr => ∃ (j start : Nat) (rest : List Nat), a = .int .i64 start ∧ n = .int .i64 j ∧ start ≤ s.size ∧ s.size - start < f ∧ j + rest.length = ks.length ∧ Hid (ks.drop j = rest ∧ Pt.chain (Pt.ty (nx s) f) (nx s) start rest c) ∧ ¬ (0 ≤ k ∧ k < j) ∧ Below w.heap.size w wr) (fun _ n _ => 7 - (intOf n).toNat)
  case atStart => exact ⟨0, p + 2, ks, by go_num, rfl, hp2, unhide HF2, by omega, ⟨rfl, unhide HCH⟩, by omega, Below.refl _ _⟩
  case round =>
    obtain ⟨j, start, rest, rfl, rfl, hle, hfu, hlen, HR, hnk, hb⟩ := hrel
    clear HCH HF2 hp2
    match rest, hlen, HR with
    | [], hlen, HR =>
      obtain ⟨rfl, hc⟩ := (unhide HR).2
      have hlt := nx_pos hc (by omega)
      have hne : ((((s[start]).toNat : Nat) : Int) != 41) = false := by rw [← nx_in hlt, hc]; rfl
      simp only [List.length_nil, Nat.add_zero] at hlen
      go_wp2
      go_ret
      have e : partOf ks k = j := by
        unfold partOf
        split
        · rw [List.getElem?_eq_none (by omega)]
          simpa using hlen.symm
        · exact hlen.symm
      exact ⟨by rw [e]; rfl, hb⟩
    | q :: r, hlen, HR =>
      obtain ⟨hd, rfl, h41, hT, hr⟩ := unhide HR
      have ho : Okp s f start := ⟨hle, hfu, hT⟩
      have hlt := ho.lt
      have hen := ho.ends
      have hne : ((((s[start]).toNat : Nat) : Int) != 41) = true := by rw [← nx_in hlt]; simp; omega
      simp only [List.length_cons] at hlen
      have hj : j < ks.length := by omega
      have hdj : ks[j]? = some start := by
        have h1 : (ks.drop j)[0]? = some start := by rw [hd]; rfl
        rw [List.getElem?_drop] at h1
        simpa using h1
      have hdr : ks.drop (j + 1) = r := by
        rw [← List.drop_drop, hd]
        rfl
      have HX := hide (And.intro hdr hr)
      have HDJ := hide hdj
      clear HR hd hr hT h41 hdr hdj
      by_cases hjk : (j : Int) = k
      · have hje : ((j : Int) == k) = true := by simpa using hjk
        have HJK := hide hjk
        clear hjk
        go_wp2
        go_ret
        have e : partOf ks k = start := by
          unfold partOf
          rw [if_pos (by have := unhide HJK; omega), show k.toNat = j by have := unhide HJK; omega, unhide HDJ]
          rfl
        exact ⟨by rw [e]; rfl, hb⟩
      · have hje : ((j : Int) == k) = false := by simpa using hjk
        have HB := hide (fun w => behind_any s f start w hle hs hfu)
        obtain ⟨q, hq⟩ : ∃ q, q = (Pt.ty (nx s) f start).2 := ⟨_, rfl⟩
        rw [← hq] at HB hen HX
        clear hq
        go_wp2_with fail
        refine ((unhide HB) _).mono ?_
        rintro e w2 ⟨rfl, hb2⟩
        have hb' := hb.trans (hb2.mono hb.size)
        clear hb2 hb
        go_wp2
        go_roundw
        case rel => exact ⟨j + 1, q, r, rfl, by go_num, by omega, by omega, by omega, unhide HX, by omega, hb'⟩
        case measure => simp [intOf]; omega

end Go.Proofs.Ytblomippkddgiaa.V
