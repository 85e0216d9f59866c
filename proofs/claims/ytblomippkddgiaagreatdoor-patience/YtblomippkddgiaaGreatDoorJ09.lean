/-
  Joined: VRefType VRefMost VEat.
-/
import Derived.Test.YtblomippkddgiaaGreatDoorJ07
import Derived.Test.YtblomippkddgiaaGreatDoorJ08
/-
  The document's own small functions along a type's text: a digit, where a type ends, the types of a record or a choice, the least and the greatest number.
-/
namespace Go.Proofs.YtblomippkddgiaaGreatDoor.V
open Go.RowKit

set_option maxHeartbeats 400000 in
theorem digit_at (s : ByteArray) (p : Nat) (w : World) (hp : p < s.size) (hd : 48 ≤ nx s p) :
    Calls Tryz.prog 260 #[.string s, .int .i64 p] w fun e w' => e = .returned (.int .i64 ((nx s p : Int) - 48)) ∧ w' = w := by
  have hb := nx_lt s p
  rw [nx_in hp] at *
  go_enter Tryz.func260, Tryz.ntmps260
  go_wp2
  go_ret
  exact ⟨rfl, rfl⟩

structure BInv (s : ByteArray) (w : World) (res p : Nat) (S : List Want) (v : Value) (wr : World) : Prop where
  le : p ≤ s.size
  stk : Stk wr w.heap.size v S
  len : S.length ≤ 2 * p + 1
  all : ∀ x ∈ S, okW (p + 1) x
  below : Below w.heap.size w wr
  run : Pt.bh (nx s) (s.size - p) S p = res

theorem binv_first (s : ByteArray) (w : World) (p : Nat) (hp : p ≤ s.size) : BInv s w (Pt.bh (nx s) (s.size - p) [(1, 0, 1)] p) p [(1, 0, 1)] (.slice (some ⟨w.heap.size, 0, none⟩) 1 1) (w.alloc (.cells #[.int .i64 1, .int .i64 0, .int .i64 1] 293)) := by
  refine ⟨hp, stk_new w _ rfl (Nat.le_refl _) rfl (by simp [wcells, wc]) (by omega), by simp, ?_, (Below.refl _ _).alloc (Nat.le_refl _) _, rfl⟩
  intro x hx
  simp at hx
  subst hx
  unfold okW
  simp

theorem binv_next {s : ByteArray} {w wr w2 : World} {res : Nat} {p : Nat} {S S' : List Want} {v v' : Value} (I : BInv s w res p S v wr) (hp : p < s.size) (hg : Pt.goes S (nx s p) = some S') (hb2 : Below wr.heap.size wr w2) (hs : Stk w2 wr.heap.size v' S') :
    BInv s w res (p + 1) S' v' w2 := by
  obtain ⟨h1, h2⟩ := goes_bound I.all hg
  have hsz := I.below.size
  have hl := I.len
  refine ⟨hp, own_le hs hsz, by omega, h2, I.below.trans (hb2.mono hsz), ?_⟩
  rw [← Pt.bh_step hp hg]
  exact I.run

set_option maxRecDepth 100000 in
set_option maxHeartbeats 1000000 in
theorem behind_bh (s : ByteArray) (p : Nat) (w : World) (hp : p ≤ s.size) (hs : s.size ≤ 40) :
    Calls Tryz.prog 261 #[.string s, .int .i64 p] w fun e w' => e = .returned (.int .i64 (Pt.bh (nx s) (s.size - p) [(1, 0, 1)] p)) ∧ Below w.heap.size w w' := by
  have I0 := hide (binv_first s w p hp)
  generalize Pt.bh (nx s) (s.size - p) [(1, 0, 1)] p = res at *
  go_enter Tryz.func261, Tryz.ntmps261
  go_wp2
  go_loopw [1, 5] (fun i v wr => ∃ (p : Nat) (S : List Want), i = .int .i64 p ∧ BInv s w res p S v wr) (fun i _ _ => s.size - (intOf i).toNat)
  case atStart => exact ⟨p, _, rfl, unhide I0⟩
  case round =>
    obtain ⟨p, S, rfl, I⟩ := hrel
    clear I0 hp
    have hle := I.le
    have hSl := I.len
    have hbb := I.below
    have hSw : ∀ x ∈ S, 1 ≤ x.1 ∧ x.1 ≤ 5 ∧ x.2.1 ≤ 6 ∧ x.2.2 ≤ 1000 := fun x hx => by
      have := I.all x hx
      unfold okW at this
      omega
    have HI := hide I
    have hst := I.stk
    have hrun := I.run
    clear I
    match S, HI, hst, hSl, hSw, hrun with
    | [], HI, hst, hSl, hSw, hrun =>
      obtain ⟨a, cap, rfl⟩ : ∃ a cap, u5 = .slice a 0 cap := by
        obtain ⟨_, h⟩ := hst
        rcases h with ⟨hv, _⟩ | ⟨gb, cap, cur, hv, _⟩
        · exact ⟨_, _, hv⟩
        · exact ⟨_, _, hv⟩
      obtain rfl : p = res := by rw [← hrun, Pt.bh_nil]
      clear hst hrun hSl hSw
      go_wp2
      go_ret
      exact ⟨rfl, hbb⟩
    | x :: R, HI, hst, hSl, hSw, hrun =>
      obtain ⟨gb, cap, rfl, hcap, hgl, _, f0, f1, f2⟩ := stk_open hst
      clear f0 f1 f2
      simp only [List.length_cons] at hSl
      by_cases hlt : p < s.size
      · have hc : nx s p = (s[p]).toNat := nx_in hlt
        have HC := hide hc
        have HG := hide (goes_any (x :: R) _ (s[p]).toNat wr (own_le hst (Nat.zero_le _)) (by simp; omega) hSw)
        have HRUN := hide hrun
        clear hc hst hSw hrun
        cases hg : Pt.goes (x :: R) (s[p]).toNat with
        | none =>
          obtain rfl : p = res := by rw [← unhide HRUN, Pt.bh_stop hlt (by rw [unhide HC]; exact hg)]
          have HGG : Hid (Calls Tryz.prog 205 #[.slice (some ⟨gb, 0, none⟩) (R.length + 1) cap, .int .u8 (s[p]).toNat] wr fun e w' => ∃ v, e = .returned (.tuple #[v, .bool false]) ∧ Below wr.heap.size wr w') := by
            refine (unhide HG).mono ?_
            rintro e w' ⟨v', rfl, hb, _⟩
            rw [hg]
            exact ⟨v', rfl, hb⟩
          clear HG hg HRUN
          go_wp2_with fail
          refine (unhide HGG).mono ?_
          rintro e w2 ⟨v2, rfl, hb2⟩
          go_wp2
          go_ret
          exact ⟨rfl, hbb.trans (hb2.mono hbb.size)⟩
        | some S' =>
          have HGG : Hid (Calls Tryz.prog 205 #[.slice (some ⟨gb, 0, none⟩) (R.length + 1) cap, .int .u8 (s[p]).toNat] wr fun e w' => ∃ v, e = .returned (.tuple #[v, .bool true]) ∧ Below wr.heap.size wr w' ∧ Stk w' wr.heap.size v S') := by
            refine (unhide HG).mono ?_
            rintro e w' ⟨v', rfl, hb, hst⟩
            rw [hg]
            exact ⟨v', rfl, hb, hst S' hg⟩
          have HS : Hid (Pt.goes (x :: R) (nx s p) = some S') := by rw [unhide HC]; exact hg
          clear HG hg HRUN
          go_wp2_with fail
          refine (unhide HGG).mono ?_
          rintro e w2 ⟨v2, rfl, hb2, hst2⟩
          have J := hide (binv_next (unhide HI) hlt (unhide HS) hb2 hst2)
          clear hb2 hst2
          go_wp2
          go_roundw
          case rel => exact ⟨p + 1, _, by go_num, unhide J⟩
          case measure => simp [intOf]; omega
      · obtain rfl : p = s.size := by omega
        obtain rfl : s.size = res := by rw [← hrun, Pt.bh_out]
        clear hst hrun hSw
        go_wp2
        go_ret
        exact ⟨rfl, hbb⟩

theorem behind_any (s : ByteArray) (f p : Nat) (w : World) (hp : p ≤ s.size) (hs : s.size ≤ 40) (hf : s.size - p < f) :
    Calls Tryz.prog 261 #[.string s, .int .i64 p] w fun e w' => e = .returned (.int .i64 (Pt.ty (nx s) f p).2) ∧ Below w.heap.size w w' := by
  have h := behind_bh s p w hp hs
  rw [Pt.behind_ty (f := f) (fun p hp => nx_out hp) hp hf] at h
  exact h

def partOf (ks : List Nat) (k : Int) : Nat := if 0 ≤ k then (ks[k.toNat]?).getD ks.length else ks.length

/- a type stands at place p: it is one, and there is fuel for it -/
structure Okp (s : ByteArray) (f p : Nat) : Prop where
  le : p ≤ s.size
  fuel : s.size - p < f
  ok : (Pt.ty (nx s) f p).1 = true

theorem Okp.ends {s : ByteArray} {f p : Nat} (h : Okp s f p) : p < (Pt.ty (nx s) f p).2 ∧ (Pt.ty (nx s) f p).2 ≤ s.size := by
  obtain ⟨_, hb, _⟩ := Pt.agree (g := nx s) (n := s.size) (fun p hp => nx_out hp) f p 0 1 0 [] h.le h.fuel
  exact hb h.ok
theorem Okp.lt {s : ByteArray} {f p : Nat} (h : Okp s f p) : p < s.size := by
  have := h.ends
  omega

theorem chain_ok {s : ByteArray} {f : Nat} : ∀ (ks : List Nat) (start c : Nat), Pt.chain (Pt.ty (nx s) f) (nx s) start ks c → start ≤ s.size → s.size - start < f → ∀ k ∈ ks, start ≤ k ∧ Okp s f k := by
  intro ks
  induction ks with
  | nil => intro start c _ _ _ k hk; cases hk
  | cons a ks ih =>
    intro start c h hle hf k hk
    obtain ⟨rfl, _, hT, hr⟩ := h
    have ho : Okp s f start := ⟨hle, hf, hT⟩
    have he := ho.ends
    rcases List.mem_cons.1 hk with rfl | hk
    · exact ⟨Nat.le_refl _, ho⟩
    · have := ih _ c hr he.2 (by omega) k hk
      exact ⟨by omega, this.2⟩

/- a record or a choice at place p -/
structure Okl (s : ByteArray) (f p : Nat) : Prop where
  here : nx s p = 114 ∨ nx s p = 117
  ok : Okp s (f + 1) p
theorem Okl.chain {s : ByteArray} {f p : Nat} (h : Okl s f p) : p + 2 ≤ s.size ∧ s.size - (p + 2) < f ∧ ∃ c, Pt.chain (Pt.ty (nx s) f) (nx s) (p + 2) (Pt.kids (nx s) f p) c := by
  have hlt := h.ok.lt
  have hfu := h.ok.fuel
  have n1 : ¬ nx s p = 97 := by have := h.here; omega
  have n2 : ¬ nx s p = 113 := by have := h.here; omega
  have n3 : ¬ nx s p = 101 := by have := h.here; omega
  have n4 : Pt.isLeaf (nx s p) = false := Pt.isLeaf_of (by have := h.here; omega)
  have hok := h.ok.ok
  have hty : Pt.ty (nx s) (f + 1) p = (if nx s (p + 1) = 40 then (if (Pt.ty (nx s) f (p + 2)).1 then Pt.lst (Pt.ty (nx s) f) (nx s) 5 (Pt.ty (nx s) f (p + 2)).2 else (false, (Pt.ty (nx s) f (p + 2)).2)) else (false, p + 1)) := by
    simp [Pt.ty, n4, n3, n1, n2, h.here]
  rw [hty] at hok
  have hks : Pt.kids (nx s) f p = (p + 2) :: Pt.lkids (Pt.ty (nx s) f) (nx s) 5 (Pt.ty (nx s) f (p + 2)).2 := by simp [Pt.kids, n1, n2, h.here]
  by_cases h40 : nx s (p + 1) = 40
  · have hlt2 : p + 1 < s.size := nx_pos h40 (by omega)
    rw [if_pos h40] at hok
    cases hx : (Pt.ty (nx s) f (p + 2)).1 with
    | false => rw [hx] at hok; simp at hok
    | true =>
      rw [hx, if_pos rfl] at hok
      have ho2 : Okp s f (p + 2) := ⟨by omega, by omega, hx⟩
      have hl2 := ho2.lt
      refine ⟨by omega, by omega, (Pt.lst (Pt.ty (nx s) f) (nx s) 5 (Pt.ty (nx s) f (p + 2)).2).2 - 1, ?_⟩
      rw [hks]
      refine ⟨rfl, ?_, hx, (Pt.chain_lkids 5 _ hok).1⟩
      intro h41
      cases f with
      | zero => omega
      | succ f =>
        have : Pt.ty (nx s) (f + 1) (p + 2) = (false, p + 2) := by simp [Pt.ty, h41, Pt.isLeaf]
        rw [this] at hx
        cases hx
  · rw [if_neg h40] at hok
    simp at hok

set_option maxRecDepth 100000 in
set_option maxHeartbeats 1000000 in
theorem part_any (s : ByteArray) (f p : Nat) (k : Int) (w : World) (h : Okl s f p) (hs : s.size ≤ 40) (hk1 : -1 ≤ k) (hk2 : k ≤ 1000) :
    Calls Tryz.prog 244 #[.string s, .int .i64 p, .int .i64 k] w fun e w' => e = .returned (.int .i64 (partOf (Pt.kids (nx s) f p) k)) ∧ Below w.heap.size w w' := by
  obtain ⟨hp2, hf2, c, hch⟩ := h.chain
  have hkl := kids_len (nx s) f p
  generalize Pt.kids (nx s) f p = ks at *
  have HCH := hide hch
  have HF2 := hide hf2
  clear hch h hf2
  go_enter Tryz.func244, Tryz.ntmps244
  go_wp2
  go_loopw [1, 7] (fun a n wr => ∃ (j start : Nat) (rest : List Nat), a = .int .i64 start ∧ n = .int .i64 j ∧ start ≤ s.size ∧ s.size - start < f ∧ j + rest.length = ks.length ∧ Hid (ks.drop j = rest ∧ Pt.chain (Pt.ty (nx s) f) (nx s) start rest c) ∧ ¬ (0 ≤ k ∧ k < j) ∧ Below w.heap.size w wr) (fun _ n _ => 7 - (intOf n).toNat)
  case atStart => exact ⟨0, p + 2, ks, by go_num, rfl, hp2, unhide HF2, by omega, ⟨rfl, unhide HCH⟩, by omega, Below.refl _ _⟩
  case round =>
    obtain ⟨j, start, rest, rfl, rfl, hle, hfu, hlen, HR, hnk, hb⟩ := hrel
    clear HCH HF2 hp2
    match rest, hlen, HR with
    | [], hlen, HR =>
      obtain ⟨rfl, hc⟩ := (unhide HR).2
      have hlt := nx_pos hc (by omega)
      have hne : ((((s[start]).toNat : Nat) : Int) != 41) = false := by rw [← nx_in hlt, hc]; rfl
      simp only [List.length_nil, Nat.add_zero] at hlen
      go_wp2
      go_ret
      have e : partOf ks k = j := by
        unfold partOf
        split
        · rw [List.getElem?_eq_none (by omega)]
          simpa using hlen.symm
        · exact hlen.symm
      exact ⟨by rw [e]; rfl, hb⟩
    | q :: r, hlen, HR =>
      obtain ⟨hd, rfl, h41, hT, hr⟩ := unhide HR
      have ho : Okp s f start := ⟨hle, hfu, hT⟩
      have hlt := ho.lt
      have hen := ho.ends
      have hne : ((((s[start]).toNat : Nat) : Int) != 41) = true := by rw [← nx_in hlt]; simp; omega
      simp only [List.length_cons] at hlen
      have hj : j < ks.length := by omega
      have hdj : ks[j]? = some start := by
        have h1 : (ks.drop j)[0]? = some start := by rw [hd]; rfl
        rw [List.getElem?_drop] at h1
        simpa using h1
      have hdr : ks.drop (j + 1) = r := by
        rw [← List.drop_drop, hd]
        rfl
      have HX := hide (And.intro hdr hr)
      have HDJ := hide hdj
      clear HR hd hr hT h41 hdr hdj
      by_cases hjk : (j : Int) = k
      · have hje : ((j : Int) == k) = true := by simpa using hjk
        have HJK := hide hjk
        clear hjk
        go_wp2
        go_ret
        have e : partOf ks k = start := by
          unfold partOf
          rw [if_pos (by have := unhide HJK; omega), show k.toNat = j by have := unhide HJK; omega, unhide HDJ]
          rfl
        exact ⟨by rw [e]; rfl, hb⟩
      · have hje : ((j : Int) == k) = false := by simpa using hjk
        have HB := hide (fun w => behind_any s f start w hle hs hfu)
        obtain ⟨q, hq⟩ : ∃ q, q = (Pt.ty (nx s) f start).2 := ⟨_, rfl⟩
        rw [← hq] at HB hen HX
        clear hq
        go_wp2_with fail
        refine ((unhide HB) _).mono ?_
        rintro e w2 ⟨rfl, hb2⟩
        have hb' := hb.trans (hb2.mono hb.size)
        clear hb2 hb
        go_wp2
        go_roundw
        case rel => exact ⟨j + 1, q, r, rfl, by go_num, by omega, by omega, by omega, unhide HX, by omega, hb'⟩
        case measure => simp [intOf]; omega

end Go.Proofs.YtblomippkddgiaaGreatDoor.V
/-
  The document's own 'inner', 'within' and 'most', and what a type that is one holds at its place.
-/
namespace Go.Proofs.YtblomippkddgiaaGreatDoor.V
open Go.RowKit

theorem okp_cases {s : ByteArray} {f p : Nat} (h : Okp s (f + 1) p) :
    (nx s p = 98 ∨ nx s p = 99 ∨ nx s p = 105 ∨ nx s p = 115) ∨ (nx s p = 101 ∧ p + 1 < s.size ∧ 49 ≤ nx s (p + 1) ∧ nx s (p + 1) ≤ 57) ∨
    (nx s p = 97 ∧ p + 1 < s.size ∧ 49 ≤ nx s (p + 1) ∧ nx s (p + 1) ≤ 57 ∧ Okp s f (p + 2)) ∨ (nx s p = 113 ∧ p + 1 < s.size ∧ 48 ≤ nx s (p + 1) ∧ nx s (p + 1) ≤ 57 ∧ Okp s f (p + 2)) ∨ Okl s f p := by
  have hlt := h.lt
  have hfu := h.fuel
  have hok := h.ok
  by_cases hl : nx s p = 98 ∨ nx s p = 99 ∨ nx s p = 105 ∨ nx s p = 115
  · exact Or.inl hl
  have hlf : Pt.isLeaf (nx s p) = false := by simp [Pt.isLeaf]; omega
  by_cases he : nx s p = 101
  · have hty : Pt.ty (nx s) (f + 1) p = Pt.dig (nx s) 1 (p + 1) := by simp [Pt.ty, he, Pt.isLeaf]
    rw [hty] at hok
    unfold Pt.dig at hok
    split at hok
    · rename_i hc
      exact Or.inr (Or.inl ⟨he, nx_pos (s := s) (p := p + 1) rfl (by omega), by omega, hc.2⟩)
    · cases hok
  by_cases ha : nx s p = 97
  · have hty : Pt.ty (nx s) (f + 1) p = (if (Pt.dig (nx s) 1 (p + 1)).1 then Pt.ty (nx s) f (p + 2) else (false, p + 1)) := by simp [Pt.ty, ha, Pt.isLeaf]
    rw [hty] at hok
    by_cases hc : 48 + 1 ≤ nx s (p + 1) ∧ nx s (p + 1) ≤ 57
    · have hd : Pt.dig (nx s) 1 (p + 1) = (true, p + 2) := by unfold Pt.dig; rw [if_pos hc]
      rw [hd, if_pos rfl] at hok
      have hl1 := nx_pos (s := s) (p := p + 1) rfl (by omega)
      exact Or.inr (Or.inr (Or.inl ⟨ha, hl1, by omega, hc.2, ⟨by omega, by omega, hok⟩⟩))
    · have hd : Pt.dig (nx s) 1 (p + 1) = (false, p + 1) := by unfold Pt.dig; rw [if_neg hc]
      rw [hd, if_neg (by simp)] at hok
      cases hok
  by_cases hq : nx s p = 113
  · have hty : Pt.ty (nx s) (f + 1) p = (if (Pt.dig (nx s) 0 (p + 1)).1 then Pt.ty (nx s) f (p + 2) else (false, p + 1)) := by simp [Pt.ty, hq, Pt.isLeaf]
    rw [hty] at hok
    by_cases hc : 48 + 0 ≤ nx s (p + 1) ∧ nx s (p + 1) ≤ 57
    · have hd : Pt.dig (nx s) 0 (p + 1) = (true, p + 2) := by unfold Pt.dig; rw [if_pos hc]
      rw [hd, if_pos rfl] at hok
      have hl1 := nx_pos (s := s) (p := p + 1) rfl (by omega)
      exact Or.inr (Or.inr (Or.inr (Or.inl ⟨hq, hl1, by omega, hc.2, ⟨by omega, by omega, hok⟩⟩)))
    · have hd : Pt.dig (nx s) 0 (p + 1) = (false, p + 1) := by unfold Pt.dig; rw [if_neg hc]
      rw [hd, if_neg (by simp)] at hok
      cases hok
  by_cases hr : nx s p = 114 ∨ nx s p = 117
  · exact Or.inr (Or.inr (Or.inr (Or.inr ⟨hr, h⟩)))
  · have hty : Pt.ty (nx s) (f + 1) p = (false, p) := by simp [Pt.ty, hlf, he, ha, hq, hr]
    rw [hty] at hok
    cases hok

theorem okl_kids {s : ByteArray} {f p : Nat} (h : Okl s f p) : ∀ q ∈ Pt.kids (nx s) f p, p < q ∧ Okp s f q := by
  obtain ⟨h1, h2, c, hc⟩ := h.chain
  intro q hq
  have := chain_ok _ _ _ hc h1 h2 q hq
  exact ⟨by omega, this.2⟩

theorem byte_fact {s : ByteArray} {p c : Nat} (hp : p < s.size) (h : nx s p = c) : ((s[p]).toNat : Int) = (c : Int) := by rw [← nx_in hp, h]

def loOf (c : Nat) : Int := if c = 105 then -32768 else 0
def hiOf (g : Nat → Nat) (f p : Nat) : Int :=
  if g p = 98 then 1 else if g p = 99 then 65535 else if g p = 105 then 32767 else if g p = 101 then (g (p + 1) : Int) - 48 - 1 else if g p = 113 then (g (p + 1) : Int) - 48 else ((Pt.kids g f p).length : Int) - 1

set_option maxHeartbeats 400000 in
theorem inner_a (s : ByteArray) (p : Nat) (w : World) (hp : p + 1 < s.size) (ha : nx s p = 97) (hd : 48 ≤ nx s (p + 1)) (hs : s.size ≤ 40) :
    Calls Tryz.prog 241 #[.string s, .int .i64 p] w fun e w' => e = .returned (.int .i64 ((nx s (p + 1) : Int) - 48)) ∧ Below w.heap.size w w' := by
  have HD := hide (fun w => digit_at s (p + 1) w hp hd)
  have hb : ((((s[p]).toNat : Nat) : Int) == 97) = true := by rw [byte_fact (by omega) ha]; rfl
  clear hd ha
  go_enter Tryz.func241, Tryz.ntmps241
  go_wp2_with fail
  refine ((unhide HD) _).mono ?_
  rintro e w1 ⟨rfl, rfl⟩
  go_wp2
  go_ret
  exact ⟨rfl, Below.refl _ _⟩

set_option maxHeartbeats 400000 in
theorem inner_r (s : ByteArray) (f p : Nat) (w : World) (h : Okl s f p) (hs : s.size ≤ 40) :
    Calls Tryz.prog 241 #[.string s, .int .i64 p] w fun e w' => e = .returned (.int .i64 ((Pt.kids (nx s) f p).length : Int)) ∧ Below w.heap.size w w' := by
  have hp := h.ok.lt
  have HD := hide (fun w => part_any s f p (-1) w h hs (by omega) (by omega))
  have hb : ((((s[p]).toNat : Nat) : Int) == 97) = false := by rw [← nx_in hp]; have := h.here; simp; omega
  rw [show partOf (Pt.kids (nx s) f p) (-1) = (Pt.kids (nx s) f p).length from rfl] at HD
  clear h
  go_enter Tryz.func241, Tryz.ntmps241
  go_wp2_with fail
  refine ((unhide HD) _).mono ?_
  rintro e w1 ⟨rfl, hb1⟩
  go_wp2
  go_ret
  exact ⟨rfl, hb1⟩

set_option maxHeartbeats 400000 in
theorem within_a (s : ByteArray) (p k : Nat) (w : World) (hp : p < s.size) (ha : nx s p = 97) (hs : s.size ≤ 40) :
    Calls Tryz.prog 242 #[.string s, .int .i64 p, .int .i64 k] w fun e w' => e = .returned (.int .i64 ((p : Int) + 2)) ∧ Below w.heap.size w w' := by
  have hb : ((((s[p]).toNat : Nat) : Int) == 97) = true := by rw [byte_fact (by omega) ha]; rfl
  clear ha
  go_enter Tryz.func242, Tryz.ntmps242
  go_wp2
  go_ret
  exact ⟨rfl, Below.refl _ _⟩

set_option maxHeartbeats 400000 in
theorem within_r (s : ByteArray) (f p k : Nat) (w : World) (h : Okl s f p) (hs : s.size ≤ 40) (hk : k ≤ 100) :
    Calls Tryz.prog 242 #[.string s, .int .i64 p, .int .i64 k] w fun e w' => e = .returned (.int .i64 (partOf (Pt.kids (nx s) f p) k)) ∧ Below w.heap.size w w' := by
  have hp := h.ok.lt
  have HD := hide (fun w => part_any s f p k w h hs (by omega) (by omega))
  have hb : ((((s[p]).toNat : Nat) : Int) == 97) = false := by rw [← nx_in hp]; have := h.here; simp; omega
  clear h
  go_enter Tryz.func242, Tryz.ntmps242
  go_wp2_with fail
  refine ((unhide HD) _).mono ?_
  rintro e w1 ⟨rfl, hb1⟩
  go_wp2
  go_ret
  exact ⟨rfl, hb1⟩

set_option maxHeartbeats 400000 in
theorem most_98 (s : ByteArray) (f p : Nat) (w : World) (hp : p < s.size) (hc : nx s p = 98) :
    Calls Tryz.prog 243 #[.string s, .int .i64 p] w fun e w' => e = .returned (.tuple #[.int .i64 (loOf (nx s p)), .int .i64 (hiOf (nx s) f p)]) ∧ Below w.heap.size w w' := by
  have e1 : loOf (nx s p) = 0 := by rw [hc]; rfl
  have e2 : hiOf (nx s) f p = 1 := by simp [hiOf, hc]
  rw [e1, e2]
  have hb := byte_fact hp hc
  go_enter Tryz.func243, Tryz.ntmps243
  go_wp2
  go_ret2
  exact ⟨rfl, Below.refl _ _⟩

set_option maxHeartbeats 400000 in
theorem most_99 (s : ByteArray) (f p : Nat) (w : World) (hp : p < s.size) (hc : nx s p = 99) :
    Calls Tryz.prog 243 #[.string s, .int .i64 p] w fun e w' => e = .returned (.tuple #[.int .i64 (loOf (nx s p)), .int .i64 (hiOf (nx s) f p)]) ∧ Below w.heap.size w w' := by
  have e1 : loOf (nx s p) = 0 := by rw [hc]; rfl
  have e2 : hiOf (nx s) f p = 65535 := by simp [hiOf, hc]
  rw [e1, e2]
  have hb := byte_fact hp hc
  go_enter Tryz.func243, Tryz.ntmps243
  go_wp2
  go_ret2
  exact ⟨rfl, Below.refl _ _⟩

set_option maxHeartbeats 400000 in
theorem most_105 (s : ByteArray) (f p : Nat) (w : World) (hp : p < s.size) (hc : nx s p = 105) :
    Calls Tryz.prog 243 #[.string s, .int .i64 p] w fun e w' => e = .returned (.tuple #[.int .i64 (loOf (nx s p)), .int .i64 (hiOf (nx s) f p)]) ∧ Below w.heap.size w w' := by
  have e1 : loOf (nx s p) = -32768 := by rw [hc]; rfl
  have e2 : hiOf (nx s) f p = 32767 := by simp [hiOf, hc]
  rw [e1, e2]
  have hb := byte_fact hp hc
  go_enter Tryz.func243, Tryz.ntmps243
  go_wp2
  go_ret2
  exact ⟨rfl, Below.refl _ _⟩

set_option maxHeartbeats 400000 in
theorem most_101 (s : ByteArray) (f p : Nat) (w : World) (hp : p + 1 < s.size) (hs : s.size ≤ 40) (hc : nx s p = 101) (hd : 48 ≤ nx s (p + 1)) :
    Calls Tryz.prog 243 #[.string s, .int .i64 p] w fun e w' => e = .returned (.tuple #[.int .i64 (loOf (nx s p)), .int .i64 (hiOf (nx s) f p)]) ∧ Below w.heap.size w w' := by
  have HD := hide (fun w => digit_at s (p + 1) w hp hd)
  have hx := nx_lt s (p + 1)
  have e1 : loOf (nx s p) = 0 := by rw [hc]; rfl
  have e2 : hiOf (nx s) f p = (nx s (p + 1) : Int) - 48 - 1 := by simp [hiOf, hc]
  rw [e1, e2]
  have hb := byte_fact (by omega) hc
  generalize nx s (p + 1) = d at *
  go_enter Tryz.func243, Tryz.ntmps243
  go_wp2_with fail
  refine ((unhide HD) _).mono ?_
  rintro e w1 ⟨rfl, rfl⟩
  go_wp2
  go_ret2
  exact ⟨rfl, Below.refl _ _⟩

set_option maxHeartbeats 400000 in
theorem most_113 (s : ByteArray) (f p : Nat) (w : World) (hp : p + 1 < s.size) (hs : s.size ≤ 40) (hc : nx s p = 113) (hd : 48 ≤ nx s (p + 1)) :
    Calls Tryz.prog 243 #[.string s, .int .i64 p] w fun e w' => e = .returned (.tuple #[.int .i64 (loOf (nx s p)), .int .i64 (hiOf (nx s) f p)]) ∧ Below w.heap.size w w' := by
  have HD := hide (fun w => digit_at s (p + 1) w hp hd)
  have hx := nx_lt s (p + 1)
  have e1 : loOf (nx s p) = 0 := by rw [hc]; rfl
  have e2 : hiOf (nx s) f p = (nx s (p + 1) : Int) - 48 := by simp [hiOf, hc]
  rw [e1, e2]
  have hb := byte_fact (by omega) hc
  generalize nx s (p + 1) = d at *
  go_enter Tryz.func243, Tryz.ntmps243
  go_wp2_with fail
  refine ((unhide HD) _).mono ?_
  rintro e w1 ⟨rfl, rfl⟩
  go_wp2
  go_ret2
  exact ⟨rfl, Below.refl _ _⟩

set_option maxHeartbeats 400000 in
theorem most_u (s : ByteArray) (f p : Nat) (w : World) (h : Okl s f p) (hs : s.size ≤ 40) (hc : nx s p = 117) :
    Calls Tryz.prog 243 #[.string s, .int .i64 p] w fun e w' => e = .returned (.tuple #[.int .i64 (loOf (nx s p)), .int .i64 (hiOf (nx s) f p)]) ∧ Below w.heap.size w w' := by
  have hp := h.ok.lt
  have HD := hide (fun w => part_any s f p (-1) w h hs (by omega) (by omega))
  rw [show partOf (Pt.kids (nx s) f p) (-1) = (Pt.kids (nx s) f p).length from rfl] at HD
  have e1 : loOf (nx s p) = 0 := by rw [hc]; rfl
  have e2 : hiOf (nx s) f p = ((Pt.kids (nx s) f p).length : Int) - 1 := by simp [hiOf, hc]
  have hx := kids_len (nx s) f p
  rw [e1, e2]
  have hb := byte_fact (by omega) hc
  generalize (Pt.kids (nx s) f p).length = d at *
  clear h
  go_enter Tryz.func243, Tryz.ntmps243
  go_wp2_with fail
  refine ((unhide HD) _).mono ?_
  rintro e w1 ⟨rfl, hb1⟩
  go_wp2
  go_ret2
  exact ⟨rfl, hb1⟩

end Go.Proofs.YtblomippkddgiaaGreatDoor.V
/-
  Which items a value of a type takes, and which of them are strings: by the type's text. Items as they lie in memory.
-/
namespace Go.Proofs.YtblomippkddgiaaGreatDoor.V
open Go.RowKit

abbrev It := Int × ByteArray
abbrev Eaten := Option (List Bool × List It)

def headOf (g : Nat → Nat) (f p : Nat) (v : List It) : Option (List Bool × List Nat × List It) :=
  if g p = 97 then some ([], List.replicate (g (p + 1) - 48) (p + 2), v)
  else if g p = 114 then some ([], Pt.kids g f p, v)
  else match v with
    | [] => none
    | x :: r =>
      if g p = 115 then (if x.1 = 0 ∧ x.2.size ≤ 14 then some ([true], [], r) else none)
      else if x.2.size = 0 ∧ loOf (g p) ≤ x.1 ∧ x.1 ≤ hiOf g f p then
        some ([false], (if g p = 117 then [partOf (Pt.kids g f p) x.1] else if g p = 113 then List.replicate x.1.toNat (p + 2) else []), r)
      else none

def joinE (k0 : List Bool) : Eaten → Eaten
  | none => none
  | some (k, r) => some (k0 ++ k, r)

def seqE (E : Nat → List It → Eaten) : List Nat → List It → Eaten
  | [], v => some ([], v)
  | q :: qs, v => match E q v with
    | none => none
    | some (k, r) => joinE k (seqE E qs r)

def eat (g : Nat → Nat) : Nat → Nat → List It → Eaten
  | 0, _, _ => none
  | f + 1, p, v => match headOf g f p v with
    | none => none
    | some (k0, qs, r) => joinE k0 (seqE (eat g f) qs r)

theorem joinE_nil (e : Eaten) : joinE [] e = e := by
  cases e with
  | none => rfl
  | some e => rfl
theorem joinE_join (a b : List Bool) (e : Eaten) : joinE a (joinE b e) = joinE (a ++ b) e := by
  cases e with
  | none => rfl
  | some e => simp [joinE]

theorem seqE_snoc (E : Nat → List It → Eaten) : ∀ (qs : List Nat) (q : Nat) (v : List It), seqE E (qs ++ [q]) v = match seqE E qs v with
    | none => none
    | some (k, r) => joinE k (E q r) := by
  intro qs
  induction qs with
  | nil =>
    intro q v
    simp only [List.nil_append, seqE]
    cases E q v with
    | none => rfl
    | some e => simp [joinE]
  | cons a qs ih =>
    intro q v
    simp only [List.cons_append, seqE]
    cases E a v with
    | none => rfl
    | some e =>
      obtain ⟨k, r⟩ := e
      simp only [ih]
      cases seqE E qs r with
      | none => rfl
      | some e' =>
        obtain ⟨k', r'⟩ := e'
        simp only [joinE]
        cases E q r' with
        | none => rfl
        | some e'' => simp
theorem seqE_none (E : Nat → List It → Eaten) {qs : List Nat} {v : List It} {k : Nat} (h : seqE E (qs.take k) v = none) : seqE E qs v = none := by
  revert v k
  induction qs with
  | nil => intro v k h; simp [seqE] at h
  | cons a qs ih =>
    intro v k h
    cases k with
    | zero => simp [seqE] at h
    | succ k =>
      simp only [List.take_succ_cons, seqE] at h ⊢
      cases hE : E a v with
      | none => rfl
      | some e =>
        obtain ⟨ks, r⟩ := e
        rw [hE] at h
        simp only at h ⊢
        cases hs : seqE E (qs.take k) r with
        | none => rw [ih hs]; rfl
        | some e' => rw [hs] at h; simp [joinE] at h

/- what is eaten stands at the head of what was there -/
def Heads (E : List It → Eaten) : Prop := ∀ v ks r, E v = some (ks, r) → r = v.drop ks.length ∧ ks.length ≤ v.length
theorem seqE_heads {E : Nat → List It → Eaten} : ∀ qs : List Nat, (∀ q ∈ qs, Heads (E q)) → Heads (seqE E qs) := by
  intro qs
  induction qs with
  | nil => intro _ v ks r h; simp [seqE] at h; obtain ⟨rfl, rfl⟩ := h; simp
  | cons a qs ih =>
    intro hE v ks r h
    simp only [seqE] at h
    cases ha : E a v with
    | none => rw [ha] at h; cases h
    | some e =>
      obtain ⟨k, r1⟩ := e
      rw [ha] at h
      simp only at h
      obtain ⟨h1, h2⟩ := hE a (by simp) v k r1 ha
      cases hs : seqE E qs r1 with
      | none => rw [hs] at h; cases h
      | some e' =>
        obtain ⟨k', r2⟩ := e'
        rw [hs] at h
        simp only [joinE, Option.some.injEq, Prod.mk.injEq] at h
        obtain ⟨rfl, rfl⟩ := h
        obtain ⟨h3, h4⟩ := ih (fun q hq => hE q (by simp [hq])) r1 k' r2 hs
        subst h1
        rw [List.length_drop] at h4
        refine ⟨?_, by simp; omega⟩
        rw [h3, List.drop_drop, List.length_append]
theorem headOf_heads {g : Nat → Nat} {f p : Nat} {v : List It} {k0 : List Bool} {qs : List Nat} {r : List It} (h : headOf g f p v = some (k0, qs, r)) : r = v.drop k0.length ∧ k0.length ≤ v.length := by
  unfold headOf at h
  split at h
  · cases h; simp
  · split at h
    · cases h; simp
    · cases v with
      | nil => cases h
      | cons x v =>
        simp only at h
        split at h
        · split at h
          · cases h; simp
          · cases h
        · split at h
          · cases h; simp
          · cases h
theorem eat_heads (g : Nat → Nat) : ∀ f p, Heads (eat g f p) := by
  intro f
  induction f with
  | zero => intro p v ks r h; cases h
  | succ f ih =>
    intro p v ks r h
    simp only [eat] at h
    cases hh : headOf g f p v with
    | none => rw [hh] at h; cases h
    | some e =>
      obtain ⟨k0, qs, r0⟩ := e
      rw [hh] at h
      simp only at h
      obtain ⟨h1, h2⟩ := headOf_heads hh
      cases hs : seqE (eat g f) qs r0 with
      | none => rw [hs] at h; cases h
      | some e' =>
        obtain ⟨k', r2⟩ := e'
        rw [hs] at h
        simp only [joinE, Option.some.injEq, Prod.mk.injEq] at h
        obtain ⟨rfl, rfl⟩ := h
        obtain ⟨h3, h4⟩ := seqE_heads qs (fun q _ => ih q) r0 k' r2 hs
        subst h1
        rw [List.length_drop] at h4
        refine ⟨?_, by simp; omega⟩
        rw [h3, List.drop_drop, List.length_append]

/- items in memory -/
def Items (w : World) (V : Value) (v : List It) : Prop := ∃ a cap, V = .slice a v.length cap ∧ v.length ≤ cap ∧ (v = [] ∨ ∃ b off, a = some ⟨b, off, none⟩ ∧ b < w.heap.size ∧ ∀ j x, v[j]? = some x → w.cell? ⟨b, off + j * 2, none⟩ = some (.int .i64 x.1) ∧ w.cell? ⟨b, off + j * 2 + 1, none⟩ = some (.string x.2))
theorem Items.below {w w' : World} {V : Value} {v : List It} (h : Items w V v) (hb : Below w.heap.size w w') : Items w' V v := by
  obtain ⟨a, cap, hV, hc, h⟩ := h
  refine ⟨a, cap, hV, hc, ?_⟩
  rcases h with h | ⟨b, off, ha, hl, hx⟩
  · exact Or.inl h
  · refine Or.inr ⟨b, off, ha, Nat.lt_of_lt_of_le hl hb.size, fun j x hj => ?_⟩
    obtain ⟨h1, h2⟩ := hx j x hj
    exact ⟨(hb.cell (p := ⟨b, _, none⟩) hl).trans h1, (hb.cell (p := ⟨b, _, none⟩) hl).trans h2⟩
theorem Items.at {w : World} {V : Value} {v : List It} (h : Items w V v) {i : Nat} {x : It} (hi : v[i]? = some x) : ∃ b off cap, V = .slice (some ⟨b, off, none⟩) v.length cap ∧ b < w.heap.size ∧ w.cell? ⟨b, off + i * 2, none⟩ = some (.int .i64 x.1) ∧ w.cell? ⟨b, off + i * 2 + 1, none⟩ = some (.string x.2) := by
  obtain ⟨a, cap, hV, _, h⟩ := h
  rcases h with rfl | ⟨b, off, ha, hl, hx⟩
  · simp at hi
  · subst ha
    exact ⟨b, off, cap, hV, hl, hx i x hi⟩

def vI (i : Nat) : Eaten → Int
  | none => -1
  | some (ks, _) => (i : Int) + (ks.length : Int)

def ValueSaid (s : ByteArray) (V : Value) (v : List It) (f : Nat) : Prop := ∀ (p i : Nat) (w : World), Okp s f p → i ≤ v.length → Items w V v →
  Calls Tryz.prog 239 #[.string s, .int .i64 p, V, .int .i64 i] w fun e w' => e = .returned (.int .i64 (vI i (eat (nx s) f p (v.drop i)))) ∧ Below w.heap.size w w'

end Go.Proofs.YtblomippkddgiaaGreatDoor.V
