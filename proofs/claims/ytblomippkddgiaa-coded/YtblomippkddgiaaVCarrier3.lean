/-
  The landed code's carry, with whatever carries: it does what 'carryP' says.
-/
import Derived.Test.YtblomippkddgiaaVCarrier2
namespace Go.Proofs.Ytblomippkddgiaa.V
open Go.RowKit
variable {σ : Type}

theorem num_end {C : Carrier σ} {r : Option (Int × σ)} {E : Option σ} (hE : E = r.bind fun r => some r.2) {O : Nat → Prop} {c M : Nat} {w w1 : World} (h1 : Kept O O w w1) (hM : 1 ≤ M) :
    ∀ e w', Or2 C.er (C.No (r = none)) (fun w' => ∃ i x', r = some (i, x') ∧ C.Lv O (c + 1) x' w1 w') e w' → SeqSaid C E O (c + M) w e w' := by
  rintro e w' (⟨rfl, hr, hb⟩ | ⟨rfl, i, x', hr, c', O', hc', hst, hk⟩)
  · exact Or.inl ⟨rfl, by rw [hE, hr]; rfl, hb⟩
  · exact Or.inr ⟨rfl, x', by rw [hE, hr]; rfl, c', O', by omega, hst, h1.trans hk⟩
theorem seq_from {C : Carrier σ} {E : Option σ} {O : Nat → Prop} {c c2 : Nat} {w w1 : World} (h1 : Kept O O w w1) (hc : c ≤ c2) :
    ∀ e w', SeqSaid C E O c w1 e w' → SeqSaid C E O c2 w e w' := by
  rintro e w' (h | ⟨rfl, x', hr, c', O', hc', hst, hk⟩)
  · exact Or.inl h
  · exact Or.inr ⟨rfl, x', hr, c', O', by omega, hst, h1.trans hk⟩
theorem seq_after {C : Carrier σ} {E E' : Option σ} {O O1 : Nat → Prop} {c c2 : Nat} {w w1 : World} (h1 : Kept O O1 w w1) (hE : E' = E) (hc : c ≤ c2) :
    ∀ e w', SeqSaid C E O1 c w1 e w' → SeqSaid C E' O c2 w e w' := by
  subst hE
  rintro e w' (h | ⟨rfl, x', hr, c', O', hc', hst, hk⟩)
  · exact Or.inl h
  · exact Or.inr ⟨rfl, x', hr, c', O', by omega, hst, h1.trans hk⟩

theorem carry_step {C : Carrier σ} (hC : Carries C) {s : ByteArray} {f : Nat} (ih : CarrySaid C s f) : CarrySaid C s (f + 1) := by
  intro p S c0 c1 c2 hR hO
  obtain ⟨rfl, rfl, va, vc, rfl, hkid⟩ := rep_parts hR
  obtain ⟨T, hT⟩ : ∃ T, T = Pt.top ((Pt.kids (nx s) f p).map (Pt.dep (nx s) f)) := ⟨_, rfl⟩
  have hM : 10 ^ Pt.dep (nx s) (f + 1) p = 10 * 10 ^ T := by rw [Pt.dep, ← hT, Nat.pow_succ, Nat.mul_comm]
  have hpos : 1 ≤ 10 ^ T := Nat.one_le_pow _ _ (by decide)
  have KK : ∀ j q, (Pt.kids (nx s) f p)[j]? = some q → Okp s f q → ∃ gb y0 y1 ya yn yk, va = some ⟨gb, 0, none⟩ ∧
      (∀ w, Below C.w0.heap.size C.w0 w → w.cell? ⟨gb, j * 3, none⟩ = some (.int .u8 y0) ∧ w.cell? ⟨gb, j * 3 + 1, none⟩ = some (.int .i64 y1) ∧ w.cell? ⟨gb, j * 3 + 2, none⟩ = some (.slice ya yn yk)) ∧ KidC C (.agg #[.int .u8 y0, .int .i64 y1, .slice ya yn yk]) (carryP C.num C.txt (nx s) f q) (10 ^ T) := by
    intro j q hq ho
    obtain ⟨gb, y0, y1, ya, yn, yk, hva, hcell, hr⟩ := hkid j q hq
    refine ⟨gb, y0, y1, ya, yn, yk, hva, hcell, (ih q S _ _ _ hr ho).mono ?_⟩
    refine Nat.pow_le_pow_right (by decide) ?_
    rw [hT]
    exact le_top (List.mem_map.2 ⟨q, List.mem_of_getElem? hq, rfl⟩)
  rw [hM]
  clear hM hkid hR ih
  generalize 10 ^ T = M at *
  clear hT T
  intro w c x O hs hc
  have hbw := hC.below hs
  have hbo : ∀ o, Below w.heap.size w (w.alloc o) := fun o => (Below.refl w.heap.size w).alloc (Nat.le_refl _) o
  have hfr : ¬ O w.heap.size := fun h => by have := (hC.fresh hs _ h).2; omega
  rcases okp_cases hO with (h | h | h | h) | ⟨h, _, hd1, hd2⟩ | ⟨h, _, hd1, hd2, hok⟩ | ⟨h, _, hd1, hd2, hok⟩ | hl
  · have e : ((nx s p : Nat) : Int) = 98 := by rw [h]; rfl
    rw [e]
    refine (walk_b C.tid C.fnum C.er C.ptr hC.mnum w _ _ _ _ _ _ (hC.number 0 1 (hC.go hs (hbo _)) (by omega) (Or.inl ⟨rfl, by decide⟩))).mono (num_end ?_ (Kept.of_below (hbo _)) (by omega))
    simp [carryP, h, loOf, hiOf]
  · have e : ((nx s p : Nat) : Int) = 99 := by rw [h]; rfl
    rw [e]
    refine (walk_c C.tid C.fnum C.er C.ptr hC.mnum w _ _ _ _ _ _ (hC.number 0 65535 (hC.go hs (hbo _)) (by omega) (Or.inl ⟨rfl, by decide⟩))).mono (num_end ?_ (Kept.of_below (hbo _)) (by omega))
    simp [carryP, h, loOf, hiOf]
  · have e : ((nx s p : Nat) : Int) = 105 := by rw [h]; rfl
    rw [e]
    refine (walk_i C.tid C.fnum C.er C.ptr hC.mnum w _ _ _ _ _ _ (hC.number (-32768) 32767 (hC.go hs (hbo _)) (by omega) (Or.inr ⟨rfl, rfl⟩))).mono (num_end ?_ (Kept.of_below (hbo _)) (by omega))
    simp [carryP, h, loOf, hiOf]
  · have e : ((nx s p : Nat) : Int) = 115 := by rw [h]; rfl
    rw [e]
    have hE : carryP C.num C.txt (nx s) (f + 1) p x = C.txt x := by simp [carryP, h]
    refine (walk_s C.tid C.ftxt C.er C.ptr hC.mtxt w _ _ _ _ _ _ (hC.text (hC.go hs (hbo _)) (by omega))).mono ?_
    rw [hE]
    exact seq_from (Kept.of_below (hbo _)) (by omega)
  · have e : ((nx s p : Nat) : Int) = 101 := by rw [h]; rfl
    have hx1 : nodeDigit (nx s) p = (nx s (p + 1) : Int) - 48 := by simp [nodeDigit, h]
    rw [e, hx1]
    refine (walk_e C.tid C.fnum C.er C.ptr hC.mnum w _ _ _ _ _ _ (by omega) (hC.number 0 _ (hC.go hs (hbo _)) (by omega) (Or.inl ⟨rfl, by omega⟩))).mono (num_end ?_ (Kept.of_below (hbo _)) (by omega))
    simp [carryP, h, loOf, hiOf]
  · have e : ((nx s p : Nat) : Int) = 97 := by rw [h]; rfl
    obtain ⟨n, hn⟩ : ∃ n, n = nx s (p + 1) - 48 := ⟨_, rfl⟩
    have hx1 : nodeDigit (nx s) p = (n : Int) := by simp [nodeDigit, h]; omega
    have hk : Pt.kids (nx s) f p = [p + 2] := by simp [Pt.kids, h]
    obtain ⟨gb, y0, y1, ya, yn, yk, rfl, hcell, hkc⟩ := KK 0 (p + 2) (by rw [hk]; rfl) hok
    have hE : carryP C.num C.txt (nx s) (f + 1) p x = seqC (carryP C.num C.txt (nx s) f) (List.replicate n (p + 2)) x := by simp [carryP, h, hn]
    rw [e, hx1, hE]
    have hbd : ∀ o, Below w.heap.size w (w.alloc o).drew := fun o => (hbo o).drew
    have hf := fun o => hcell (w.alloc o) (hbw.trans ((hbo o).mono hbw.size))
    have hnM : n * M ≤ 9 * M := Nat.mul_le_mul_right M (by omega)
    refine (walk_a C.tid C.er C.ptr w n gb _ _ y0 y1 ya yn yk _ _ (by rw [hk]; simp) (fun o => (hf o).1) (fun o => (hf o).2.1) (fun o => (hf o).2.2) (times_said hC hkc n (by omega) (hC.go hs (hbd _)) (by omega))).mono ?_
    exact seq_from (Kept.of_below (hbd _)) (by omega)
  · have e : ((nx s p : Nat) : Int) = 113 := by rw [h]; rfl
    obtain ⟨m, hm⟩ : ∃ m, m = nx s (p + 1) - 48 := ⟨_, rfl⟩
    have hx1 : nodeDigit (nx s) p = (m : Int) := by simp [nodeDigit, h]; omega
    have hk : Pt.kids (nx s) f p = [p + 2] := by simp [Pt.kids, h]
    obtain ⟨gb, y0, y1, ya, yn, yk, rfl, hcell, hkc⟩ := KK 0 (p + 2) (by rw [hk]; rfl) hok
    have hE : carryP C.num C.txt (nx s) (f + 1) p x = (C.num 0 m x).bind fun r => seqC (carryP C.num C.txt (nx s) f) (List.replicate r.1.toNat (p + 2)) r.2 := by
      have : ((nx s (p + 1) : Nat) : Int) - 48 = (m : Int) := by omega
      simp [carryP, h, loOf, hiOf, this]
    rw [e, hx1]
    obtain ⟨t0, t1, t2, _⟩ := (Tri.new w (.int .u8 113) (.int .i64 m) (.slice (some ⟨gb, 0, none⟩) (Pt.kids (nx s) f p).length vc)).facts
    refine walk_q C.tid C.fnum C.er C.ptr hC.mnum w m gb _ _ y0 y1 ya yn yk (C.No (carryP C.num C.txt (nx s) (f + 1) p x = none)) _ (fun i w' => ∃ x', C.num 0 m x = some (i, x') ∧ C.Lv O (c + 1) x' (w.alloc (box63 113 m (some ⟨gb, 0, none⟩) (Pt.kids (nx s) f p).length vc)) w') (by rw [hk]; simp) ((hC.number 0 m (hC.go hs (hbo _)) (by omega) (Or.inl ⟨rfl, by omega⟩)).mono ?_) ?_
    · rintro e w' (⟨rfl, hr, hb⟩ | h)
      · exact Or.inl ⟨rfl, by rw [hE, hr]; rfl, hb⟩
      · exact Or.inr h
    · rintro i w' ⟨x', hx, c', O', hc', hst, hkp⟩
      obtain ⟨hi0, hi1⟩ := hC.range hx
      obtain ⟨n, rfl⟩ : ∃ n : Nat, i = n := ⟨i.toNat, by omega⟩
      have hlt : w.heap.size < (w.alloc (box63 113 m (some ⟨gb, 0, none⟩) (Pt.kids (nx s) f p).length vc)).heap.size := by simp
      obtain ⟨f0, f1, f2⟩ := hcell w' (hC.below hst)
      have hnM : n * M ≤ 9 * M := Nat.mul_le_mul_right M (by omega)
      refine ⟨(hkp.cell hlt hfr).trans t2, f0, f1, f2, (times_said hC hkc n (by omega) hst (by omega)).mono ?_⟩
      refine seq_after ((Kept.of_below (hbo _)).trans hkp) ?_ (by omega)
      rw [hE, hx]
      simp
  · rcases hl.here with h | h
    · have e : ((nx s p : Nat) : Int) = 114 := by rw [h]; rfl
      have hE : carryP C.num C.txt (nx s) (f + 1) p x = seqC (carryP C.num C.txt (nx s) f) (Pt.kids (nx s) f p) x := by simp [carryP, h]
      have h6 := kids_len (nx s) f p
      rw [e, hE]
      refine (walk_r C.tid C.er C.ptr w _ va _ vc (C.No (seqC (carryP C.num C.txt (nx s) f) (Pt.kids (nx s) f p) x = none)) (FarI C (carryP C.num C.txt (nx s) f) (Pt.kids (nx s) f p) x c M O (w.alloc (box63 114 (nodeDigit (nx s) p) va (Pt.kids (nx s) f p).length vc))) h6 ⟨x, c, O, rfl, by omega, hC.go hs (hbo _), Kept.refl _ _⟩ ?_).mono ?_
      · rintro j w' hj ⟨xj, c', O', hF⟩
        obtain ⟨q, hq⟩ : ∃ q, (Pt.kids (nx s) f p)[j]? = some q := ⟨_, List.getElem?_eq_getElem hj⟩
        obtain ⟨gb, y0, y1, ya, yn, yk, hva, hcell, hkc⟩ := KK j q hq (okl_kids hl q (List.mem_of_getElem? hq)).2
        obtain ⟨f0, f1, f2⟩ := hcell w' (hC.below hF.st)
        have hb1 : ∀ o, Below w'.heap.size w' (w'.alloc o) := fun o => (Below.refl w'.heap.size w').alloc (Nat.le_refl _) o
        refine ⟨gb, y0, y1, ya, yn, yk, hva, f0, f1, f2, (hkc _ c' xj O' (hC.go hF.st (hb1 _)) ?_).mono (far_next hF hq (Kept.of_below (hb1 _)))⟩
        have e1 : (j + 1) * M ≤ 6 * M := Nat.mul_le_mul_right M (by omega)
        rw [Nat.add_mul, Nat.one_mul] at e1
        have := hF.le
        omega
      · rintro e w' (h | ⟨rfl, x', c', O', hF⟩)
        · exact Or.inl h
        · have hq := hF.seq
          rw [List.take_of_length_le (Nat.le_refl _)] at hq
          refine Or.inr ⟨rfl, x', hq, c', O', ?_, hF.st, (Kept.of_below (hbo _)).trans hF.kept⟩
          have e1 : (Pt.kids (nx s) f p).length * M ≤ 6 * M := Nat.mul_le_mul_right M h6
          have := hF.le
          omega
    · have e : ((nx s p : Nat) : Int) = 117 := by rw [h]; rfl
      have h6 := kids_len (nx s) f p
      have hE : carryP C.num C.txt (nx s) (f + 1) p x = (C.num 0 (((Pt.kids (nx s) f p).length : Int) - 1) x).bind fun r => carryP C.num C.txt (nx s) f (partOf (Pt.kids (nx s) f p) r.1) r.2 := by simp [carryP, h, loOf, hiOf]
      have hpl : ∃ q, (Pt.kids (nx s) f p)[0]? = some q := by simp [Pt.kids, h]
      obtain ⟨q0, hq0⟩ := hpl
      obtain ⟨gb, _, _, _, _, _, rfl, _, _⟩ := KK 0 q0 hq0 (okl_kids hl q0 (List.mem_of_getElem? hq0)).2
      rw [e]
      obtain ⟨t0, t1, t2, _⟩ := (Tri.new w (.int .u8 117) (.int .i64 (nodeDigit (nx s) p)) (.slice (some ⟨gb, 0, none⟩) (Pt.kids (nx s) f p).length vc)).facts
      refine walk_u C.tid C.fnum C.er C.ptr hC.mnum w _ gb _ vc (C.No (carryP C.num C.txt (nx s) (f + 1) p x = none)) _ (fun j w' => j < (Pt.kids (nx s) f p).length ∧ ∃ x', C.num 0 (((Pt.kids (nx s) f p).length : Int) - 1) x = some ((j : Int), x') ∧ C.Lv O (c + 1) x' (w.alloc (box63 117 (nodeDigit (nx s) p) (some ⟨gb, 0, none⟩) (Pt.kids (nx s) f p).length vc)) w') h6 ((hC.number 0 _ (hC.go hs (hbo _)) (by omega) (Or.inl ⟨rfl, by omega⟩)).mono ?_) ?_
      · rintro e w' (⟨rfl, hr, hb⟩ | ⟨i, rfl, x', hx, hlv⟩)
        · exact Or.inl ⟨rfl, by rw [hE, hr]; rfl, hb⟩
        · obtain ⟨hi0, hi1⟩ := hC.range hx
          obtain ⟨n, rfl⟩ : ∃ n : Nat, i = n := ⟨i.toNat, by omega⟩
          exact Or.inr ⟨_, rfl, n, rfl, by omega, by omega, x', hx, hlv⟩
      · rintro j w' ⟨hj, x', hx, c', O', hc', hst, hkp⟩
        obtain ⟨q, hq⟩ : ∃ q, (Pt.kids (nx s) f p)[j]? = some q := ⟨_, List.getElem?_eq_getElem hj⟩
        obtain ⟨gb', y0, y1, ya, yn, yk, hva, hcell, hkc⟩ := KK j q hq (okl_kids hl q (List.mem_of_getElem? hq)).2
        cases hva
        obtain ⟨f0, f1, f2⟩ := hcell w' (hC.below hst)
        have hlt : w.heap.size < (w.alloc (box63 117 (nodeDigit (nx s) p) (some ⟨gb, 0, none⟩) (Pt.kids (nx s) f p).length vc)).heap.size := by simp
        refine ⟨y0, y1, ya, yn, yk, (hkp.cell hlt hfr).trans t2, f0, f1, f2, (hkc w' c' x' O' hst (by omega)).mono ?_⟩
        refine seq_after ((Kept.of_below (hbo _)).trans hkp) ?_ (by omega)
        rw [hE, hx]
        simp [partOf, hq]

theorem carry_any {C : Carrier σ} (hC : Carries C) (s : ByteArray) : ∀ f, CarrySaid C s f := by
  intro f
  induction f with
  | zero => intro p S c0 c1 c2 h; exact h.elim
  | succ f ih => exact carry_step hC ih

end Go.Proofs.Ytblomippkddgiaa.V
