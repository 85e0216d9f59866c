/-
  Lists full of one mark, and what is made of them by appending the mark.
-/
import Derived.Test.YtblomippkddgiaaVReads3
namespace Go.Proofs.Ytblomippkddgiaa.V
open Go.RowKit

def mk1 (x : It) (j : Nat) : Value := if j % 2 = 0 then .int .i64 x.1 else .string x.2
def marks (x : It) (k : Nat) : List Value := flat (List.replicate k x)
theorem marks_length (x : It) (k : Nat) : (marks x k).length = k * 2 := by
  unfold marks
  rw [flat_length, List.length_replicate]
theorem marks_get (x : It) (k j : Nat) (h : j < k * 2) : (marks x k)[j]? = some (mk1 x j) := by
  have hr : (List.replicate k x)[j / 2]? = some x := by
    rw [List.getElem?_replicate, if_pos (by omega)]
  obtain ⟨h0, h1⟩ := flat_get _ _ _ hr
  unfold marks mk1
  by_cases he : j % 2 = 0
  · rw [if_pos he]
    rw [show j / 2 * 2 = j by omega] at h0
    exact h0
  · rw [if_neg he]
    rw [show j / 2 * 2 + 1 = j by omega] at h1
    exact h1
theorem marks_add (x : It) (n m : Nat) : marks x n ++ marks x m = marks x (n + m) := by
  apply List.ext_getElem?
  intro j
  by_cases h1 : j < n * 2
  · rw [List.getElem?_append_left (by rw [marks_length]; exact h1), marks_get _ _ _ h1, marks_get _ _ _ (by omega)]
  · rw [List.getElem?_append_right (by rw [marks_length]; omega), marks_length]
    by_cases h2 : j < (n + m) * 2
    · rw [marks_get _ _ _ (by omega), marks_get _ _ _ h2]
      unfold mk1
      rw [show (j - n * 2) % 2 = j % 2 by omega]
    · rw [List.getElem?_eq_none (by rw [marks_length]; omega), List.getElem?_eq_none (by rw [marks_length]; omega)]

/- the list T is k marks, in a row of its own -/
def Marks (B : Nat) (x : It) (w : World) (T : Value) (k : Nat) : Prop := w.ownsRow B 31 2 T k (marks x k)
theorem take_marks {cur : Array Value} {x : It} {k : Nat} : cur.toList.take (k * 2) = marks x k ↔ ∀ j, j < k * 2 → cur[j]? = some (mk1 x j) := by
  constructor
  · intro h j hj
    have := congrArg (·[j]?) h
    simp only [List.getElem?_take, if_pos hj] at this
    rw [marks_get _ _ _ hj] at this
    simpa using this
  · intro h
    apply List.ext_getElem?
    intro j
    by_cases hj : j < k * 2
    · rw [List.getElem?_take, if_pos hj, marks_get _ _ _ hj]
      simpa using h j hj
    · rw [List.getElem?_take, if_neg hj, List.getElem?_eq_none (by rw [marks_length]; omega)]

theorem marks_one (x : It) (k : Nat) : ∀ u ∈ marks x k, u.oneCell' = true := flat_one _

theorem Marks.below {B : Nat} {x : It} {w w' : World} {T : Value} {k : Nat} (h : Marks B x w T k) (hb : Below w.heap.size w w') : Marks B x w' T k := row_below' h hb

/- m marks are appended onto a list of marks: every list of marks stays one -/
theorem more (x : It) (B : Nat) (w : World) (O : Value) (n m c : Nat) (G : Addr) (hO : Marks B x w O n) (hsrc : ∀ j u, (marks x m)[j]? = some u → w.cell? (G.add j) = some u) (hn : n + m ≤ 1000000) (hB : B ≤ w.heap.size) :
    ∃ v' w', (Builtin.append_ #[27, 27] 27 #[O, .slice (some G) m c]).run Try.prog w = .ok v' w' ∧ Marks B x w' v' (n + m) ∧ w.grownBy w' O.ownBlock ∧ (v'.ownBlock = O.ownBlock ∨ v'.ownBlock = some w.heap.size) ∧
      ∀ T k, Marks B x w T k → Marks B x w' T k := by
  obtain ⟨i0, hi, hz0, hz1, hz2⟩ := info_parts info31
  obtain ⟨v', w', hr, hown, hg, _, hat⟩ := run_append_own_at (P := Try.prog) w B 27 27 31 i0 _ 2 24 Try.underlying27 hi hz0 hz1 hz2 rfl (by decide) O n (marks x n) hO G m c (marks x m) (marks_length x m) hsrc (marks_one x m) (by unfold maxLen; omega) (by omega) hB
  rw [marks_add] at hown
  refine ⟨v', w', hr, hown, hg, hat, fun T k hT => ?_⟩
  obtain ⟨hTl, hT2⟩ := id hT
  rcases hT2 with hT2 | ⟨gT, capT, curT, rfl, hbg, hgT, hk, hcm, hcs, htk⟩
  · exact ⟨hTl, Or.inl hT2⟩
  · have hlt := lt_of_block hgT
    by_cases hsame : some gT = O.ownBlock
    · rcases hO.2 with ⟨rfl, _⟩ | ⟨g, cap, cur, rfl, hbg2, hg2, hnc, hcm2, hcs2, htake⟩
      · cases hsame
      · have hgg : gT = g := by simpa [Value.ownBlock] using hsame
        subst hgg
        rw [hg2] at hgT
        have hcur : curT = cur := by simpa using hgT.symm
        subst hcur
        by_cases hroom : n + m ≤ cap
        · have hl := marks_length x m
          have hr2 := run_append_room (P := Try.prog) w 27 27 31 i0 Try.underlying27 hi gT n cap curT hg2 G m c (marks x m) (by rw [hl, hz1]) hsrc (marks_one x m) hroom (by rw [hz1, hl, hcs2]; omega)
          rw [hr2] at hr
          have hw : w.setRow gT (curT.toList.take (n * i0.size) ++ marks x m ++ curT.toList.drop (n * i0.size + (marks x m).length)).toArray = w' := by injection hr
          rw [hz1, hl] at hw
          subst hw
          refine ⟨hTl, Or.inr ⟨gT, capT, _, rfl, hbg, setRow_heap w gT curT _ 31 _ hg2, hk, hcm, ?_, ?_⟩⟩
          · simp only [List.size_toArray, List.length_append, List.length_take, List.length_drop, Array.length_toList, hl]
            omega
          · have hlen : (curT.toList.take (n * 2)).length = n * 2 := by
              rw [List.length_take, Array.length_toList]
              omega
            rw [take_marks]
            intro j hj
            rw [List.getElem?_toArray]
            have hT' := (take_marks (x := x) (k := k)).1 htk j hj
            by_cases h1 : j < n * 2
            · have hO' := (take_marks (x := x) (k := n)).1 htake j h1
              rw [List.append_assoc, List.getElem?_append_left (by omega), List.getElem?_take, if_pos h1]
              simpa using hO'
            · by_cases h2 : j < n * 2 + m * 2
              · rw [List.getElem?_append_left (by rw [List.length_append, hlen, hl]; omega), List.getElem?_append_right (by omega), hlen, marks_get _ _ _ (by omega)]
                unfold mk1
                rw [show (j - n * 2) % 2 = j % 2 by omega]
              · rw [List.getElem?_append_right (by rw [List.length_append, hlen, hl]; omega), List.length_append, hlen, hl, List.getElem?_drop, show n * 2 + m * 2 + (j - (n * 2 + m * 2)) = j by omega]
                simpa using hT'
        · have holds : ∀ j u, (marks x n)[j]? = some u → w.cell? ((⟨gT, 0, none⟩ : Addr).add j) = some u := hO.cells (g := gT) rfl
          have hr2 := run_append_grow (P := Try.prog) w 27 27 31 i0 _ Try.underlying27 hi hz0 ⟨gT, 0, none⟩ n cap (marks x n) (by rw [marks_length, hz1]) holds G m c (marks x m) (by rw [marks_length, hz1]) hsrc (by omega) (by omega) (growslice_fits (by omega) (by rw [hz2]; omega))
          rw [hr2] at hr
          have hw := (Result.ok.inj hr).2
          subst hw
          refine ⟨hTl, Or.inr ⟨gT, capT, curT, rfl, hbg, ?_, hk, hcm, hcs, htk⟩⟩
          rw [Below.heap_alloc w.drew _ gT hlt]
          exact hg2
    · exact ⟨hTl, Or.inr ⟨gT, capT, curT, rfl, hbg, by rw [hg.block gT hlt hsame]; exact hgT, hk, hcm, hcs, htk⟩⟩

/- at the operation, for a walk: what the append comes to is known -/
theorem wpList_append_run {P : Program} {w : World} {ops : Array Oper} {rest : List Oper} {o : Oper} {a : Act} {Q : Exit → Act → World → Prop} (hgd : o.guard = none) (s x : Operand) (t : TypeId)
    (ho : o.op = .call { callee := .builtin .append, args := #[s, x], argTypes := #[t, t] }) (v xv v' : Value) (w' : World) (hs : a.eval s = v) (hx : a.eval x = xv)
    (hr : (Builtin.append_ #[t, t] o.type #[v, xv]).run P w = .ok v' w') (h : wpList P ops Q rest (a.put o.dst v') w') : wpList P ops Q (o :: rest) a w := by
  refine wpList_plain hgd fun K hK => ?_
  unfold Oper.wp execOp
  simp only [ho, resolve, invoke, builtin, Sem.run_bind, Sem.run_pure, Result.andThen_ok, List.map_toArray, List.map_cons, List.map_nil, hs, hx, hr]
  exact hK _ _ h

end Go.Proofs.Ytblomippkddgiaa.V
