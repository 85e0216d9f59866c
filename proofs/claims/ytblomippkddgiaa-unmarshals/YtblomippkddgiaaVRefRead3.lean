/-
  The document's own 'read': a string is read.
-/
import Derived.Test.YtblomippkddgiaaVRefRead2
import Derived.Test.YtblomippkddgiaaVBack
namespace Go.Proofs.Ytblomippkddgiaa.V
open Go.RowKit

/- what is read so far lies in a row of its own -/
structure IR (w0 : World) (v : List It) (l : List UInt8) (O : Value) (w : World) : Prop where
  own : w.ownsRow w0.heap.size 31 2 O v.length (flat v)
  below : Below w0.heap.size w0 w
  len : v.length + l.length ≤ 500
theorem IR.go {w0 w w' : World} {v : List It} {l : List UInt8} {O : Value} (h : IR w0 v l O w) (hb : Below w.heap.size w w') : IR w0 v l O w' := ⟨row_below' h.own hb, h.below.trans (hb.mono h.below.size), h.len⟩
theorem IR.drewN {w0 w : World} {v : List It} {l : List UInt8} {O : Value} (h : IR w0 v l O w) (q : Nat) : IR w0 v l O (w.drewN q) := ⟨h.own, below_drewN h.below q, h.len⟩
theorem ir_push {w0 w w1 : World} {l l' : List UInt8} {O O1 : Value} {v : List It} {x : It} {o : Obj} (h : IR w0 v l O w) (hl : l'.length < l.length) (hown : w1.ownsRow w0.heap.size 31 2 O1 (v.length + 1) (flat v ++ [.int .i64 x.1, .string x.2])) (hg : (w.alloc o).grownBy w1 O.ownBlock) : IR w0 (v ++ [x]) l' O1 w1 := by
  have hs := h.below.size
  have hgs : (w.alloc o).heap.size = w.heap.size + 1 := by simp
  have hs1 := hg.size
  have hrow : ∀ k, O.ownBlock = some k → w0.heap.size ≤ k := fun k hk => (h.own.lt k hk).1
  refine ⟨?_, (h.below.alloc (by omega) o).grown hg (by omega) (fun k hk => hrow k hk), ?_⟩
  · rw [List.length_append, flat_snoc]
    exact hown
  · have := h.len
    rw [List.length_append, List.length_singleton]
    omega

set_option maxRecDepth 100000 in
set_option maxHeartbeats 2000000 in
theorem rread_s_ok (s : ByteArray) (p : Nat) (S R X R' : ByteArray) (n : Nat) (a c : UInt8) (O : Value) (w w0 : World) (v : List It) (l l' : List UInt8) (hp : p < s.size) (h115 : nx s p = 115) (hT : Twos S R n a c) (h14 : n ≤ 14) (hfit : n + n % 2 ≤ R.size) (hX : R.extract 0 n = X) (hR' : R.extract (n + n % 2) R.size = R') (hI : IR w0 v l O w) (hll : l'.length < l.length) :
    Calls Try.prog 62 #[.string s, .int .i64 p, .string S, O] w fun e w' => ∃ O1, e = triple O1 R' true ∧ IR w0 (v ++ [(0, X)]) l' O1 w' := by
  have t1 : ((((s[p]).toNat : Nat) : Int) == 97) = false := by rw [← nx_in hp]; simp; omega
  have t2 : ((((s[p]).toNat : Nat) : Int) == 114) = false := by rw [← nx_in hp]; simp; omega
  have t3 : ((((s[p]).toNat : Nat) : Int) == 115) = true := by rw [← nx_in hp]; simp; omega
  obtain ⟨hge, i0, i1, hN, e2⟩ := hT
  have h2 : ¬ (S.size : Int) < 2 := by omega
  have h14' : ¬ (14 : Int) < (n : Int) := by omega
  have hR : ¬ (R.size : Int) < (n : Int) + (n : Int) % 2 := by omega
  have hn1 : n ≤ R.size := by omega
  obtain ⟨j0, hj0, hz0, hz1, hz2⟩ := info_parts info31
  obtain ⟨oa, on, oc, hsh⟩ := row_shape hI.own
  subst hsh
  have how := hI.own
  have HI := hide hI
  have HL := hide hll
  have hvl := hI.len
  have HR' := hide hR'
  clear h115 hI hll hR'
  go_enter Try.func62, Try.ntmps62
  go_wp2
  go_quiet (fail)
  go_wp2_with (at_builtin; go_must (refine wpList_append_own_at _ rfl (.tmp 86) (.tmp 91) 27 rfl w0.heap.size 31 j0 _ 2 24 Try.underlying27 hj0 hz0 hz1 hz2 rfl (by decide) _ v.length (flat v) rfl (by exact World.ownsRow.alloc (w := w.drewN _) how _) ⟨w.heap.size, 0, none⟩ 1 1 [.int .i64 0, .string X] rfl rfl (by exact cells_pair (w.drewN _) (0, X)) (by exact pair_one (0, X)) (by unfold maxLen; omega) (by omega) (by have := (unhide HI).below.size; simp; omega) ?_))
  intro O1 w2 hown hgrow _ _
  obtain ⟨ta, tn, tc, hts⟩ := row_shape hown
  subst hts
  have HI2 := hide (ir_push (x := (0, X)) ((unhide HI).drewN _) (unhide HL) hown hgrow)
  clear hown hgrow how
  go_wp2
  go_quiet (fail)
  go_wp2
  go_ret3
  rw [unhide HR']
  exact ⟨_, rfl, (unhide HI2).drewN _⟩

end Go.Proofs.Ytblomippkddgiaa.V
