/-
  Joined: Call3 Call4.
-/
import Derived.Test.YthofebmiggodhaaDoorJ31
/-
  A Call that is taken, on a world.
-/
namespace Go.Proofs.YthofebmiggodhaaDoor
open Go.RowKit

def Tab0 (w : World) : Prop := ∃ tt fr, w.heap[0]? = some (.cells tabCells tt fr)
theorem Tab0.below {w w' : World} (h : Tab0 w) (hb : Below w.heap.size w w') : Tab0 w' := by
  obtain ⟨tt, fr, hg⟩ := h
  exact ⟨tt, fr, heap0 hg hb⟩
theorem Tab0.keeps {F : Foot} {w w' : World} (h : Tab0 w) (hk : Keeps F w w') (h0 : ¬ F 0) : Tab0 w' := by
  obtain ⟨tt, fr, hg⟩ := h
  exact ⟨tt, fr, hk.at hg h0⟩

def newLn (G : R.Wd) (l : R.Ln) (uid : Int) (to : ByteArray) (m : List UInt8) : R.Ln := ⟨l.seq + 1, 1, [], uid, to, m, 0, [], 0, G.c.retry, G.c.tries⟩

theorem LW.callC {p : Pl} {F : Foot} {G : R.Wd} {w : World} (h : LW p F G w) (ht : Tab0 w) {i k : Nat} {c : R.Cl} {l : R.Ln} (hc : G.clients[i]? = some c) (hl : c.lines[k]? = some l) {uid proc : Int} (hb : uid ∈ c.bound) (hp : 0 ≤ proc ∧ proc ≤ 65535) (hs : sigE (kindOf G uid) proc = 0) {X : Value} {v : List V.It} (hI : V.Items w X v) (hn : v.length ≤ 9000000000000) (hchk : (V.Pt.chk (V.nx (sigA (kindOf G uid) proc)) (sigA (kindOf G uid) proc).size).1 = 0) (hm : (V.mRes (sigA (kindOf G uid) proc) v).1 = 0) (hl70 : (V.mRes (sigA (kindOf G uid) proc) v).2.length ≤ 70) (hst : ¬ l.state = 1) (hsq : ¬ l.seq = 999) (to : ByteArray) :
    Calls Tryd.prog 41 #[ptr (p.cb i), .int .i64 (k : Int), .int .i64 uid, .int .i64 proc, X] w fun e w' => e = .returned (.tuple #[.int .i64 (l.seq + 1), .int .i64 0]) ∧ ∃ F', LW p F' (R.sendPieceP (R.setLine G i k (newLn G l uid to (two8 proc ++ (V.mRes (sigA (kindOf G uid) proc) v).2))) i k false) w' ∧ Went F F' w w' := by
  obtain ⟨xs, x, hL, hR, hx, hx1, hla⟩ := h.line hc hl
  have hca := clAt h hc
  have hk := (List.getElem?_eq_some_iff.1 hl).1
  have hi := (List.getElem?_eq_some_iff.1 hc).1
  have hok := (h.wf.cl i c hc).line k l hl
  have hub := (h.wf.cl i c hc).bound uid hb
  have hsv := h.wf.sv
  have hlook := look_int (h.bound i c hc) (u := uid) (by omega)
  have hbo : boundOf G c uid = some (kindOf G uid) := by unfold boundOf; rw [if_pos hb]
  rw [hbo] at hlook
  simp only [Option.getD_some, Option.isSome_some] at hlook
  have hfl : F (p.lb i) := (h.feet i hi).2.1
  have hne : p.cb i ≠ p.lb i := ne_tag (h.cl i c hc) hL (by decide)
  have hcf := h.wf.cf
  unfold R.okCf at hcf
  have hlb := lt_of_block hL
  have hlc := lt_of_cell hca.a0
  have est := hx1.state
  have esq := hx1.seq
  generalize hM : two8 proc ++ (V.mRes (sigA (kindOf G uid) proc) v).2 = M at *
  have hM2 : M.length ≤ 72 ∧ 2 ≤ M.length := by
    rw [← hM]
    simp [two8]
    omega
  have hnew : R.LnOk (newLn G l uid to M) := ⟨by have := hok.seq; simp only [newLn]; omega, fun _ => ⟨by have := hok.seq; simp only [newLn]; omega, by simp only [newLn]; omega, by simp only [newLn]; omega, by
    have := R.pieces_pos (s := M) (by omega)
    simp only [newLn]
    omega, by simp only [newLn]; omega, by simp only [newLn]; omega⟩⟩
  have hc' : (R.setLine G i k (newLn G l uid to M)).clients[i]? = some { c with lines := c.lines.set k (newLn G l uid to M) } := by
    rw [R.setLine_client, hc]
    simp
  have hl' : (c.lines.set k (newLn G l uid to M))[k]? = some (newLn G l uid to M) := by simp [hk]
  refine call_ok_walk w (p.cb i) (p.lb i) (p.bm i) c.lines.length k uid proc (kindOf G uid) X (sigA (kindOf G uid) proc) (sigB (kindOf G uid) proc) (str M) x.state x.seq (l.seq + 1)
    (fun w3 => w3.heap[p.lb i]? = some (.cells (tab LLn.cells (xs.set k ⟨1, x.seq + 1, uid, M, 0, 0, 0⟩)).toArray 108 (0, 0)) ∧ Keeps (fun q => q = p.lb i) w w3)
    (fun w4 => LW p F (R.setLine G i k (newLn G l uid to M)) w4 ∧ Went F F w w4)
    (fun w5 => ∃ F', LW p F' (R.sendPieceP (R.setLine G i k (newLn G l uid to M)) i k false) w5 ∧ Went F F' w w5)
    hk hca.a2 hca.a3 hla.a0 hla.a1 hlook (by rw [est]; exact hst) (by rw [esq]; exact hsq) ?_ ?_ ?_ ?_ ?_ ?_
  · intro w' hb'
    obtain ⟨tt, fr, hg⟩ := ht.below hb'
    refine (sig_any (kindOf G uid) proc w' tt fr hg).mono ?_
    rintro e w'' ⟨rfl, q⟩
    refine ⟨?_, q⟩
    unfold sgTuple
    rw [hs]
  · intro w' hb'
    refine (message_any proc hp (sigA (kindOf G uid) proc) hchk X v w' (hI.below hb') hn).mono ?_
    rintro e w'' ⟨⟨_, rfl⟩ | ⟨h0, _⟩, q⟩
    · rw [hM]
      exact ⟨rfl, q⟩
    · exact absurd hm h0
  · intro w' hb'
    have hL' := (hb'.block _ hlb).trans hL
    refine (begin_any w' (p.lb i) k uid M xs x hL' hx (by rw [esq]; have := hok.seq; omega)).mono ?_
    rintro e w'' ⟨rfl, q1, q2⟩
    exact ⟨rfl, q1, (Keeps.ofBelow hb' _).trans q2⟩
  · rintro w3 ⟨q1, q2⟩
    have d4 : w3.cell? ⟨p.cb i, 4, none⟩ = some (.int .i64 G.c.retry) := (World.cell?_of_block (q2.block (p.cb i) hlc hne)).trans hca.a4
    have d5 : w3.cell? ⟨p.cb i, 5, none⟩ = some (.int .i64 G.c.tries) := (World.cell?_of_block (q2.block (p.cb i) hlc hne)).trans hca.a5
    refine (rest_any w3 (p.cb i) (p.lb i) k G.c.retry G.c.tries _ ⟨1, x.seq + 1, uid, M, 0, 0, 0⟩ q1 (by simp [(List.getElem?_eq_some_iff.1 hx).1]) d4 d5 hne).mono ?_
    rintro e w4 ⟨rfl, r1, r2⟩
    simp only [List.set_set] at r1
    have hkk := q2.trans r2
    refine ⟨rfl, h.turn hc hL hR hkk r1 hnew ⟨rfl, by simp only [newLn]; rw [esq], rfl, fun _ => ⟨rfl, rfl, rfl, rfl, rfl⟩⟩, ⟨hkk.mono (fun q _ e => by rw [e]; exact hfl), fun _ q => Or.inl q⟩⟩
  · rintro w4 ⟨q1, q2⟩
    refine (q1.piece hc' hl' rfl (by have := R.pieces_pos (s := M) (by omega); simp only [newLn]; omega) false).mono ?_
    rintro e w5 ⟨rfl, F', r1, r2⟩
    exact ⟨rfl, F', r1, q2.trans r2⟩
  · rintro w5 ⟨F', q1, _⟩
    have e1 : (R.sendPieceP (R.setLine G i k (newLn G l uid to M)) i k false).clients[i]? = some { c with lines := c.lines.set k (newLn G l uid to M) } := by
      unfold R.sendPieceP
      rw [sendP_clients]
      exact hc'
    obtain ⟨_, y, _, _, _, hy, hya⟩ := q1.line e1 hl'
    have := hya.a1
    rw [hy.seq] at this
    exact this
end Go.Proofs.YthofebmiggodhaaDoor
/-
  The face of Call.
-/
namespace Go.Proofs.YthofebmiggodhaaDoor
open Go.RowKit

theorem catch_idle (p0 p1 : Addr) (w : World) :
    CallsD Tryd.prog 40 #[.pointer (some p0), .pointer (some p1)] .returning w fun e u' w' => e = .returned (.tuple #[]) ∧ u' = .returning ∧ w' = w := by
  refine callsD_of_wpS Tryd.func40 rfl fun c₀ cs hu => ?_
  apply wpS_seq
  apply wpS_region
  simp [wpOpsS, go_sem, recoverD, hu, Tryd.ntmps40, Exit.thenS]
  rw [show (#[Value.pointer (some p0), Value.pointer (some p1)] ++ ((Array.replicate 7 undef).setIfInBounds 1 (Value.nilIface)).setIfInBounds 0 (Value.nilIface)) = #[.pointer (some p0), .pointer (some p1), .nilIface, .nilIface, undef, undef, undef, undef, undef] from rfl]
  refine wpS_of_wp ?_
  go_wp2
  exact ⟨rfl, .returning, by cases c₀; simp_all, _, results_none rfl _ _ _, rfl, rfl, rfl⟩

set_option maxRecDepth 100000 in
set_option maxHeartbeats 1000000 in
theorem call_face (w : World) (x cs n cap cb i : Nat) (ln uid proc : Int) (X : Value) (sq : Int) (C : World → Prop) (hx : w.cell? ⟨x, 2, none⟩ = some (.slice (some ⟨cs, 0, none⟩) n cap)) (hi : i < n) (hcs : w.cell? ⟨cs, i, none⟩ = some (ptr cb))
    (H41 : Hid (∀ w', Below w.heap.size w w' → w'.heap.size = w.heap.size + 2 → Calls Tryd.prog 41 #[ptr cb, .int .i64 ln, .int .i64 uid, .int .i64 proc, X] w' fun e w'' => e = .returned (.tuple #[.int .i64 sq, .int .i64 0]) ∧ C w'' ∧ w''.heap[w.heap.size]? = w'.heap[w.heap.size]? ∧ w''.heap[w.heap.size + 1]? = w'.heap[w.heap.size + 1]? ∧ w'.heap.size ≤ w''.heap.size)) :
    Calls Tryd.prog 23 #[ptr x, .int .i64 (i : Int), .int .i64 ln, .int .i64 uid, .int .i64 proc, X] w fun e w' => e = .returned (.tuple #[.int .i64 sq, .int .i64 0]) ∧ ∃ w1, C w1 ∧ w1.heap.size ≤ w'.heap.size ∧ w'.os = w1.os ∧ w'.tape = w1.tape ∧ w'.output = w1.output ∧ ∀ k, ¬ k = w.heap.size → ¬ k = w.heap.size + 1 → w'.heap[k]? = w1.heap[k]? := by
  have hmf : ∀ (fn : Fn) (first cap : Array Value) (w : World), (Instr.makeFunc fn first cap).run Tryd.prog w = .ok (.func fn first cap) w := fun _ _ _ _ => rfl
  have q1 : (0 : Int) ≤ (i : Int) := by omega
  have q2 : (i : Int) < (n : Int) := by omega
  have hl1 := lt_of_cell hx
  have hl2 := lt_of_cell hcs
  have HB : Hid (Below w.heap.size w ((w.alloc (.cells #[.int .i64 0] 3)).alloc (.cells #[.int .i64 0] 22))) := ((Below.refl _ _).alloc (Nat.le_refl _) _).alloc (by simp) _
  have HC := hide ((unhide H41) _ (unhide HB) (by simp))
  have HE0 : Hid (((w.alloc (.cells #[.int .i64 0] 3)).alloc (.cells #[.int .i64 0] 22)).heap[w.heap.size]? = some (.cells #[.int .i64 0] 3 (0, 0))) := (Below.heap_alloc _ _ _ (by simp)).trans (heap_alloc_new w _)
  have HE1 : Hid (((w.alloc (.cells #[.int .i64 0] 3)).alloc (.cells #[.int .i64 0] 22)).heap[w.heap.size + 1]? = some (.cells #[.int .i64 0] 22 (0, 0))) := by
    show _ = _
    have := heap_alloc_new (w.alloc (.cells #[.int .i64 0] 3)) (.cells #[.int .i64 0] 22)
    simpa using this
  clear H41
  go_enter_defers Tryd.func23, Tryd.ntmps23
  go_wp2_with (first | (go_at_call 29; go_in))
  refine (unhide HC).mono ?_
  rintro e w1 ⟨rfl, hC, hk0, hk1, hsz⟩
  have f0 := hk0.trans (unhide HE0)
  have f1 := hk1.trans (unhide HE1)
  have c0 : w1.cell? ⟨w.heap.size, 0, none⟩ = some (.int .i64 0) := cell_of f0 0 _ rfl
  have c1 : w1.cell? ⟨w.heap.size + 1, 0, none⟩ = some (.int .i64 0) := cell_of f1 0 _ rfl
  have z0 : w1.frozen? ⟨w.heap.size, 0, none⟩ = false := open_list f0
  have z1 : w1.frozen? ⟨w.heap.size + 1, 0, none⟩ = false := open_list f1
  simp at hsz
  have m0 : w.heap.size < w1.heap.size := by omega
  have m1 : w.heap.size + 1 < w1.heap.size := by omega
  have HC1 := hide hC
  clear hk0 hk1 f0 f1 hC hx hcs
  go_wp2
  refine leaves_cons (f := 40) (args := #[.pointer (some ⟨w.heap.size, 0, none⟩), .pointer (some ⟨w.heap.size + 1, 0, none⟩)]) (by simp) (by simp [go_sem]) ?_
  refine (catch_idle _ _ _).mono ?_
  rintro e u' w'' ⟨rfl, rfl, rfl⟩
  simp [Leaves, settle, results, Tryd.results23, go_sem, c0, c1]
  refine ⟨w1, unhide HC1, by simp, rfl, rfl, rfl, fun k h0 h1 => ?_⟩
  rw [Below.heap_setCell _ _ _ _ (by simpa using h1), Below.heap_setCell _ _ _ _ (by simpa using h0)]

theorem LW.csAt {p : Pl} {F : Foot} {G : R.Wd} {w : World} (h : LW p F G w) {i : Nat} (hi : i < G.clients.length) : w.cell? ⟨p.cs, i, none⟩ = some (ptr (p.cb i)) := by
  obtain ⟨cur, h1, h2⟩ := h.bcs
  simp [World.cell?, h1, h2 i hi]

theorem LW.call {p : Pl} {F : Foot} {G : R.Wd} {w : World} (h : LW p F G w) (ht : Tab0 w) {i k : Nat} {c : R.Cl} {l : R.Ln} (hc : G.clients[i]? = some c) (hl : c.lines[k]? = some l) {uid proc : Int} (hb : uid ∈ c.bound) (hp : 0 ≤ proc ∧ proc ≤ 65535) (hs : sigE (kindOf G uid) proc = 0) {X : Value} {v : List V.It} (hI : V.Items w X v) (hn : v.length ≤ 9000000000000) (hchk : (V.Pt.chk (V.nx (sigA (kindOf G uid) proc)) (sigA (kindOf G uid) proc).size).1 = 0) (hm : (V.mRes (sigA (kindOf G uid) proc) v).1 = 0) (hl70 : (V.mRes (sigA (kindOf G uid) proc) v).2.length ≤ 70) (hst : ¬ l.state = 1) (hsq : ¬ l.seq = 999) (to : ByteArray) :
    Calls Tryd.prog 23 #[ptr p.x, .int .i64 (i : Int), .int .i64 (k : Int), .int .i64 uid, .int .i64 proc, X] w fun e w' => e = .returned (.tuple #[.int .i64 (l.seq + 1), .int .i64 0]) ∧ ∃ F', LW p F' (R.sendPieceP (R.setLine G i k (newLn G l uid to (two8 proc ++ (V.mRes (sigA (kindOf G uid) proc) v).2))) i k false) w' ∧ Went F F' w w' := by
  have hi := (List.getElem?_eq_some_iff.1 hc).1
  refine (call_face w p.x p.cs G.clients.length p.cap (p.cb i) i k uid proc X (l.seq + 1) (fun w1 => ∃ wf F', Below w.heap.size w wf ∧ wf.heap.size = w.heap.size + 2 ∧ LW p F' (R.sendPieceP (R.setLine G i k (newLn G l uid to (two8 proc ++ (V.mRes (sigA (kindOf G uid) proc) v).2))) i k false) w1 ∧ Went F F' wf w1) (cell_of h.bx 2 _ rfl) hi (h.csAt hi) ?_).mono ?_
  · intro w' hb' hz
    refine ((h.below hb').callC (ht.below hb') hc hl hb hp hs (hI.below hb') hn hchk hm hl70 hst hsq to).mono ?_
    rintro e w'' ⟨rfl, F', q1, q2⟩
    refine ⟨rfl, ⟨w', F', hb', hz, q1, q2⟩, q2.keeps.block _ (by omega) (fun hf => ?_), q2.keeps.block _ (by omega) (fun hf => ?_), q2.keeps.size⟩
    · have := h.lt _ hf
      omega
    · have := h.lt _ hf
      omega
  · rintro e w' ⟨rfl, w1, ⟨wf, F', hb', hz, q1, q2⟩, s1, o1, o2, o3, hk⟩
    have hF' : ∀ k, F' k → ¬ (k = w.heap.size ∨ k = w.heap.size + 1) := fun k hf => by
      rcases q2.fresh k hf with q | q
      · have := h.lt k q
        omega
      · omega
    have hK : Keeps (fun k => k = w.heap.size ∨ k = w.heap.size + 1) w1 w' := ⟨o1, o2, o3, s1, fun k _ hn => hk k (fun e => hn (Or.inl e)) (fun e => hn (Or.inr e))⟩
    refine ⟨rfl, F', q1.elsewhere hK hF', ⟨?_, fun k hf => ?_⟩⟩
    · exact ((Keeps.ofBelow hb' F).trans q2.keeps).andThen hK (fun k hk' e => by omega)
    · rcases q2.fresh k hf with q | q
      · exact Or.inl q
      · exact Or.inr (by omega)
end Go.Proofs.YthofebmiggodhaaDoor
