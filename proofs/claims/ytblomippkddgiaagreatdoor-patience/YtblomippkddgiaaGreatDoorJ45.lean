/-
  Joined: Arg2 Keep6 Wait Start.
-/
import Derived.Test.YtblomippkddgiaaGreatDoorJ44
import Derived.Test.YtblomippkddgiaaGreatDoorJ33
/-
  The statements' argument.
-/
namespace Go.Proofs.YtblomippkddgiaaGreatDoor
open Go.RowKit

def icells (x : V.It) : List Value := [.int .i64 x.1, .string x.2]
theorem icells_len (x : V.It) : (icells x).length = 2 := rfl
theorem items_row {w : World} {B : Nat} {X : Value} {v : List V.It} (h : w.ownsRow B 106 2 X v.length (tab icells v)) : V.Items w X v := by
  rcases h.2 with ⟨rfl, h0⟩ | ⟨g, cap, cur, rfl, _, hg, hcap, _, _, htk⟩
  · exact ⟨none, 0, by rw [h0], by omega, Or.inl (List.eq_nil_of_length_eq_zero h0)⟩
  · refine ⟨_, cap, rfl, hcap, Or.inr ⟨g, 0, rfl, lt_of_block hg, fun j x hj => ?_⟩⟩
    have hjl := (List.getElem?_eq_some_iff.1 hj).1
    have q : ∀ d, d < 2 → cur[j * 2 + d]? = (icells x)[d]? := fun d hd => by
      rw [← tab_get icells_len v j d x hj hd, ← htk, List.getElem?_take, if_pos (by omega)]
      simp
    have q0 := q 0 (by omega)
    have q1 := q 1 (by omega)
    constructor
    · simp [World.cell?, hg]
      simpa [icells] using q0
    · simp [World.cell?, hg]
      simpa [icells] using q1
theorem items_new (w : World) (x : V.It) : V.Items (w.alloc (.cells #[.int .i64 x.1, .string x.2] 106)) (.slice (some ⟨w.heap.size, 0, none⟩) 1 1) [x] :=
  items_row (B := 0) (World.ownsRow_lit (base := 0) (e := 106) (size := 2) w #[.int .i64 x.1, .string x.2] 1 (Nat.zero_le _) (by unfold maxLen; omega) rfl)
def lit14 : ByteArray := ⟨#[102, 111, 117, 114, 116, 101, 101, 110, 32, 98, 121, 116, 101, 115]⟩
theorem lit14_size (n : Nat) (h : n < 15) : (lit14.extract 0 n).size = n := by
  have : ∀ k, k < 15 → (lit14.extract 0 k).size = k := by decide +kernel
  exact this n h

def ArgPost (v : List V.It) (w : World) (e : Ending) (w' : World) : Prop := ∃ X, e = .returned X ∧ V.Items w' X v ∧ Below w.heap.size w w'

set_option maxRecDepth 100000 in
set_option maxHeartbeats 600000 in
theorem arg_00 (a b : Int) (ha : In64 a) : ∃ v, Fits ⟨#[105]⟩ v ∧ ∀ w, Calls Tryz.prog 30 #[.int .i64 0, .int .i64 0, .int .i64 a, .int .i64 b] w (ArgPost v w) := by
  obtain ⟨n, hn, P⟩ := pick_same a 65536 ha (by omega) (by omega)
  refine ⟨[((n : Int) - 32768, e0)], fits_i (by omega), fun w => ?_⟩
  have HP := hide P
  have g1 : IntKind.i64.wrap ((n : Int) - 32768) = (n : Int) - 32768 := by rw [IntKind.wrap_i64]; omega
  have HI := hide (items_new w ((n : Int) - 32768, e0))
  clear P
  unfold ArgPost
  go_enter Tryz.func30, Tryz.ntmps30
  go_wp2_with (first | (go_at_call 11; refine ((unhide HP) _).mono ?_; rintro e w1 ⟨rfl, hw1⟩; rw [hw1]; clear hw1))
  go_returns
  exact ⟨_, rfl, unhide HI, (Below.refl _ _).alloc (Nat.le_refl _) _⟩
set_option maxRecDepth 100000 in
set_option maxHeartbeats 600000 in
theorem arg_01 (a b : Int) (ha : In64 a) : ∃ v, Fits ⟨#[98]⟩ v ∧ ∀ w, Calls Tryz.prog 30 #[.int .i64 0, .int .i64 1, .int .i64 a, .int .i64 b] w (ArgPost v w) := by
  obtain ⟨n, hn, P⟩ := pick_same a 2 ha (by omega) (by omega)
  refine ⟨[((n : Int), e0)], fits_b (by omega), fun w => ?_⟩
  have HP := hide P
  have HI := hide (items_new w ((n : Int), e0))
  clear P
  unfold ArgPost
  go_enter Tryz.func30, Tryz.ntmps30
  go_wp2_with (first | (go_at_call 11; refine ((unhide HP) _).mono ?_; rintro e w1 ⟨rfl, hw1⟩; rw [hw1]; clear hw1))
  go_returns
  exact ⟨_, rfl, unhide HI, (Below.refl _ _).alloc (Nat.le_refl _) _⟩
set_option maxRecDepth 100000 in
set_option maxHeartbeats 600000 in
theorem arg_11 (a b : Int) (ha : In64 a) : ∃ v, Fits ⟨#[99]⟩ v ∧ ∀ w, Calls Tryz.prog 30 #[.int .i64 1, .int .i64 1, .int .i64 a, .int .i64 b] w (ArgPost v w) := by
  obtain ⟨n, hn, P⟩ := pick_same a 6 ha (by omega) (by omega)
  refine ⟨[((n : Int), e0)], fits_c (by omega), fun w => ?_⟩
  have HP := hide P
  have HI := hide (items_new w ((n : Int), e0))
  clear P
  unfold ArgPost
  go_enter Tryz.func30, Tryz.ntmps30
  go_wp2_with (first | (go_at_call 11; refine ((unhide HP) _).mono ?_; rintro e w1 ⟨rfl, hw1⟩; rw [hw1]; clear hw1))
  go_returns
  exact ⟨_, rfl, unhide HI, (Below.refl _ _).alloc (Nat.le_refl _) _⟩
set_option maxRecDepth 100000 in
set_option maxHeartbeats 600000 in
theorem arg_10 (a b : Int) (ha : In64 a) : ∃ v, Fits ⟨#[115]⟩ v ∧ ∀ w, Calls Tryz.prog 30 #[.int .i64 1, .int .i64 0, .int .i64 a, .int .i64 b] w (ArgPost v w) := by
  obtain ⟨n, hn, P⟩ := pick_same a 15 ha (by omega) (by omega)
  refine ⟨[(0, lit14.extract 0 n)], fits_s (by rw [lit14_size n hn]; omega), fun w => ?_⟩
  have HP := hide P
  have HI := hide (items_new w (0, lit14.extract 0 n))
  clear P
  unfold ArgPost
  go_enter Tryz.func30, Tryz.ntmps30
  go_wp2_with (first | (go_at_call 11; refine ((unhide HP) _).mono ?_; rintro e w1 ⟨rfl, hw1⟩; rw [hw1]; clear hw1))
  go_returns
  exact ⟨_, rfl, unhide HI, (Below.refl _ _).alloc (Nat.le_refl _) _⟩

theorem info88 : (Tryz.prog.info? 106).map (fun i => (i.zero, i.size, i.bytes)) = some (some (.agg #[.int .i64 0, .string ⟨#[]⟩]), 2, 24) := by kernel_rfl
theorem one_item (w : World) (n : Int) (j : Nat) (u : Value) (h : ([.int .i64 n, .string ⟨#[]⟩] : List Value)[j]? = some u) : (w.alloc (.cells #[.int .i64 n, .string ⟨#[]⟩] 106)).cell? ((⟨w.heap.size, 0, none⟩ : Addr).add j) = some u := by
  rw [Addr.add_lit, Nat.zero_add, World.cell?_alloc_new w _ _ j, ← List.getElem?_toArray] at *
  exact h
def deskL (m i : Nat) : List Int := (List.range i).map fun (j : Nat) => (m : Int) + (j : Int) - 30000
def deskV (a n m i : Nat) : List V.It := ((a : Int), e0) :: ((n : Int), e0) :: (deskL m i).map fun x => (x, e0)
theorem deskV_len (a n m i : Nat) : (deskV a n m i).length = i + 2 := by simp [deskV, deskL]
theorem deskV_snoc (a n m i : Nat) : deskV a n m (i + 1) = deskV a n m i ++ [((m : Int) + (i : Int) - 30000, e0)] := by
  simp [deskV, deskL, List.range_succ]

set_option maxRecDepth 100000 in
set_option maxHeartbeats 600000 in
theorem arg_20 (a b : Int) (ha : In64 a) (hb : In64 b) : ∃ v, Fits deskT v ∧ ∀ w, Calls Tryz.prog 30 #[.int .i64 2, .int .i64 0, .int .i64 a, .int .i64 b] w (ArgPost v w) := by
  obtain ⟨n, hn, P⟩ := pick_same b 4 hb (by omega) (by omega)
  obtain ⟨x, hx, Q⟩ := pick_same a 3 ha (by omega) (by omega)
  obtain ⟨m, hm, R⟩ := pick_same a 60000 ha (by omega) (by omega)
  have hF : Fits deskT (deskV x n m n) := by
    have hl : (deskL m n).length = n := by simp [deskL]
    have := fits_desk (a := (x : Int)) (L := deskL m n) (by omega) (by omega) (fun y hy => by
      obtain ⟨j, hj, rfl⟩ := List.mem_map.1 hy
      have := List.mem_range.1 hj
      omega)
    rw [hl] at this
    exact this
  refine ⟨_, hF, fun w => ?_⟩
  have HP := hide P
  have HQ := hide Q
  have HR := hide R
  obtain ⟨i0, hi, hz0, hz1, hz2⟩ := info_parts info88
  have HS : Hid ((w.alloc (.cells #[.int .i64 (x : Int), .string ⟨#[]⟩, .int .i64 (n : Int), .string ⟨#[]⟩] 106)).ownsRow w.heap.size 106 2 (.slice (some ⟨w.heap.size, 0, none⟩) 2 2) (0 + 2) (tab icells (deskV x n m 0))) :=
    World.ownsRow_lit (base := w.heap.size) (e := 106) (size := 2) w #[.int .i64 (x : Int), .string ⟨#[]⟩, .int .i64 (n : Int), .string ⟨#[]⟩] 2 (Nat.le_refl _) (by unfold maxLen; omega) rfl
  have HB : Hid (Below w.heap.size w (w.alloc (.cells #[.int .i64 (x : Int), .string ⟨#[]⟩, .int .i64 (n : Int), .string ⟨#[]⟩] 106))) := (Below.refl _ _).alloc (Nat.le_refl _) _
  clear P Q R hF
  unfold ArgPost
  go_enter Tryz.func30, Tryz.ntmps30
  go_wp2_with (first | (go_at_call 11; refine ((unhide HP) _).mono ?_; clear HP; rintro e w1 ⟨rfl, hw1⟩; rw [hw1]; clear hw1) | (go_at_call 11; refine ((unhide HQ) _).mono ?_; clear HQ; rintro e w1 ⟨rfl, hw1⟩; rw [hw1]; clear hw1))
  go_loopw [10, 11] (fun lv iv wr => ∃ i : Nat, i ≤ n ∧ iv = .int .i64 i ∧ wr.ownsRow w.heap.size 106 2 lv (i + 2) (tab icells (deskV x n m i)) ∧ Below w.heap.size w wr) (fun _ iv _ => n - (intOf iv).toNat)
  case atStart => exact ⟨0, Nat.zero_le _, rfl, unhide HS, unhide HB⟩
  case round =>
    obtain ⟨i, hin, rfl, hrow, hbl⟩ := hrel
    by_cases hlt : i < n
    · have hsz := hbl.size
      have hlts := fun q => World.ownsRow.lt hrow q
      obtain ⟨la, lc, hls⟩ := slice_of hrow
      subst hls
      have HRW := hide hrow
      have HBL := hide hbl
      have HLT := hide hlts
      have g1 : IntKind.i64.wrap ((m : Int) + (i : Int)) = (m : Int) + (i : Int) := by rw [IntKind.wrap_i64]; omega
      have g2 : IntKind.i64.wrap ((m : Int) + (i : Int) - 30000) = (m : Int) + (i : Int) - 30000 := by rw [IntKind.wrap_i64]; omega
      clear hrow hbl hlts
      go_wp2_with (first
        | (go_at_call 11; refine ((unhide HR) _).mono ?_; rintro e w1 ⟨rfl, hw1⟩; rw [hw1]; clear hw1)
        | (at_builtin; go_must (refine wpList_append_own_at _ rfl (.tmp 63) (.tmp 70) 44 rfl w.heap.size 106 i0 (.agg #[.int .i64 0, .string ⟨#[]⟩]) 2 24 Tryz.underlying44 hi hz0 hz1 hz2 rfl (by decide) (.slice la (i + 2) lc) (i + 2) (tab icells (deskV x n m i)) rfl (by exact (unhide HRW).alloc _) ⟨_, 0, none⟩ 1 1 [.int .i64 ((m : Int) + (i : Int) - 30000), .string ⟨#[]⟩] rfl rfl (by exact one_item _ _) (by simp [Value.oneCell']) (by unfold maxLen; omega) (by omega) (by simp; omega) ?_; intro v' wz hown hgrow _ hat)))
      have HRN : Hid (wz.ownsRow w.heap.size 106 2 v' (i + 1 + 2) (tab icells (deskV x n m (i + 1)))) := by
        rw [deskV_snoc, tab_snoc]
        exact hown
      have HBN := hide (((unhide HBL).alloc hsz _).grown hgrow (by simp; omega) (fun q hq => ((unhide HLT) q hq).1))
      clear hown hgrow hat
      go_wp2
      go_roundw
      case rel => exact ⟨i + 1, by omega, by go_num, unhide HRN, unhide HBN⟩
      case measure => simp [intOf]; omega
    · obtain rfl : i = n := by omega
      obtain ⟨la, lc, hls⟩ := slice_of hrow
      have HI : Hid (V.Items wr u10 (deskV x i m i)) := items_row (by rw [deskV_len]; exact hrow)
      have HBL := hide hbl
      clear hrow hbl hls
      go_wp2
      go_returns
      exact ⟨_, rfl, unhide HI, unhide HBL⟩
end Go.Proofs.YtblomippkddgiaaGreatDoor
/-
  The statements' call: on client 0, line 0.
-/
namespace Go.Proofs.YtblomippkddgiaaGreatDoor
open Go.RowKit

theorem info61 : (Tryz.prog.info? 55).map (fun i => (i.zero, i.size, i.bytes)) = some (some (.agg #[.int .i64 0, .int .i64 0, .int .i64 0, .int .i64 0, .int .i64 0, .int .i64 0, .slice none 0 0]), 7, 72) := by kernel_rfl

/- an argument for a kind and a procedure -/
theorem arg_any (k pr : Nat) (hk : k < 3) (hpr : pr < 2) (h2 : k = 2 → pr = 0) (a b : Int) (ha : In64 a) (hb : In64 b) : ∃ v, Fits (sigA k pr) v ∧ sigE k pr = 0 ∧ ∀ w, Calls Tryz.prog 30 #[.int .i64 (k : Int), .int .i64 (pr : Int), .int .i64 a, .int .i64 b] w (ArgPost v w) := by
  have h3 : (k = 0 ∧ pr = 0) ∨ (k = 0 ∧ pr = 1) ∨ (k = 1 ∧ pr = 0) ∨ (k = 1 ∧ pr = 1) ∨ (k = 2 ∧ pr = 0) := by omega
  rcases h3 with ⟨rfl, rfl⟩ | ⟨rfl, rfl⟩ | ⟨rfl, rfl⟩ | ⟨rfl, rfl⟩ | ⟨rfl, rfl⟩
  · obtain ⟨v, h, q⟩ := arg_00 a b ha
    exact ⟨v, h, rfl, q⟩
  · obtain ⟨v, h, q⟩ := arg_01 a b ha
    exact ⟨v, h, rfl, q⟩
  · obtain ⟨v, h, q⟩ := arg_10 a b ha
    exact ⟨v, h, rfl, q⟩
  · obtain ⟨v, h, q⟩ := arg_11 a b ha
    exact ⟨v, h, rfl, q⟩
  · obtain ⟨v, h, q⟩ := arg_20 a b ha hb
    exact ⟨v, h, rfl, q⟩

/- what is wanted of a world, that a call on its first line be taken -/
structure Ready (s : RS) (G : R.Wd) (k : Nat) (cl : R.Cl) (l : R.Ln) : Prop where
  gcl : G.clients[0]? = some cl
  gln : cl.lines[0]? = some l
  st : ¬ l.state = 1
  st2 : ¬ l.state = 2
  sq : l.seq ≤ 500
  sq0 : 0 ≤ l.seq
  seq : s.seq[0]? = some l.seq
  uid : s.uid[k]? = some ((k : Int) + 1)
  bound : ((k : Int) + 1) ∈ cl.bound
  kind : kindOf G ((k : Int) + 1) = (k : Int)
  life : ∃ x, s.life[0]? = some x
  nm : s.nm + 1 ≤ 10
def newLn (G : R.Wd) (l : R.Ln) (uid : Int) (to : ByteArray) (m : List UInt8) : R.Ln := ⟨l.seq + 1, 1, [], uid, to, m, 0, [], 0, G.c.retry, G.c.tries⟩
/- the type of the result, out of a call's message -/
def toOf (k : Nat) (m : List UInt8) : ByteArray := sigB (k : Int) ((((m[1]?).getD 0).toNat : Nat) : Int)
def calledG (G : R.Wd) (l : R.Ln) (k : Nat) (m : List UInt8) : R.Wd := R.sendPieceP (R.setLine G ((0 : Nat) : Int) ((0 : Nat) : Int) (newLn G l ((k : Int) + 1) (toOf k m) m)) ((0 : Nat) : Int) ((0 : Nat) : Int) false

set_option maxRecDepth 100000 in
theorem cf23 : ∀ args w, (callFunc 31 args).run Tryz.prog w = .ok (.enter 31 args) w := fun _ _ => rfl
set_option maxRecDepth 100000 in
theorem cf22 : ∀ args w, (callFunc 30 args).run Tryz.prog w = .ok (.enter 30 args) w := fun _ _ => rfl

theorem sigP_yes {k : Nat} {pr : Int} (hk : k < 3) (h : sigE k pr = 0) : R.sigP k pr = some (sigA k pr, sigB k pr) := by
  have h3 : k = 0 ∨ k = 1 ∨ k = 2 := by omega
  unfold sigE at h
  rcases h3 with rfl | rfl | rfl
  · by_cases a : pr = 0
    · subst a; rfl
    · by_cases b : pr = 1
      · subst b; rfl
      · simp [a, b] at h
  · by_cases a : pr = 0
    · subst a; rfl
    · by_cases b : pr = 1
      · subst b; rfl
      · simp [a, b] at h
  · by_cases a : pr = 0
    · subst a; rfl
    · simp [a] at h
theorem sigE_lt {k : Nat} {pr : Int} (hE : sigE k pr = 0) : k < 3 := by
  by_cases a : k < 3
  · exact a
  · unfold sigE at hE
    rw [if_pos (by omega)] at hE
    cases hE
theorem callP_yes {s : RS} {G : R.Wd} (hwf : R.Wf G) {k : Nat} {pr : Int} {cl : R.Cl} {l : R.Ln} (hR : Ready s G k cl l) (hpr : 0 ≤ pr ∧ pr < 2) {v : List V.It} (hF : Fits (sigA k pr) v) (hE : sigE k pr = 0) : R.callP G 0 0 ((k : Int) + 1) pr v = ((l.seq + 1, 0), calledG G l k (two8 pr ++ (V.mRes (sigA k pr) v).2)) := by
  have hi := (List.getElem?_eq_some_iff.1 hR.gcl).1
  have hl := (List.getElem?_eq_some_iff.1 hR.gln).1
  have hll := (hwf.cl 0 cl hR.gcl).lines
  have hkk : ((G.services[((k : Int) + 1 - 1).toNat]?).map (·.kind)).getD 0 = (k : Int) := hR.kind
  have hk3 : k < 3 := sigE_lt hE
  have hln : R.lineP G 0 0 = l := R.lineP_some (i := 0) (k := 0) hR.gcl hR.gln
  have hsq := hR.sq
  have hto : toOf k (two8 pr ++ (V.mRes (sigA k pr) v).2) = sigB k pr := by
    have hp : pr = 0 ∨ pr = 1 := by omega
    rcases hp with rfl | rfl <;> rfl
  unfold R.callP
  rw [if_neg (by omega), if_neg (by omega), if_neg (by simp [hR.gcl, hR.bound]), hkk, sigP_yes hk3 hE]
  simp only [R.bytesP]
  rw [if_pos hF.zero]
  simp only
  rw [hln, if_neg hR.st, if_neg (by omega)]
  unfold calledG newLn
  rw [hto]
  rfl
theorem Both.callW {w0 : World} {q : RP} {p : Pl} {c : R.Cf} {s : RS} {G : R.Wd} {w W : World} (h : Both w0 q p c s G w) (hb : Below w.heap.size w W) {k : Nat} {pr : Int} {cl : R.Cl} {l : R.Ln} (hR : Ready s G k cl l) (hpr : 0 ≤ pr ∧ pr < 2) {v : List V.It} (hF : Fits (sigA k pr) v) (hE : sigE k pr = 0) {X : Value} (hI : V.Items W X v) :
    Calls Tryz.prog 31 #[ptr q.x, .int .i64 0, .int .i64 0, .int .i64 ((k : Int) + 1), .int .i64 pr, X] W fun e w' => e = .returned (.tuple #[.int .i64 (l.seq + 1), .int .i64 0]) ∧ (∃ m, 2 ≤ m.length ∧ m.length ≤ 72 ∧ Both w0 q p c s (calledG G l k m) w') ∧ ∀ b, w.heap.size ≤ b → b < W.heap.size → w'.heap[b]? = W.heap[b]? := by
  have h' := h.still hb
  obtain ⟨tp, E, F, hr, hw, hd, hlo⟩ := h.run
  have hk3 := sigE_lt hE
  have hc := (hw.below hb).call h'.t0 0 0 ((k : Int) + 1) pr (by omega) hI hF.few
  have hcp := callP_yes hw.wf hR hpr hF hE
  rw [hcp] at hc
  rw [h.x]
  refine hc.mono ?_
  rintro e w' ⟨rfl, F', q1, q2⟩
  refine ⟨rfl, ⟨_, ?_, ?_, h'.world (hr.below hb) hd hlo q1 q2⟩, fun b h1 h2 => q2.keeps.block b h2 (fun hf => by have := hw.lt b hf; omega)⟩
  · simp [two8]
  · have := hF.len
    simp [two8]
    omega
theorem Both.statusW {w0 : World} {q : RP} {p : Pl} {c : R.Cf} {s : RS} {G : R.Wd} {w : World} (h : Both w0 q p c s G w) {cl : R.Cl} {l : R.Ln} (h1 : G.clients[0]? = some cl) (h2 : cl.lines[0]? = some l) (h3 : ¬ l.state = 2) :
    Calls Tryz.prog 16 #[ptr q.x, .int .i64 0, .int .i64 0] w fun e w' => (∃ a n c, e = .returned (.tuple #[.agg #[.int .i64 l.state, .int .i64 l.seq, .slice a n c], .int .i64 0])) ∧ Below w.heap.size w w' := by
  obtain ⟨tp, E, F, hr, hw, hd, hlo⟩ := h.run
  rw [h.x]
  have hi := (List.getElem?_eq_some_iff.1 h1).1
  have hk := (List.getElem?_eq_some_iff.1 h2).1
  have hS : Calls Tryz.prog 16 #[ptr p.x, .int .i64 0, .int .i64 0] w fun e w' => (∃ O, e = .returned (.tuple #[.agg #[.int .i64 l.state, .int .i64 l.seq, O], .int .i64 0]) ∧ V.Row w' w.heap.size O []) ∧ Below w.heap.size w w' := by
    refine status_face w p.x p.cs G.clients.length p.cap (p.cb 0) 0 0 l.state l.seq 0 [] (cell_of hw.bx 2 _ rfl) hi (hw.csAt hi) ?_
    intro w' hb
    have h' := hw.below hb
    obtain ⟨xs, x, hL, hR, hx, hx1, hla, _, hit⟩ := h'.line h1 h2
    rw [hx1.res h3] at hit
    have := status_walk w' F (p.cb 0) (p.lb 0) _ 0 x _ (by simp) hit hk (clAt h' h1).a3 hla
    rw [hx1.state, hx1.seq] at this
    exact this
  refine hS.mono ?_
  rintro e w' ⟨⟨O, rfl, hrow⟩, hb⟩
  obtain ⟨a, n, c, rfl⟩ := row_shape hrow
  exact ⟨⟨a, n, c, rfl⟩, hb⟩
end Go.Proofs.YtblomippkddgiaaGreatDoor
/-
  One call alone under way, and nothing delivered: what the ticks do.
-/
namespace Go.Proofs.YtblomippkddgiaaGreatDoor

theorem lineP_set {G : R.Wd} {l' : R.Ln} {i k : Nat} (h : ¬ (i = 0 ∧ k = 0)) : R.lineP (R.setLine G ((0 : Nat) : Int) ((0 : Nat) : Int) l') i k = R.lineP G i k := by
  unfold R.lineP
  simp only [Int.toNat_natCast]
  rw [R.setLine_client]
  cases G.clients[i]? with
  | none => rfl
  | some c =>
    by_cases hi : 0 = i
    · subst hi
      have hk : ¬ 0 = k := fun e => h ⟨rfl, e.symm⟩
      simp [hk]
    · simp [hi]
theorem lineP_send {G : R.Wd} {to : Int} {p : Pk} {i k : Nat} : R.lineP (R.sendP G to p) i k = R.lineP G i k := by
  unfold R.lineP
  rw [sendP_clients]
theorem sendP_room {G : R.Wd} {to : Int} {p : Pk} (h : G.flying.length < 40) : (R.sendP G to p).flying = G.flying ++ [⟨to, sealB p, false⟩] := by
  unfold R.sendP
  rw [if_pos h]

/- only the first line of the first client may be under way -/
structure Alone (G : R.Wd) (c : R.Cf) (cl : R.Cl) (l : R.Ln) : Prop where
  cf : G.c = c
  len : 1 ≤ G.clients.length
  lines : 1 ≤ c.lines.toNat
  gcl : G.clients[0]? = some cl
  gln : cl.lines[0]? = some l
  life : cl.life = 1
  rest : ∀ i k : Nat, ¬ (i = 0 ∧ k = 0) → ¬ (R.lineP G i k).state = 1
theorem Alone.at {G : R.Wd} {c : R.Cf} {cl : R.Cl} {l : R.Ln} (h : Alone G c cl l) : R.lineP G ((0 : Nat) : Int) ((0 : Nat) : Int) = l := R.lineP_some h.gcl h.gln
theorem Alone.set {G : R.Wd} {c : R.Cf} {cl : R.Cl} {l : R.Ln} (h : Alone G c cl l) (l' : R.Ln) : Alone (R.setLine G ((0 : Nat) : Int) ((0 : Nat) : Int) l') c { cl with lines := cl.lines.set 0 l' } l' := by
  refine ⟨h.cf, by simpa [R.setLine] using h.len, h.lines, ?_, ?_, h.life, fun i k hik => by rw [lineP_set hik]; exact h.rest i k hik⟩
  · rw [R.setLine_client, h.gcl]
    simp
  · simp [(List.getElem?_eq_some_iff.1 h.gln).1]
theorem Alone.send {G : R.Wd} {c : R.Cf} {cl : R.Cl} {l : R.Ln} (h : Alone G c cl l) (to : Int) (p : Pk) : Alone (R.sendP G to p) c cl l := by
  refine ⟨by rw [sendP_c]; exact h.cf, by rw [sendP_clients]; exact h.len, h.lines, by rw [sendP_clients]; exact h.gcl, h.gln, h.life, fun i k hik => by rw [lineP_send]; exact h.rest i k hik⟩

theorem tickC_idle {G : R.Wd} {i : Nat} : ∀ n, (∀ k : Nat, k < n → ¬ (R.lineP G i k).state = 1) → tickC G i n = G
  | 0, _ => rfl
  | n + 1, h => by
    rw [tickC_succ, tickC_idle n (fun k hk => h k (by omega))]
    exact tickLine_idle rfl (h n (by omega))
theorem tickC_first {G : R.Wd} {n : Nat} (h : ∀ k : Nat, ¬ k = 0 → ¬ (R.lineP (R.tickLine G ((0 : Nat) : Int) ((0 : Nat) : Int)) ((0 : Nat) : Int) k).state = 1) : tickC G 0 (n + 1) = R.tickLine G ((0 : Nat) : Int) ((0 : Nat) : Int) := by
  induction n with
  | zero => rw [tickC_succ]; rfl
  | succ n ih =>
    rw [tickC_succ, ih]
    exact tickLine_idle rfl (h (n + 1) (by omega))
theorem tickW_first {G G' : R.Wd} (hG : G' = R.tickLine G ((0 : Nat) : Int) ((0 : Nat) : Int)) (hl : 1 ≤ G.c.lines.toNat) (h : ∀ i k : Nat, ¬ (i = 0 ∧ k = 0) → ¬ (R.lineP G' i k).state = 1) : ∀ n, tickW G (n + 1) = G'
  | 0 => by
    rw [tickW_succ]
    show tickC G 0 G.c.lines.toNat = G'
    obtain ⟨m, hm⟩ : ∃ m, G.c.lines.toNat = m + 1 := ⟨G.c.lines.toNat - 1, by omega⟩
    rw [hm, tickC_first (fun k hk => by rw [← hG]; exact h 0 k (fun e => hk e.2)), hG]
  | n + 1 => by
    rw [tickW_succ, tickW_first hG hl h n]
    exact tickC_idle _ (fun k _ => h (n + 1) k (fun e => by omega))
theorem Alone.tick {G : R.Wd} {c : R.Cf} {cl : R.Cl} {l : R.Ln} (h : Alone G c cl l) (hr : ∀ i k : Nat, ¬ (i = 0 ∧ k = 0) → ¬ (R.lineP (R.tickLine G ((0 : Nat) : Int) ((0 : Nat) : Int)) i k).state = 1) : R.tickLines G = R.tickLine G ((0 : Nat) : Int) ((0 : Nat) : Int) := by
  rw [tickLines_eq]
  obtain ⟨m, hm⟩ : ∃ m, G.clients.length = m + 1 := ⟨G.clients.length - 1, by have := h.len; omega⟩
  rw [hm]
  exact tickW_first rfl (by rw [h.cf]; exact h.lines) hr m

/- the packet that is sent again -/
def againPk (l : R.Ln) : Pk := ⟨1, 0, 1, 0, l.seq, l.uid, 0, R.piecesP l.message, true, R.pieceP l.message 0⟩
def firstPk (l : R.Ln) : Pk := { againPk l with please := decide (0 < R.piecesP l.message - 1) }
/- behind t ticks -/
structure Tk (c : R.Cf) (m : List UInt8) (sq uid : Int) (f0 : R.Fl) (t : Nat) (G : R.Wd) : Prop where
  al : ∃ cl l, Alone G c cl l ∧ l.state = 1 ∧ l.seq = sq ∧ l.uid = uid ∧ l.message = m ∧ l.acked = 0 ∧ l.wait = c.retry - ((t % c.retry.toNat : Nat) : Int) ∧ l.tries = c.tries - ((t / c.retry.toNat : Nat) : Int)
  fly : G.flying = f0 :: List.replicate (t / c.retry.toNat) ⟨-1, sealB ⟨1, 0, 1, 0, sq, uid, 0, R.piecesP m, true, R.pieceP m 0⟩, false⟩

theorem div_step {r t : Nat} (hr : 1 ≤ r ∧ r ≤ 8) : (t % r + 1 < r ∧ (t + 1) % r = t % r + 1 ∧ (t + 1) / r = t / r) ∨ (t % r + 1 = r ∧ (t + 1) % r = 0 ∧ (t + 1) / r = t / r + 1) := by
  have h : r = 1 ∨ r = 2 ∨ r = 3 ∨ r = 4 ∨ r = 5 ∨ r = 6 ∨ r = 7 ∨ r = 8 := by omega
  rcases h with rfl | rfl | rfl | rfl | rfl | rfl | rfl | rfl <;> omega

theorem Tk.next {c : R.Cf} (hc : R.okCf c) {m : List UInt8} (hm : 1 ≤ m.length) {sq uid : Int} {f0 : R.Fl} {t : Nat} {G : R.Wd} (h : Tk c m sq uid f0 t G) (ht : (t + 1) / c.retry.toNat ≤ c.tries.toNat) : Tk c m sq uid f0 (t + 1) (R.tickLines G) := by
  obtain ⟨cl, l, hal, h1, h2, h3, h4, h5, h6, h7⟩ := h.al
  have hfl := h.fly
  unfold R.okCf at hc
  have hd := div_step (r := c.retry.toNat) (t := t) (by omega)
  have hmod := Nat.mod_lt t (show 0 < c.retry.toNat by omega)
  have hcr := hal.cf
  have hpp := R.pieces_pos hm
  rcases hd with ⟨d1, d2, d3⟩ | ⟨d1, d2, d3⟩
  · have eT : R.tickLine G ((0 : Nat) : Int) ((0 : Nat) : Int) = R.setLine G ((0 : Nat) : Int) ((0 : Nat) : Int) { l with wait := l.wait - 1 } := by
      unfold R.tickLine
      simp only [hal.at]
      rw [if_neg (by omega), if_pos (by omega)]
    have hA := hal.set { l with wait := l.wait - 1 }
    rw [hal.tick (by rw [eT]; exact hA.rest), eT]
    refine ⟨⟨_, _, hA, h1, h2, h3, h4, h5, ?_, ?_⟩, ?_⟩
    · simp only; rw [d2]; omega
    · simp only; rw [d3]; omega
    · rw [d3]; exact hfl
  · have eT : R.tickLine G ((0 : Nat) : Int) ((0 : Nat) : Int) = R.sendPieceP (R.setLine G ((0 : Nat) : Int) ((0 : Nat) : Int) { l with wait := G.c.retry, tries := l.tries - 1 }) ((0 : Nat) : Int) ((0 : Nat) : Int) true := by
      unfold R.tickLine
      simp only [hal.at]
      rw [if_neg (by omega), if_neg (by omega), if_neg (by omega), if_pos (by rw [h4, h5]; omega)]
    have hA := hal.set { l with wait := G.c.retry, tries := l.tries - 1 }
    rw [R.sendPieceP_eq hA.at] at eT
    have hpk : R.callPk (R.setLine G ((0 : Nat) : Int) ((0 : Nat) : Int) { l with wait := G.c.retry, tries := l.tries - 1 }) 0 0 { l with wait := G.c.retry, tries := l.tries - 1 } true = ⟨1, 0, 1, 0, sq, uid, 0, R.piecesP m, true, R.pieceP m 0⟩ := by
      unfold R.callPk
      rw [R.lifeP_some hA.gcl]
      simp [h2, h3, h4, h5, hal.life]
    rw [hpk] at eT
    have hB := hA.send (-1) ⟨1, 0, 1, 0, sq, uid, 0, R.piecesP m, true, R.pieceP m 0⟩
    rw [hal.tick (by rw [eT]; exact hB.rest), eT]
    refine ⟨⟨_, _, hB, h1, h2, h3, h4, h5, ?_, ?_⟩, ?_⟩
    · simp only; rw [d2, hcr]; simp
    · simp only; rw [d3]; omega
    · rw [sendP_room (by rw [R.setLine_flying, hfl]; simp; omega), R.setLine_flying, hfl, d3, List.replicate_succ', List.cons_append]
/- the last tick -/
structure Tend (c : R.Cf) (m : List UInt8) (sq uid : Int) (f0 : R.Fl) (G : R.Wd) : Prop where
  al : ∃ cl l, Alone G c cl l ∧ l.state = 3 ∧ l.seq = sq
  fly : G.flying = f0 :: List.replicate c.tries.toNat ⟨-1, sealB ⟨1, 0, 1, 0, sq, uid, 0, R.piecesP m, true, R.pieceP m 0⟩, false⟩
theorem Tk.last {c : R.Cf} (hc : R.okCf c) {m : List UInt8} {sq uid : Int} {f0 : R.Fl} {t : Nat} {G : R.Wd} (h : Tk c m sq uid f0 t G) (ht : t + 1 = c.retry.toNat * (c.tries.toNat + 1)) : Tend c m sq uid f0 (R.tickLines G) := by
  obtain ⟨cl, l, hal, h1, h2, h3, h4, h5, h6, h7⟩ := h.al
  have hfl := h.fly
  unfold R.okCf at hc
  have e1 : (t + 1) / c.retry.toNat = c.tries.toNat + 1 := by rw [ht]; exact Nat.mul_div_cancel_left _ (by omega)
  have e2 : (t + 1) % c.retry.toNat = 0 := by rw [ht]; exact Nat.mul_mod_right _ _
  have hd := div_step (r := c.retry.toNat) (t := t) (by omega)
  have hd2 : t % c.retry.toNat + 1 = c.retry.toNat ∧ t / c.retry.toNat = c.tries.toNat := by
    rcases hd with ⟨_, d2, _⟩ | ⟨d1, _, d3⟩ <;> omega
  have eT : R.tickLine G ((0 : Nat) : Int) ((0 : Nat) : Int) = R.setLine G ((0 : Nat) : Int) ((0 : Nat) : Int) { l with wait := l.wait - 1, state := 3 } := by
    unfold R.tickLine
    simp only [hal.at]
    rw [if_neg (by omega), if_neg (by omega), if_pos (by omega)]
  have hA := hal.set { l with wait := l.wait - 1, state := 3 }
  rw [hal.tick (by rw [eT]; exact hA.rest), eT]
  refine ⟨⟨_, _, hA, rfl, h2⟩, ?_⟩
  rw [R.setLine_flying, hfl, hd2.2]
theorem Tend.still {c : R.Cf} {m : List UInt8} {sq uid : Int} {f0 : R.Fl} {G : R.Wd} (h : Tend c m sq uid f0 G) : R.tickLines G = G := by
  obtain ⟨cl, l, hal, h1, h2⟩ := h.al
  have eT : R.tickLine G ((0 : Nat) : Int) ((0 : Nat) : Int) = G := tickLine_idle hal.at (by omega)
  rw [hal.tick (by rw [eT]; exact hal.rest), eT]
end Go.Proofs.YtblomippkddgiaaGreatDoor
/-
  What stands behind begun and a call, pure.
-/
namespace Go.Proofs.YtblomippkddgiaaGreatDoor

structure Plain (c : R.Cf) (G : R.Wd) : Prop where
  cf : G.c = c
  fly : G.flying = []
  sn : G.seen = List.replicate 9 R.sn0
  each : ∀ (j : Nat) (x : R.Cl), G.clients[j]? = some x → x.lines = List.replicate c.lines.toNat R.ln0 ∧ x.life = 1
theorem plain_import {c : R.Cf} {G : R.Wd} (h : Plain c G) (i : Nat) (u : Int) : Plain c (importedG G i u) := by
  refine ⟨h.cf, h.fly, h.sn, fun j x hx => ?_⟩
  obtain ⟨c0, h0, rfl⟩ := imported_get hx
  split <;> exact h.each j c0 h0
theorem plain_exp (c : R.Cf) : ∀ k, Plain c (expG c k)
  | 0 => ⟨rfl, rfl, rfl, fun j x hx => by obtain ⟨_, rfl⟩ := newG_client hx; exact ⟨rfl, rfl⟩⟩
  | k + 1 => by
    have h := plain_exp c k
    exact ⟨h.cf, h.fly, h.sn, h.each⟩
theorem plain_binds {c : R.Cf} {G : R.Wd} (h : Plain c G) (i : Nat) (u : List Int) : ∀ k, Plain c (bindsG G i u k)
  | 0 => h
  | k + 1 => plain_import (plain_binds h i u k) i _
theorem plain_bnd (c : R.Cf) : ∀ i, Plain c (bndG c i)
  | 0 => plain_exp c 3
  | i + 1 => plain_binds (plain_bnd c i) i _ 3
theorem import_other {G : R.Wd} {i : Nat} {u : Int} {x : R.Cl} (h : G.clients[0]? = some x) (hi : i ≠ 0) : (importedG G i u).clients[0]? = some x := by
  rw [imported_client, h]
  simp [hi]
theorem binds_other {G : R.Wd} {i : Nat} {u : List Int} {x : R.Cl} (h : G.clients[0]? = some x) (hi : i ≠ 0) : ∀ k, (bindsG G i u k).clients[0]? = some x
  | 0 => h
  | k + 1 => import_other (binds_other h hi k) hi
theorem bnd_first {c : R.Cf} (hc : R.okCf c) : ∀ i, ∃ x, (bndG c (i + 1)).clients[0]? = some x ∧ (1 : Int) ∈ x.bound ∧ (2 : Int) ∈ x.bound ∧ (3 : Int) ∈ x.bound
  | 0 => by
    obtain ⟨x, hx⟩ : ∃ x, (expG c 3).clients[0]? = some x := by
      rw [expG_clients]
      refine ⟨_, List.getElem?_eq_getElem (by unfold R.okCf at hc; simp [newG]; omega)⟩
    refine ⟨{ x with bound := ((x.bound ++ [1]) ++ [2]) ++ [3] }, ?_, by simp, by simp, by simp⟩
    show (importedG (importedG (importedG (expG c 3) 0 1) 0 2) 0 3).clients[0]? = _
    rw [imported_client, imported_client, imported_client, hx]
    rfl
  | i + 1 => by
    obtain ⟨x, h1, h2⟩ := bnd_first hc i
    exact ⟨x, binds_other h1 (by omega) 3, h2⟩

theorem plain_alone {c : R.Cf} (hc : R.okCf c) {G : R.Wd} (h : Plain c G) {x : R.Cl} (hx : G.clients[0]? = some x) : Alone G c x R.ln0 := by
  unfold R.okCf at hc
  obtain ⟨e1, e2⟩ := h.each 0 x hx
  refine ⟨h.cf, by have := (List.getElem?_eq_some_iff.1 hx).1; omega, by omega, hx, by rw [e1, List.getElem?_replicate, if_pos (by omega)], e2, fun i k _ => ?_⟩
  unfold R.lineP
  simp only [Int.toNat_natCast]
  cases hi : G.clients[i]? with
  | none => simp [R.ln0]
  | some y =>
    simp only [Option.bind_some]
    rw [(h.each i y hi).1, List.getElem?_replicate]
    split <;> simp [R.ln0]
/- the call is under way: no tick yet -/
theorem tk_zero {c : R.Cf} {G : R.Wd} {x : R.Cl} {l : R.Ln} (ha : Alone G c x l) (hf : G.flying = []) {k : Nat} {m : List UInt8} : Tk c m (l.seq + 1) ((k : Int) + 1) ⟨-1, sealB ⟨1, 0, 1, 0, l.seq + 1, (k : Int) + 1, 0, R.piecesP m, decide (0 < R.piecesP m - 1), R.pieceP m 0⟩, false⟩ 0 (calledG G l k m) := by
  have hA := ha.set (newLn G l ((k : Int) + 1) (toOf k m) m)
  have hpk : R.callPk (R.setLine G ((0 : Nat) : Int) ((0 : Nat) : Int) (newLn G l ((k : Int) + 1) (toOf k m) m)) 0 0 (newLn G l ((k : Int) + 1) (toOf k m) m) false = ⟨1, 0, 1, 0, l.seq + 1, (k : Int) + 1, 0, R.piecesP m, decide (0 < R.piecesP m - 1), R.pieceP m 0⟩ := by
    unfold R.callPk
    rw [R.lifeP_some hA.gcl]
    simp [newLn, ha.life]
  unfold calledG
  rw [R.sendPieceP_eq hA.at, hpk]
  have hcf := ha.cf
  refine ⟨⟨_, _, hA.send _ _, rfl, rfl, rfl, rfl, rfl, ?_, ?_⟩, ?_⟩
  · simp [newLn, hcf]
  · simp [newLn, hcf]
  · rw [sendP_room (by rw [R.setLine_flying, hf]; simp), R.setLine_flying, hf]
    simp
end Go.Proofs.YtblomippkddgiaaGreatDoor
