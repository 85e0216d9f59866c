import Derived.Test.YtblomippkddgiaaGreatDoorK26
set_option maxRecDepth 100000
set_option maxHeartbeats 2000000
namespace Go.Proofs.YtblomippkddgiaaGreatDoor
open Go.RowKit
theorem Pq(c:R.Cf)(hc:R.BL c)(w:World):Calls Tryz.prog 57 #[Uc c.Ad c.lines c.Be c.tries c.table] w fun e w'=>e=.returned (.bool true)/\Below w.heap.size w w':=by
 obtain⟨a,b,r,t,e⟩:=c;obtain⟨⟨h1,h2⟩,⟨h3,h4⟩,⟨h5,h6⟩,⟨h7,h8⟩,h9,h10⟩:=hc;simp only at h1 h2 h3 h4 h5 h6 h7 h8 h9 h10 ⊢;go_enter Tryz.func57,Tryz.ntmps57;go_wp2_with (first|(go_at_call 104;go_in))
 go_returns;exact⟨rfl,(Below.refl _ _).alloc (Nat.le_refl _) _⟩
def aaS(jc:Nat):Value:=.agg #[.int .i64 0,.int .i64 0,.int .i64 0,.pointer none,.pointer none,.pointer none,.pointer none,.pointer none,.pointer none,.pointer none,.pointer none,.pointer none,.chan (some jc)]
theorem Ze:(Tryz.prog.info? 145).map (fun i=>i.bytes)=some 40:=by kernel_rfl
theorem Ud(n:Nat)(hn:n<=9)(W:World):(Instr.makeChan 163 (.int .i64 (n:Int))).run Tryz.prog W=.ok (.chan (some W.heap.size)) (W.alloc (.chan n #[] false 0 0 false)):=by
 have h:=Ze;cases hi:Tryz.prog.info? 145 with
 |none=>rw[hi]at h;cases h
 |some i=>
  rw[hi]at h;simp only[Option.map_some,Option.some.injEq]at h;exact Go.Conc.run_makeChan Tryz.underlying163 hi .i64 n (by omega) (by rw[h];omega)
theorem Zp(w:World)(n:Nat)(hn:n<=9):Calls Tryz.prog 105 #[.int .i64 (n:Int)] w fun e w'=>e=.returned (aaS (w.heap.size+1))/\Below w.heap.size w w'/\w'.heap.size=w.heap.size+1+1/\w'.heap[w.heap.size+1]?=some (.chan n #[] false 0 0 false):=by
 have hmc:=Ud n hn;unfold aaS;go_enter Tryz.func105,Tryz.ntmps105;go_wp2;go_returns;refine⟨rfl,((Below.refl _ _).alloc (Nat.le_refl _) _).alloc (by simp) _,by simp,?_⟩;exact CH _ _ (by simp)
structure VG(w w':World)(n:Nat)(c:R.Cf)(s nm jc:Nat):Prop where
 below:Below w.heap.size w w'
 s0:w.heap.size<=s
 n0:w.heap.size<=nm
 j0:w.heap.size<=jc
 cell:w'.heap[s]?=some (.cells (Cv n nm (sp0 jc) c [0,0,0] (List.replicate 9 R.De)).toArray 167 (0,0))
 chan:w'.heap[jc]?=some (.chan c.table.toNat #[] false 0 0 false)
 map:Mp w' 9 nm N0 (fun _=>none) 0
abbrev Sc(a b rt tr tb:Int)(nm jc nb:Nat):Array Value:=#[.int .i64 a,.int .i64 b,.int .i64 rt,.int .i64 tr,.int .i64 tb,.map (some nm),.slice none 0 0,.int .i64 0,.int .i64 0,.int .i64 0,.pointer none,.pointer none,.pointer none,.pointer none,.pointer none,.pointer none,.pointer none,.pointer none,.pointer none,.chan (some jc),ptr nb]
theorem Na(a b rt tr tb:Int)(nm jc nb:Nat):(Cv nb nm (sp0 jc) ⟨a,b,rt,tr,tb⟩ [0,0,0] (List.replicate 9 R.De)).toArray=Sc a b rt tr tb nm jc nb:=rfl
theorem acs{w V w1:World}{a b rt tr:Int}{tb nb:Nat}(hV:Below w.heap.size w V)(hb:Below (V.alloc (.map #[] 0)).heap.size (V.alloc (.map #[] 0)) w1)(hs:w1.heap.size=(V.alloc (.map #[] 0)).heap.size+1+1)(hj:w1.heap[(V.alloc (.map #[] 0)).heap.size+1]?=some (.chan tb #[] false 0 0 false)){o:Obj}(ho:o=.cells (Sc a b rt tr tb V.heap.size (V.heap.size+1+1) nb) 167 (0,0)):VG w (w1.alloc o) nb ⟨a,b,rt,tr,tb⟩ w1.heap.size V.heap.size (V.heap.size+1+1):=by
 subst ho;have s0:=hV.size;have e1:(V.alloc (.map #[] 0)).heap.size=V.heap.size+1:=by simp
 have hb':Below w.heap.size w w1:=(hV.alloc s0 _).trans (hb.mono (by omega));refine⟨hb'.alloc (by omega) _,by omega,by omega,by omega,?_,?_,?_⟩
 ·rw[Na];exact CH _ _ rfl
 ·rw[Below.heap_alloc _ _ _ (by omega),<-e1];exact hj
 ·exact((Mp.made V 9 N0).above hb).above ((Below.refl _ _).alloc (Nat.le_refl _) _)
theorem acu{w V w1:World}{a b rt tr:Int}{tb nb:Nat}(hV:Below w.heap.size w V)(hb:Below V.heap.size V w1)(hs:w1.heap.size=V.heap.size+1+1)(hj:w1.heap[V.heap.size+1]?=some (.chan tb #[] false 0 0 false)){o:Obj}(ho:o=.cells (Sc a b rt tr tb w1.heap.size (V.heap.size+1) nb) 167 (0,0)):VG w ((w1.alloc (.map #[] 0)).alloc o) nb ⟨a,b,rt,tr,tb⟩ (w1.heap.size+1) w1.heap.size (V.heap.size+1):=by
 subst ho;have s0:=hV.size;have e1:(w1.alloc (.map #[] 0)).heap.size=w1.heap.size+1:=by simp
 have hb':Below w.heap.size w w1:=hV.trans (hb.mono (by omega));refine⟨(hb'.alloc (by omega) _).alloc (by omega) _,by omega,by omega,by omega,?_,?_,?_⟩
 ·rw[Na];exact CH _ _ e1
 ·rw[Below.heap_alloc _ _ _ (by omega),Below.heap_alloc _ _ _ (by omega)];exact hj
 ·exact(Mp.made w1 9 N0).above ((Below.refl _ _).alloc (Nat.le_refl _) _)
theorem abE:∀args w,(callFunc 105 args).run Tryz.prog w=.ok (.enter 105 args) w:=fun _ _=>rfl
theorem Si(w:World)(nb tb:Nat)(a b rt tr:Int)(ht:tb<=9):Calls Tryz.prog 58 #[Uc a b rt tr (tb:Int),ptr nb] w fun e w'=>∃s nm jc,e=.returned (ptr s)/\VG w w' nb ⟨a,b,rt,tr,tb⟩ s nm jc:=by
 have hmm:=@run_makeMap Tryz.prog;obtain⟨BX,hBX⟩:∃BX,w.alloc (.cells #[.int .i64 a,.int .i64 b,.int .i64 rt,.int .i64 tr,.int .i64 (tb:Int)] 26)=BX:=⟨_,rfl⟩;have HB:Hid (Below w.heap.size w BX):=by
  rw[<-hBX];exact(Below.refl _ _).alloc (Nat.le_refl _) _
 have hbx:BX.heap[w.heap.size]?=some (.cells #[.int .i64 a,.int .i64 b,.int .i64 rt,.int .i64 tr,.int .i64 (tb:Int)] 26 (0,0)):=by
  rw[<-hBX];exact heap_alloc_new w _
 have c0:BX.cell? ⟨w.heap.size,0,none⟩=some (.int .i64 a):=cell_of hbx 0 _ rfl;have c1:BX.cell? ⟨w.heap.size,1,none⟩=some (.int .i64 b):=cell_of hbx 1 _ rfl;have c2:BX.cell? ⟨w.heap.size,2,none⟩=some (.int .i64 rt):=cell_of hbx 2 _ rfl;have c3:BX.cell? ⟨w.heap.size,3,none⟩=some (.int .i64 tr):=cell_of hbx 3 _ rfl;have c4:BX.cell? ⟨w.heap.size,4,none⟩=some (.int .i64 (tb:Int)):=cell_of hbx 4 _ rfl;have m0:=lt_of_block hbx;have HBX:=Ab hBX;have HM:=Ab (fun w=>Zp w tb ht);simp only[aaS]at HM;clear hBX hbx;go_enter Tryz.func58,Tryz.ntmps58;go_wp2_with fail
 rw[Aa HBX];go_region_law (first
  |(refine AR rfl 105 #[.tmp 8] #[3] rfl abE #[.int .i64 (tb:Int)] rfl _ ((Aa HM) _) ?_;rintro e w1 ⟨rfl,hb1,hs1,hj1⟩;have hbA:Below BX.heap.size BX w1:=(by first|exact D6 hb1|exact(((Below.refl BX.heap.size BX).alloc (Nat.le_refl _) _).drew).trans (hb1.mono (by simp)));have g0:w1.cell? ⟨w.heap.size,0,none⟩=some (.int .i64 a):=(hbA.cell (p:=⟨w.heap.size,0,none⟩) m0).trans c0;have g1:w1.cell? ⟨w.heap.size,1,none⟩=some (.int .i64 b):=(hbA.cell (p:=⟨w.heap.size,1,none⟩) m0).trans c1;have g2:w1.cell? ⟨w.heap.size,2,none⟩=some (.int .i64 rt):=(hbA.cell (p:=⟨w.heap.size,2,none⟩) m0).trans c2;have g3:w1.cell? ⟨w.heap.size,3,none⟩=some (.int .i64 tr):=(hbA.cell (p:=⟨w.heap.size,3,none⟩) m0).trans c3;have g4:w1.cell? ⟨w.heap.size,4,none⟩=some (.int .i64 (tb:Int)):=(hbA.cell (p:=⟨w.heap.size,4,none⟩) m0).trans c4;have l1:w.heap.size<w1.heap.size:=Nat.lt_of_lt_of_le m0 hbA.size;have HS1:=Ab hs1;have HB1:=Ab hb1;have HJ1:=Ab hj1;clear hbA hb1 hs1 hj1;refine⟨_,rfl,?_⟩))
 all_goals
  go_wp2;go_returns;first
   |exact⟨_,_,_,rfl,acs (V:=BX) (Aa HB) (D6 (Aa HB1)) (Aa HS1) (Aa HJ1) rfl⟩
   |exact⟨_,_,_,rfl,acu (V:=BX) (Aa HB) (D6 (Aa HB1)) (Aa HS1) (Aa HJ1) rfl⟩
theorem acD:∀args w,(callFunc 59 args).run Tryz.prog w=.ok (.enter 59 args) w:=fun _ _=>rfl
theorem Zy(w:World)(cb:Nat)(j:Nat)(u:Value)(h:([ptr cb]:List Value)[j]?=some u):(w.alloc (.cells #[ptr cb] 89)).cell? ((⟨w.heap.size,0,none⟩:Addr).add j)=some u:=by
 rw[Addr.add_lit,Nat.zero_add,World.cell?_alloc_new w _ _ j,<-List.getElem?_toArray]at *;exact h
theorem QH.D6{w w':World}{k n nb:Nat}{Ag rt tr:Int}{cb lb bm:Nat}(h:QH w.drew w' k Ag n nb rt tr cb lb bm):QH w w' k Ag n nb rt tr cb lb bm:=⟨YtblomippkddgiaaGreatDoor.D6 h.below,h.c0,h.l0,h.b0,h.cell,h.lines,h.map⟩
theorem Xl{w w1 w2:World}{c:R.Cf}{A s nm jc:Nat}(hb:Below w.heap.size w w1)(hA:w.heap.size<=A)(hcA:w1.heap[A]?=some (.cells #[.int .i64 c.Ad,.int .i64 c.lines,.int .i64 c.Be,.int .i64 c.tries,.int .i64 c.table] 26 (0,0)))(hs:VG (w1.alloc (.cells #[.slice none 0 0] 113)) w2 w1.heap.size c s nm jc):
  NI w c A w1.heap.size s w2.heap.size nm jc 0 id id id (.slice none 0 0) (w2.alloc (.cells #[ptr w1.heap.size,ptr s,.slice none 0 0] 84)):=by
 have s0:=hb.size;have hl:=lt_of_block hcA;have e1:(w1.alloc (.cells #[.slice none 0 0] 113)).heap.size=w1.heap.size+1:=by simp
 have hb1:Below w.heap.size w (w1.alloc (.cells #[.slice none 0 0] 113)):=hb.alloc s0 _;have sb:=hs.below.size;have hb2:Below w.heap.size w w2:=hb1.trans (hs.below.mono (by omega));have up:∀{b:Nat} {o:Obj},w2.heap[b]?=some o->(w2.alloc (.cells #[ptr w1.heap.size,ptr s,.slice none 0 0] 84)).heap[b]?=some o:=fun hb=>by
  rw[Below.heap_alloc _ _ _ (Array.getElem?_eq_some_iff.1 hb).1];exact hb
 have q1:=hs.s0;have q2:=hs.n0;have q3:=hs.j0;refine⟨hb2.alloc (by omega) _,up ?_,CH _ _ rfl,World.ownsRow_nil _ _ _ _,up ?_,up hs.cell,up hs.chan,?_,⟨hA,by omega,by omega,by omega,by omega,by omega⟩,(fun j hj=>by cases hj),(fun i hi=>by omega),(fun i j hi=>by omega)⟩
 ·rw[hs.below.block A (by omega),Below.heap_alloc _ _ _ hl];exact hcA
 ·rw[hs.below.block _ (by omega)];exact CH _ _ rfl
 ·exact hs.map.above ((Below.refl _ _).alloc (Nat.le_refl _) _)
theorem Xj(w:World)(c:R.Cf)(hc:R.BL c):
  Calls Tryz.prog 27 #[Uc c.Ad c.lines c.Be c.tries c.table] w fun e w'=>∃A n s x nm jc cb lb bm K,e=.returned (.tuple #[ptr x,.int .i64 0])/\NI w c A n s x nm jc c.Ad.toNat cb lb bm K w':=by
 have HR:=Ab (Pq c hc);obtain⟨a,b,r,t,tb⟩:=c;obtain⟨⟨h1,h2⟩,⟨h3,h4⟩,⟨h5,h6⟩,⟨h7,h8⟩,h9,h10⟩:=hc;simp only at h1 h2 h3 h4 h5 h6 h7 h8 h9 h10 HR ⊢;have hmm:=@run_makeMap Tryz.prog;obtain⟨N,hN⟩:∃N:Nat,a=(N:Int):=⟨a.toNat,by omega⟩;obtain⟨L,hL⟩:∃L:Nat,b=(L:Int):=⟨b.toNat,by omega⟩;obtain⟨T,hT⟩:∃T:Nat,tb=(T:Int):=⟨tb.toNat,by omega⟩;subst hN hL hT;obtain⟨BX,hBX⟩:∃BX,w.alloc (.cells #[.int .i64 (N:Int),.int .i64 (L:Int),.int .i64 r,.int .i64 t,.int .i64 (T:Int)] 26)=BX:=⟨_,rfl⟩;have HB:Hid (Below w.heap.size w BX):=by
  rw[<-hBX];exact(Below.refl _ _).alloc (Nat.le_refl _) _
 have hbx:BX.heap[w.heap.size]?=some (.cells #[.int .i64 (N:Int),.int .i64 (L:Int),.int .i64 r,.int .i64 t,.int .i64 (T:Int)] 26 (0,0)):=by
  rw[<-hBX];exact heap_alloc_new w _
 have c0:BX.cell? ⟨w.heap.size,0,none⟩=some (.int .i64 (N:Int)):=cell_of hbx 0 _ rfl;have c1:BX.cell? ⟨w.heap.size,1,none⟩=some (.int .i64 (L:Int)):=cell_of hbx 1 _ rfl;have c2:BX.cell? ⟨w.heap.size,2,none⟩=some (.int .i64 r):=cell_of hbx 2 _ rfl;have c3:BX.cell? ⟨w.heap.size,3,none⟩=some (.int .i64 t):=cell_of hbx 3 _ rfl;have c4:BX.cell? ⟨w.heap.size,4,none⟩=some (.int .i64 (T:Int)):=cell_of hbx 4 _ rfl;have hlx:=lt_of_block hbx;have HBX:=Ab hBX;have HCB:=Ab hbx;have HCN:=Ab (fun w k nb=>Q0 w k L nb (N:Int) r t (T:Int) (by omega));obtain⟨i0,hi,hz0,hz1,hz2⟩:=info_parts aaN;clear hBX hbx;go_enter Tryz.func27,Tryz.ntmps27;go_wp2_with fail
 rw[Aa HBX];refine((Aa HR) _).mono ?_;rintro e w1 ⟨rfl,hb1⟩;have HNS:=Ab (fun (w2:World) (s nm jc:Nat) (hs:VG (w1.alloc (.cells #[.slice none 0 0] 113)) w2 w1.heap.size ⟨(N:Int),(L:Int),r,t,(T:Int)⟩ s nm jc)=>Xl (w:=w) (A:=w.heap.size) (c:=⟨(N:Int),(L:Int),r,t,(T:Int)⟩) ((Aa HB).trans (hb1.mono (Aa HB).size)) (Nat.le_refl _) ((hb1.block _ hlx).trans (Aa HCB)) hs);have hl1:w.heap.size<w1.heap.size:=Nat.lt_of_lt_of_le hlx hb1.size;have d0:w1.cell? ⟨w.heap.size,0,none⟩=some (.int .i64 (N:Int)):=(hb1.cell (p:=⟨w.heap.size,0,none⟩) hlx).trans c0;have d1:w1.cell? ⟨w.heap.size,1,none⟩=some (.int .i64 (L:Int)):=(hb1.cell (p:=⟨w.heap.size,1,none⟩) hlx).trans c1;have d2:w1.cell? ⟨w.heap.size,2,none⟩=some (.int .i64 r):=(hb1.cell (p:=⟨w.heap.size,2,none⟩) hlx).trans c2;have d3:w1.cell? ⟨w.heap.size,3,none⟩=some (.int .i64 t):=(hb1.cell (p:=⟨w.heap.size,3,none⟩) hlx).trans c3;have d4:w1.cell? ⟨w.heap.size,4,none⟩=some (.int .i64 (T:Int)):=(hb1.cell (p:=⟨w.heap.size,4,none⟩) hlx).trans c4;have HSN:=Ab (fun w nb=>Si w nb T (N:Int) (L:Int) r t (by omega));clear hb1 c0 c1 c2 c3 c4;go_wp2_with fail
 refine((Aa HSN) _ _).mono ?_;rintro e w2 ⟨s,nm,jc,rfl,hs⟩;have HNI:=Ab ((Aa HNS) w2 s nm jc hs);have f0:(w2.alloc (.cells #[ptr w1.heap.size,ptr s,.slice none 0 0] 84)).cell? ⟨w.heap.size,0,none⟩=some (.int .i64 (N:Int)):=cell_of (Aa HNI).cA 0 _ rfl;clear hs HNS d0 d1 d2 d3 d4;go_wp2;go_loopw [20] (fun iv wr=>∃(k:Nat) (cb lb bm:Nat->Nat) (K:Value),k<=N/\iv=.int .i64 k/\NI w ⟨(N:Int),(L:Int),r,t,(T:Int)⟩ w.heap.size w1.heap.size s w2.heap.size nm jc k cb lb bm K wr) (fun iv _=>N-(intOf iv).toNat)
 case atStart=>exact⟨0,id,id,id,_,Nat.zero_le _,rfl,Aa HNI⟩
 case round=>
  obtain⟨k,cb,lb,bm,K,hk,rfl,hni⟩:=hrel;by_cases hlt:k<N
  ·have hn1:=hni.cx;have a2:wr.cell? ⟨w2.heap.size,2,none⟩=some K:=cell_of hn1 2 _ rfl;have a0:wr.cell? ⟨w2.heap.size,0,none⟩=some (ptr w1.heap.size):=cell_of hn1 0 _ rfl;have f2:wr.frozen? ⟨w2.heap.size,2,none⟩=false:=open_list hn1;have b0:wr.cell? ⟨w.heap.size,0,none⟩=some (.int .i64 (N:Int)):=cell_of hni.cA 0 _ rfl;have b1:wr.cell? ⟨w.heap.size,1,none⟩=some (.int .i64 (L:Int)):=cell_of hni.cA 1 _ rfl;have b2:wr.cell? ⟨w.heap.size,2,none⟩=some (.int .i64 r):=cell_of hni.cA 2 _ rfl;have b3:wr.cell? ⟨w.heap.size,3,none⟩=some (.int .i64 t):=cell_of hni.cA 3 _ rfl;have b4:wr.cell? ⟨w.heap.size,4,none⟩=some (.int .i64 (T:Int)):=cell_of hni.cA 4 _ rfl;have hlr:=lt_of_block hn1;have HNR:=Ab hni;obtain⟨ka,kc,hKs⟩:=Bg hni.row;subst hKs;have hKx:=A6 hni.row hni.cx (by decide);have HKX:=Ab hKx;clear hni hn1 hKx;go_wp2;go_region_law (first
    |(refine AR rfl 59 #[.tmp 28,.tmp 29,.tmp 30] #[3,26,80] rfl acD #[.int .i64 (k:Int),Uc (N:Int) (L:Int) r t (T:Int),ptr w1.heap.size] rfl _ ((Aa HCN) _ k w1.heap.size) ?_;rintro e w3 ⟨cb',lb',bm',rfl,hnew⟩;have hb2:=D6 hnew.below;have s2:=hb2.size;have e2:w3.cell? ⟨w2.heap.size,2,none⟩=some (.slice ka k kc):=(hb2.cell (p:=⟨w2.heap.size,2,none⟩) hlr).trans a2;have e2z:w3.frozen? ⟨w2.heap.size,2,none⟩=false:=(hb2.frozen (p:=⟨w2.heap.size,2,none⟩) hlr).trans f2;have HW3:=Ab hnew;have HB3:=Ab hb2;have hlw:w2.heap.size<w3.heap.size:=Nat.lt_of_lt_of_le hlr s2;clear hb2 hnew;refine⟨_,rfl,?_⟩)
    |(refine Bs rfl (.tmp 27) (.tmp 32) 82 rfl 0 89 i0 (.pointer none) 1 8 Tryz.underlying82 hi hz0 hz1 hz2 rfl (by decide) (.slice ka k kc) k (Z7 cb k) rfl (by exact(Bu (Aa HNR).row (Aa HB3)).alloc _) ⟨w3.heap.size,0,none⟩ 1 1 [ptr cb'] rfl rfl (by exact Zy w3 cb') (by simp[Value.oneCell']) (by unfold maxLen;omega) (by omega) (by omega) ?_;intro v' wz hownz hgrow hat;obtain⟨va,vn,vc,hvs⟩:=Ar hownz;subst hvs;have hgn:wz.heap[w2.heap.size]?=w3.heap[w2.heap.size]?:=(hgrow.block _ (by simp;omega) (fun e=>(Aa HKX) e.symm)).trans (Below.heap_alloc _ _ _ hlw);have gz:wz.frozen? ⟨w2.heap.size,2,none⟩=false:=(World.frozen?_of_block hgn).trans e2z;have gn:wz.cell? ⟨w2.heap.size,2,none⟩=some (.slice ka k kc):=(World.cell?_of_block hgn).trans e2;have HOZ:=Ab hownz;have HGZ:=Ab hgrow;have HAT:=Ab hat;clear hownz hgrow hat hgn))
   all_goals
    have HM:=Ab ((Aa HNR).more (Aa HW3).D6 (Aa HOZ) (Aa HGZ) (by have:=Aa HAT;simpa using this));clear HOZ HGZ HAT HW3 HNR;go_wp2;go_roundw
    case rel=>exact⟨k+1,_,_,_,_,by omega,by go_num,Aa HM⟩
    case measure=>simp[intOf];omega
  ·obtain rfl:k=N:=by omega
   go_wp2;go_returns;exact⟨_,_,_,_,_,_,cb,lb,bm,K,rfl,hni⟩
def newG(c:R.Cf):R.Wd:=⟨c,[],[],[],[],List.replicate c.Ad.toNat (R.MN 1 c.lines),[0,0,0],List.replicate 9 R.De,[]⟩
theorem EC{c:R.Cf}{i:Nat}{x:R.Cl}(h:(newG c).Ad[i]?=some x):i<c.Ad.toNat/\x=R.MN 1 c.lines:=by
 simp only[newG,List.getElem?_replicate]at h;split at h
 ·rename_i hi;cases h;exact⟨hi,rfl⟩
 ·cases h
theorem Zq{c:R.Cf}(hc:R.BL c):R.Wf (newG c):=by
 have hc':=hc;unfold R.BL at hc';refine⟨hc,by simp[newG];omega,fun i x hx=>?_,by simp[newG],fun f hf=>by simp[newG]at hf,by simp[newG],fun s hs=>by simp[newG]at hs,by simp[newG],by simp[newG],by simp[newG],fun u hu=>by simp[newG]at hu⟩;obtain⟨_,rfl⟩:=EC hx;refine⟨by simp[R.MN,newG];omega,by simp[R.MN],fun u hu=>by simp[R.MN]at hu,fun k l hl=>?_⟩;simp only[R.MN,List.getElem?_replicate]at hl;split at hl
 ·cases hl;exact⟨by simp[R.Ou],fun q=>by simp[R.Ou]at q⟩
 ·cases hl
theorem Tx{i:Nat}{r:R.Sn}(h:(List.replicate 9 R.De)[i]?=some r):r.seq=0:=by
 rw[List.getElem?_replicate]at h;split at h
 ·cases h;rfl
 ·cases h
theorem Zr{c:R.Cf}(hc:R.BL c):R.KQ (newG c).c (newG c).Ai (newG c).seen (newG c).jobs:=R.ws0 c hc
theorem LW.made{w:World}{c:R.Cf}(hc:R.BL c){A n s x nm jc:Nat}{cb lb bm:Nat->Nat}{K:Value}{w':World}(h:NI w c A n s x nm jc c.Ad.toNat cb lb bm K w'):
  ∃p F,p.x=x/\LW p F (newG c) w'/\∀k,F k->w.heap.size<=k:=by
 have hc':=hc;unfold R.BL at hc';rcases h.row.2 with ⟨_,h0⟩|⟨g,cap,cur,rfl,_,hg,hcap,_,hcs,htk⟩
 ·omega
 ·have hlen:(newG c).Ad.length=c.Ad.toNat:=by simp[newG]
  have lo:=h.lo;refine⟨⟨x,n,s,g,cap,nm,cb,lb,bm,sp0 jc⟩,fun k=>w.heap.size<=k/\k<w'.heap.size,rfl,⟨Zq hc,Zr hc,?_,?_,?_,?_,?_,fun i y hy=>?_,fun i y hy=>?_,fun i y hy=>?_,?_,fun i hi=>?_,fun i j hi hj hij=>?_,fun k hk=>hk.2⟩,fun k hk=>hk.1⟩
  ·rw[hlen];exact h.cx
  ·refine⟨cur,hg,fun i hi=>?_⟩;rw[hlen]at hi;have e1:cur.toList[i]?=(Z7 cb c.Ad.toNat)[i]?:=by
    rw[<-htk,List.getElem?_take,if_pos (by omega)]
   simp only[Array.getElem?_toList]at e1;rw[e1];simp[Z7,hi]
  ·exact⟨_,h.cn,World.ownsRow_nil _ _ _ _,fun j hj=>by cases hj⟩
  ·refine⟨h.cs,rfl,World.ownsRow_nil _ _ _ _,fun z hz=>by simp[sp0]at hz,fun i j z y hz=>by simp[sp0]at hz,fun i j z y hz=>by simp[sp0]at hz,fun i r hr hne=>?_,fun i j r r' hr hr' hne=>?_,⟨0,0,h.cj⟩,⟨lo.2.2.1,lt_of_block h.cs⟩,⟨lo.2.2.2.2.2,(Array.getElem?_eq_some_iff.1 h.cj).1⟩,fun j hj=>by cases hj⟩
   ·exact absurd (Tx hr) hne
   ·exact absurd (Tx hr) hne
  ·exact h.names.congr (fun a=>by simp[Bc,R.Dg,newG])
  ·obtain⟨hi,rfl⟩:=EC hy;have:=(h.each i hi).2.1;simpa [V1,R.MN,newG] using this
  ·obtain⟨hi,rfl⟩:=EC hy;refine⟨_,(h.each i hi).2.2.1,⟨by simp[R.MN],fun k l z hl hz=>?_⟩,fun k l z hl hz=>?_⟩;simp only[R.MN,List.getElem?_replicate]at hl hz;by_cases hk:k<c.lines.toNat
   ·rw[if_pos hk]at hl hz;cases hl;cases hz;exact⟨rfl,rfl,fun _=>rfl,fun q=>by simp[R.Ou]at q,fun q=>by simp[R.Ou]at q⟩
   ·rw[if_neg hk]at hl;cases hl
   simp only[R.MN,List.getElem?_replicate]at hl hz;by_cases hk:k<c.lines.toNat
   ·rw[if_pos hk]at hl hz;cases hl;cases hz;exact BD.nil _ _
   ·rw[if_neg hk]at hl;cases hl
  ·obtain⟨hi,rfl⟩:=EC hy;have:=(h.each i hi).2.2.2.1;exact this.congr (fun a=>by simp[BR,R.MN])
  ·exact⟨⟨lo.2.2.2.1,lt_of_block h.cx⟩,⟨lo.2.1,lt_of_block h.cn⟩,⟨h.kb g rfl,lt_of_block hg⟩,⟨lo.2.2.2.2.1,h.names.lt⟩⟩
  ·rw[hlen]at hi;obtain⟨⟨a1,a2,a3⟩,b1,b2,b3,b4⟩:=h.each i hi;exact⟨⟨a1,lt_of_block b1⟩,⟨a2,lt_of_block b2⟩,⟨a3,b3.lt⟩,b4⟩
  ·rw[hlen]at hi hj;exact h.inj i j hi hj hij
theorem Zs(w:World)(c:R.Cf)(hc:R.BL c):
  Calls Tryz.prog 27 #[Uc c.Ad c.lines c.Be c.tries c.table] w fun e w'=>∃p F,e=.returned (.tuple #[ptr p.x,.int .i64 0])/\LW p F (newG c) w'/\(∀k,F k->w.heap.size<=k)/\Below w.heap.size w w':=by
 refine(Xj w c hc).mono ?_;rintro e w' ⟨A,n,s,x,nm,jc,cb,lb,bm,K,rfl,h⟩;obtain⟨p,F,rfl,h1,h2⟩:=LW.made hc h;exact⟨p,F,rfl,h1,h2,h.below⟩
def In64(c:Int):Prop:=-9223372036854775808<=c/\c<=9223372036854775807
theorem BU(c:Int)(n:Nat)(hc:In64 c)(hn:0<n)(hn2:n<=65536):∃k:Nat,k<n/\∀w,Calls Tryz.prog 11 #[.int .i64 c,.int .i64 n] w fun e w'=>e=.returned (.int .i64 k)/\w'=w:=by
 obtain⟨h1,h2⟩:=hc;have hn0:¬(n:Int)=0:=by omega
 by_cases hlt:c<0
 ·have h3:=Int.emod_nonneg (-(c+1)) hn0;have h4:=Int.emod_lt_of_pos (-(c+1)) (show (0:Int)<n by omega);refine⟨((-(c+1)) % n).toNat,by omega,fun w=>?_⟩;have e:(-(c+1)).tmod n=(((-(c+1)) % n).toNat:Int):=by rw[Int.tmod_eq_emod_of_nonneg (by omega)];omega
  rw[Int.neg_tmod]at e;have HE:=Ab e;clear e h3 h4;go_enter Tryz.func11,Tryz.ntmps11;go_wp2
  go_ret
  rw[Aa HE];exact⟨rfl,rfl⟩
 ·have h3:=Int.emod_nonneg c hn0;have h4:=Int.emod_lt_of_pos c (show (0:Int)<n by omega);obtain⟨k,hk⟩:∃k:Nat,c % n=(k:Int):=⟨(c % n).toNat,by omega⟩;refine⟨k,by omega,fun w=>?_⟩;have HE:=Ab hk;clear hk h3 h4;go_enter Tryz.func11,Tryz.ntmps11;go_wp2
  go_ret
  rw[Aa HE];exact⟨rfl,rfl⟩
def Ch(k:Nat):List UInt8:=if k=0 then [115,117,109] else if k=1 then [119,97,108,108] else [100,114,97,119,101,114,115]
theorem PN(k:Nat)(hk:k<3)(w:World):Calls Tryz.prog 61 #[.int .i64 (k:Int)] w fun e w'=>e=.returned (.string (str (Ch k)))/\w'=w:=by
 have h3:k=0\/k=1\/k=2:=by omega
 rcases h3 with rfl|rfl|rfl
 ·go_enter Tryz.func61,Tryz.ntmps61;go_wp2;go_returns;exact⟨rfl,rfl⟩
 ·go_enter Tryz.func61,Tryz.ntmps61;go_wp2;go_returns;exact⟨rfl,rfl⟩
 ·go_enter Tryz.func61,Tryz.ntmps61;go_wp2;go_returns;exact⟨rfl,rfl⟩
theorem Lr(k:Nat):R.E5 (Ch k)=true:=by
 unfold Ch;split
 ·decide
 ·split<;>decide
theorem W9(k:Nat):(Ch k).length<=8:=by
 unfold Ch;split
 ·simp
 ·split<;>simp
theorem W7{i j:Nat}(hi:i<3)(hj:j<3)(h:Ch i=Ch j):i=j:=by
 have h3:i=0\/i=1\/i=2:=by omega
 have h4:j=0\/j=1\/j=2:=by omega
 rcases h3 with rfl|rfl|rfl<;>rcases h4 with rfl|rfl|rfl<;>first|rfl|(simp[Ch]at h)
theorem R6(a b r t tb:Int)(ha:In64 a)(hb:In64 b)(hr:In64 r)(ht:In64 t)(htb:In64 tb)(w:World):
  Calls Tryz.prog 9 #[Uc a b r t tb] w fun e w'=>(∃c:R.Cf,R.BL c/\e=.returned (Uc c.Ad c.lines c.Be c.tries c.table))/\Below w.heap.size w w':=by
 obtain⟨a1,a2⟩:=ha;obtain⟨b1,b2⟩:=hb;obtain⟨r1,r2⟩:=hr;obtain⟨t1,t2⟩:=ht;obtain⟨q1,q2⟩:=htb;obtain⟨BX,hBX⟩:∃BX,(w.alloc (.cells #[.int .i64 a,.int .i64 b,.int .i64 r,.int .i64 t,.int .i64 tb] 26)).alloc (.cells #[.int .i64 0,.int .i64 0,.int .i64 0,.int .i64 0,.int .i64 0] 26)=BX:=⟨_,rfl⟩;have HB:Hid (Below w.heap.size w BX):=by
  rw[<-hBX];exact((Below.refl _ _).alloc (Nat.le_refl _) _).alloc (by simp) _
 have hbx:BX.heap[w.heap.size]?=some (.cells #[.int .i64 a,.int .i64 b,.int .i64 r,.int .i64 t,.int .i64 tb] 26 (0,0)):=by
  rw[<-hBX];exact(Below.heap_alloc _ _ _ (by simp)).trans (heap_alloc_new w _)
 have hby:BX.heap[w.heap.size+1]?=some (.cells #[.int .i64 0,.int .i64 0,.int .i64 0,.int .i64 0,.int .i64 0] 26 (0,0)):=by
  rw[<-hBX];exact CH _ _ (by simp)
 have c0:BX.cell? ⟨w.heap.size,0,none⟩=some (.int .i64 a):=cell_of hbx 0 _ rfl;have c1:BX.cell? ⟨w.heap.size,1,none⟩=some (.int .i64 b):=cell_of hbx 1 _ rfl;have c2:BX.cell? ⟨w.heap.size,2,none⟩=some (.int .i64 r):=cell_of hbx 2 _ rfl;have c3:BX.cell? ⟨w.heap.size,3,none⟩=some (.int .i64 t):=cell_of hbx 3 _ rfl;have c4:BX.cell? ⟨w.heap.size,4,none⟩=some (.int .i64 tb):=cell_of hbx 4 _ rfl;have d0:BX.cell? ⟨w.heap.size+1,0,none⟩=some (.int .i64 0):=cell_of hby 0 _ rfl;have d1:BX.cell? ⟨w.heap.size+1,1,none⟩=some (.int .i64 0):=cell_of hby 1 _ rfl;have d2:BX.cell? ⟨w.heap.size+1,2,none⟩=some (.int .i64 0):=cell_of hby 2 _ rfl;have d3:BX.cell? ⟨w.heap.size+1,3,none⟩=some (.int .i64 0):=cell_of hby 3 _ rfl;have d4:BX.cell? ⟨w.heap.size+1,4,none⟩=some (.int .i64 0):=cell_of hby 4 _ rfl;have z0:BX.frozen? ⟨w.heap.size+1,0,none⟩=false:=open_list hby;have z1:BX.frozen? ⟨w.heap.size+1,1,none⟩=false:=open_list hby;have z2:BX.frozen? ⟨w.heap.size+1,2,none⟩=false:=open_list hby;have z3:BX.frozen? ⟨w.heap.size+1,3,none⟩=false:=open_list hby;have z4:BX.frozen? ⟨w.heap.size+1,4,none⟩=false:=open_list hby;have m0:=lt_of_block hbx;have m1:=lt_of_block hby;have HBX:=Ab hBX;obtain⟨k0,hk0,P0⟩:=BU (IntKind.i64.wrap (a-1)) 3 (by unfold In64;rw[IntKind.wrap_i64];omega) (by omega) (by omega);obtain⟨k1,hk1,P1⟩:=BU (IntKind.i64.wrap (b-1)) 3 (by unfold In64;rw[IntKind.wrap_i64];omega) (by omega) (by omega);obtain⟨k2,hk2,P2⟩:=BU (IntKind.i64.wrap (r-1)) 8 (by unfold In64;rw[IntKind.wrap_i64];omega) (by omega) (by omega);obtain⟨k3,hk3,P3⟩:=BU (IntKind.i64.wrap (t-1)) 6 (by unfold In64;rw[IntKind.wrap_i64];omega) (by omega) (by omega);obtain⟨k4,hk4,P4⟩:=BU (IntKind.i64.wrap (tb-1)) 9 (by unfold In64;rw[IntKind.wrap_i64];omega) (by omega) (by omega);have P0':=Ab P0;have P1':=Ab P1;have P2':=Ab P2;have P3':=Ab P3;have P4':=Ab P4;have g0:IntKind.i64.wrap (1+(k0:Int))=1+(k0:Int):=by rw[IntKind.wrap_i64];omega
 have g1:IntKind.i64.wrap (1+(k1:Int))=1+(k1:Int):=by rw[IntKind.wrap_i64];omega
 have g2:IntKind.i64.wrap (1+(k2:Int))=1+(k2:Int):=by rw[IntKind.wrap_i64];omega
 have g3:IntKind.i64.wrap (1+(k3:Int))=1+(k3:Int):=by rw[IntKind.wrap_i64];omega
 have g4:IntKind.i64.wrap (1+(k4:Int))=1+(k4:Int):=by rw[IntKind.wrap_i64];omega
 obtain⟨A,hA⟩:∃A,A=IntKind.i64.wrap (a-1):=⟨_,rfl⟩;obtain⟨B,hB⟩:∃B,B=IntKind.i64.wrap (b-1):=⟨_,rfl⟩;obtain⟨C,hC⟩:∃C,C=IntKind.i64.wrap (r-1):=⟨_,rfl⟩;obtain⟨D,hD⟩:∃D,D=IntKind.i64.wrap (t-1):=⟨_,rfl⟩;obtain⟨E,hE⟩:∃E,E=IntKind.i64.wrap (tb-1):=⟨_,rfl⟩;rw[<-hA]at P0';rw[<-hB]at P1';rw[<-hC]at P2';rw[<-hD]at P3';rw[<-hE]at P4';have hA':=hA.symm;have hB':=hB.symm;have hC':=hC.symm;have hD':=hD.symm;have hE':=hE.symm;clear P0 P1 P2 P3 P4 hA hB hC hD hE hbx hby hBX a1 a2 b1 b2 r1 r2 t1 t2 q1 q2;go_enter Tryz.func9,Tryz.ntmps9;go_wp2_with fail
 rw[Aa HBX];go_region_held3 (fun w'=>w'.cell? ⟨w.heap.size,0,none⟩=some (.int .i64 a)/\w'.cell? ⟨w.heap.size,1,none⟩=some (.int .i64 b)/\w'.cell? ⟨w.heap.size,2,none⟩=some (.int .i64 r)/\w'.cell? ⟨w.heap.size,3,none⟩=some (.int .i64 t)/\w'.cell? ⟨w.heap.size,4,none⟩=some (.int .i64 tb)) (go_keep)
  (first
   |(go_at_call 11;refine((Aa P0') _).mono ?_;clear P0';rintro e w1 ⟨rfl,hw1⟩;rw[hw1];clear hw1)
   |(go_at_call 11;refine((Aa P1') _).mono ?_;clear P1';rintro e w1 ⟨rfl,hw1⟩;rw[hw1];clear hw1)
   |(go_at_call 11;refine((Aa P2') _).mono ?_;clear P2';rintro e w1 ⟨rfl,hw1⟩;rw[hw1];clear hw1)
   |(go_at_call 11;refine((Aa P3') _).mono ?_;clear P3';rintro e w1 ⟨rfl,hw1⟩;rw[hw1];clear hw1)
   |(go_at_call 11;refine((Aa P4') _).mono ?_;clear P4';rintro e w1 ⟨rfl,hw1⟩;rw[hw1];clear hw1))
 have HW:Hid (∀v0 v1 v2 v3 v4,Below w.heap.size w (((((BX.setCell ⟨w.heap.size+1,0,none⟩ v0).setCell ⟨w.heap.size+1,1,none⟩ v1).setCell ⟨w.heap.size+1,2,none⟩ v2).setCell ⟨w.heap.size+1,3,none⟩ v3).setCell ⟨w.heap.size+1,4,none⟩ v4).drew):=fun v0 v1 v2 v3 v4=>(((((((Aa HB).setCell (by simp) _).setCell (by simp) _).setCell (by simp) _).setCell (by simp) _).setCell (by simp) _)).drew
 go_wp2;exact bodyPost_ret (v:=Uc (1+(k0:Int)) (1+(k1:Int)) (1+(k2:Int)) (1+(k3:Int)) (1+(k4:Int))) (by simp[results,Tryz.results9,go_sem,d0,d1,d2,d3,d4]) rfl ⟨⟨⟨1+(k0:Int),1+(k1:Int),1+(k2:Int),1+(k3:Int),1+(k4:Int)⟩,by unfold R.BL;simp only;omega,rfl⟩,(Aa HW) _ _ _ _ _⟩
end Go.Proofs.YtblomippkddgiaaGreatDoor
