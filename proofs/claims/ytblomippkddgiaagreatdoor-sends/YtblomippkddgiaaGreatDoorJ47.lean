import Derived.Test.YtblomippkddgiaaGreatDoorJ46
set_option maxRecDepth 100000
set_option maxHeartbeats 2000000
namespace Go.Proofs.YtblomippkddgiaaGreatDoor
open Go.RowKit
theorem Fw(w:World)(t:Tw)(o:EM){W1:World}(hW1:(w.alloc (.cells #[ptr t.p.x,Av t.x] 109)).alloc (.cells o.cells 72)=W1):Below w.heap.size w W1:=by
 rw[<-hW1];exact(Fz w t o).1
theorem M5{w0:World}{z:Nat->Option Obj}{b N:Nat}{Ts:List Tw}{L:List V.Kp}{lv K:Value}{w:World}(h:Hn w0 z b N Ts L lv K w){i:Nat}{t:Tw}(hi:Ts[i]?=some t)(o:EM){v:List V.It}(hok:XZ o v (HF b Ts L lv K) w)(hk:8<=o.kind/\o.kind<=18)(ht:Fu w0)(hN:N<=9000000000000)(hL:L.length<=1000000000000):
  Calls Tryz.prog 54 #[ptr b,t.val,o.val] w fun e w'=>e=.returned (.bool true)/\Zh w0 z b (N+1) Ts i L lv (DI t.G o v) w':=by
 have hm:=List.mem_of_getElem? hi;have hT:=h.tw t hm;have htw:Fu w:=ht.below h.Ix;have fin:∀{G':R.Wd} {N':Nat} {W1 w':World},Below w.heap.size w W1->Ec N' t G' W1 w'->N<=N'->N'<=N+1->Zh w0 z b (N+1) Ts i L lv G' w':=fun hb hS h1 h2=>(h.below hb).twS hi (hS.more h2) (by omega)
 have hkk:o.kind=8\/o.kind=9\/o.kind=10\/o.kind=11\/o.kind=12\/o.kind=13\/o.kind=14\/o.kind=15\/o.kind=16\/o.kind=17\/o.kind=18:=by omega
 rcases hkk with e|e|e|e|e|e|e|e|e|e|e
 ·refine ES w b t o (Or.inl e) _ (fun W1 hW1=>?_);refine(K5 (hT.below (Fw w t o hW1)) o e hok.s hN).mono ?_;rintro e' w' ⟨rfl,hS⟩;exact⟨rfl,by unfold DI;rw[if_pos e];exact fin (Fw w t o hW1) hS (by omega) (by omega)⟩
 ·refine ES w b t o (Or.inr (Or.inl e)) _ (fun W1 hW1=>?_);refine(Ji (hT.below (Fw w t o hW1)) o e hok.s hN).mono ?_;rintro e' w' ⟨rfl,hS⟩;exact⟨rfl,by simp only[DI,e];exact fin (Fw w t o hW1) hS (by omega) (by omega)⟩
 ·refine ES w b t o (Or.inr (Or.inr e)) _ (fun W1 hW1=>?_);refine(K6 (hT.below (Fw w t o hW1)) o e hok.s hN).mono ?_;rintro e' w' ⟨rfl,hS⟩;exact⟨rfl,by simp only[DI,e];exact fin (Fw w t o hW1) hS (by omega) (by omega)⟩
 ·refine FM w b t o (Or.inl e) _ (fun W1 hW1=>?_);have hb:=Fw w t o hW1;refine(LG (hT.below hb) (ptr b) o e (hok.items.below hb) (fun hv b' off n c q f=>hok.off hv b' off n c q (Or.inr (Or.inr ⟨t,hm,f⟩))) hok.len (htw.below hb) hN hok.c).mono ?_;rintro e' w' ⟨rfl,hS⟩;exact⟨rfl,by simp only[DI,e];exact fin hb hS (by omega) (by omega)⟩
 ·refine FM w b t o (Or.inr e) _ (fun W1 hW1=>?_);have hb:=Fw w t o hW1;refine(JP (h.below hb) hi o e hL).mono ?_;rintro e' w' ⟨rfl,L',K',hS,hl⟩;refine⟨rfl,t,L',K',?_,by simp only[DI,e];rfl,by omega⟩;rw[Kl hi];exact hS.more (by omega)
 ·refine(Lu hT b o e).mono ?_;rintro e' w' ⟨rfl,hS⟩;exact⟨rfl,by simp only[DI,e];exact fin (Below.refl _ _) hS (by omega) (by omega)⟩
 ·refine Dc w b t o (by omega) _ (fun W1 hW1=>?_);refine(KT (hT.below (Fw w t o hW1)) o e).mono ?_;rintro e' w' ⟨rfl,hS⟩;exact⟨rfl,by simp only[DI,e];exact fin (Fw w t o hW1) hS (by omega) (by omega)⟩
 ·refine Dc w b t o (by omega) _ (fun W1 hW1=>?_);refine(N2 (hT.below (Fw w t o hW1)) o e).mono ?_;rintro e' w' ⟨rfl,hS⟩;exact⟨rfl,by simp only[DI,e];exact fin (Fw w t o hW1) hS (by omega) (by omega)⟩
 ·refine Dc w b t o (by omega) _ (fun W1 hW1=>?_);refine(N0 (hT.below (Fw w t o hW1)) o e).mono ?_;rintro e' w' ⟨rfl,hS⟩;exact⟨rfl,by simp only[DI,e];exact fin (Fw w t o hW1) hS (by omega) (by omega)⟩
 ·refine Dc w b t o (by omega) _ (fun W1 hW1=>?_);refine(NZ (hT.below (Fw w t o hW1)) o e).mono ?_;rintro e' w' ⟨rfl,hS⟩;exact⟨rfl,by simp only[DI,e];exact fin (Fw w t o hW1) hS (by omega) (by omega)⟩
 ·refine Dc w b t o (by omega) _ (fun W1 hW1=>?_);refine(NY (hT.below (Fw w t o hW1)) o e).mono ?_;rintro e' w' ⟨rfl,hS⟩;exact⟨rfl,by simp only[DI,e];exact fin (Fw w t o hW1) hS (by omega) (by omega)⟩
theorem Z1:∀args w,(callFunc 59 args).run Tryz.prog w=.ok (.enter 59 args) w:=fun _ _=>rfl
theorem W9(w:World)(cb:Nat)(j:Nat)(u:Value)(h:([ptr cb]:List Value)[j]?=some u):(w.alloc (.cells #[ptr cb] 89)).cell? ((⟨w.heap.size,0,none⟩:Addr).add j)=some u:=by
 rw[Addr.add_lit,Nat.zero_add,World.cell?_alloc_new w _ _ j,<-List.getElem?_toArray]at *;exact h
theorem Nb.Ez{w w':World}{k n nb:Nat}{Ax rt tr:Int}{cb lb bm:Nat}(h:Nb w.drew w' k Ax n nb rt tr cb lb bm):Nb w w' k Ax n nb rt tr cb lb bm:=⟨YtblomippkddgiaaGreatDoor.Ez h.below,h.c0,h.l0,h.b0,h.cell,h.lines,h.map⟩
theorem UD{w w1 w2:World}{c:R.Cf}{A s nm jc:Nat}(hb:Below w.heap.size w w1)(hA:w.heap.size<=A)(hcA:w1.heap[A]?=some (.cells #[.int .i64 c.Ad,.int .i64 c.lines,.int .i64 c.Al,.int .i64 c.tries,.int .i64 c.table] 26 (0,0)))(hs:Ti (w1.alloc (.cells #[.slice none 0 0] 113)) w2 w1.heap.size c s nm jc):
  NI w c A w1.heap.size s w2.heap.size nm jc 0 id id id (.slice none 0 0) (w2.alloc (.cells #[ptr w1.heap.size,ptr s,.slice none 0 0] 84)):=by
 have s0:=hb.size;have hl:=lt_of_block hcA;have e1:(w1.alloc (.cells #[.slice none 0 0] 113)).heap.size=w1.heap.size+1:=by simp
 have hb1:Below w.heap.size w (w1.alloc (.cells #[.slice none 0 0] 113)):=hb.alloc s0 _;have sb:=hs.below.size;have hb2:Below w.heap.size w w2:=hb1.trans (hs.below.mono (by omega));have up:∀{b:Nat} {o:Obj},w2.heap[b]?=some o->(w2.alloc (.cells #[ptr w1.heap.size,ptr s,.slice none 0 0] 84)).heap[b]?=some o:=fun hb=>by
  rw[Below.heap_alloc _ _ _ (Array.getElem?_eq_some_iff.1 hb).1];exact hb
 have q1:=hs.s0;have q2:=hs.n0;have q3:=hs.j0;refine⟨hb2.alloc (by omega) _,up ?_,Dr _ _ rfl,World.ownsRow_nil _ _ _ _,up ?_,up hs.cell,up hs.chan,?_,⟨hA,by omega,by omega,by omega,by omega,by omega⟩,(fun j hj=>by cases hj),(fun i hi=>by omega),(fun i j hi=>by omega)⟩
 ·rw[hs.below.block A (by omega),Below.heap_alloc _ _ _ hl];exact hcA
 ·rw[hs.below.block _ (by omega)];exact Dr _ _ rfl
 ·exact hs.map.above ((Below.refl _ _).alloc (Nat.le_refl _) _)
theorem UB(w:World)(c:R.Cf)(hc:R.Cj c):
  Calls Tryz.prog 27 #[XJ c.Ad c.lines c.Al c.tries c.table] w fun e w'=>∃A n s x nm jc cb lb bm K,e=.returned (.tuple #[ptr x,.int .i64 0])/\NI w c A n s x nm jc c.Ad.toNat cb lb bm K w':=by
 have HR:=Ab (Me c hc);obtain⟨a,b,r,t,tb⟩:=c;obtain⟨⟨h1,h2⟩,⟨h3,h4⟩,⟨h5,h6⟩,⟨h7,h8⟩,h9,h10⟩:=hc;simp only at h1 h2 h3 h4 h5 h6 h7 h8 h9 h10 HR ⊢;have hmm:=@run_makeMap Tryz.prog;obtain⟨N,hN⟩:∃N:Nat,a=(N:Int):=⟨a.toNat,by omega⟩;obtain⟨L,hL⟩:∃L:Nat,b=(L:Int):=⟨b.toNat,by omega⟩;obtain⟨T,hT⟩:∃T:Nat,tb=(T:Int):=⟨tb.toNat,by omega⟩;subst hN hL hT;obtain⟨BX,hBX⟩:∃BX,w.alloc (.cells #[.int .i64 (N:Int),.int .i64 (L:Int),.int .i64 r,.int .i64 t,.int .i64 (T:Int)] 26)=BX:=⟨_,rfl⟩;have HB:Hid (Below w.heap.size w BX):=by
  rw[<-hBX];exact(Below.refl _ _).alloc (Nat.le_refl _) _
 have hbx:BX.heap[w.heap.size]?=some (.cells #[.int .i64 (N:Int),.int .i64 (L:Int),.int .i64 r,.int .i64 t,.int .i64 (T:Int)] 26 (0,0)):=by
  rw[<-hBX];exact heap_alloc_new w _
 have c0:BX.cell? ⟨w.heap.size,0,none⟩=some (.int .i64 (N:Int)):=cell_of hbx 0 _ rfl;have c1:BX.cell? ⟨w.heap.size,1,none⟩=some (.int .i64 (L:Int)):=cell_of hbx 1 _ rfl;have c2:BX.cell? ⟨w.heap.size,2,none⟩=some (.int .i64 r):=cell_of hbx 2 _ rfl;have c3:BX.cell? ⟨w.heap.size,3,none⟩=some (.int .i64 t):=cell_of hbx 3 _ rfl;have c4:BX.cell? ⟨w.heap.size,4,none⟩=some (.int .i64 (T:Int)):=cell_of hbx 4 _ rfl;have hlx:=lt_of_block hbx;have HBX:=Ab hBX;have HCB:=Ab hbx;have HCN:=Ab (fun w k nb=>NG w k L nb (N:Int) r t (T:Int) (by omega));obtain⟨i0,hi,hz0,hz1,hz2⟩:=info_parts Ym;clear hBX hbx;go_enter Tryz.func27,Tryz.ntmps27;go_wp2_with fail
 rw[Aa HBX];refine((Aa HR) _).mono ?_;rintro e w1 ⟨rfl,hb1⟩;have HNS:=Ab (fun (w2:World) (s nm jc:Nat) (hs:Ti (w1.alloc (.cells #[.slice none 0 0] 113)) w2 w1.heap.size ⟨(N:Int),(L:Int),r,t,(T:Int)⟩ s nm jc)=>UD (w:=w) (A:=w.heap.size) (c:=⟨(N:Int),(L:Int),r,t,(T:Int)⟩) ((Aa HB).trans (hb1.mono (Aa HB).size)) (Nat.le_refl _) ((hb1.block _ hlx).trans (Aa HCB)) hs);have hl1:w.heap.size<w1.heap.size:=Nat.lt_of_lt_of_le hlx hb1.size;have d0:w1.cell? ⟨w.heap.size,0,none⟩=some (.int .i64 (N:Int)):=(hb1.cell (p:=⟨w.heap.size,0,none⟩) hlx).trans c0;have d1:w1.cell? ⟨w.heap.size,1,none⟩=some (.int .i64 (L:Int)):=(hb1.cell (p:=⟨w.heap.size,1,none⟩) hlx).trans c1;have d2:w1.cell? ⟨w.heap.size,2,none⟩=some (.int .i64 r):=(hb1.cell (p:=⟨w.heap.size,2,none⟩) hlx).trans c2;have d3:w1.cell? ⟨w.heap.size,3,none⟩=some (.int .i64 t):=(hb1.cell (p:=⟨w.heap.size,3,none⟩) hlx).trans c3;have d4:w1.cell? ⟨w.heap.size,4,none⟩=some (.int .i64 (T:Int)):=(hb1.cell (p:=⟨w.heap.size,4,none⟩) hlx).trans c4;have HSN:=Ab (fun w nb=>O8 w nb T (N:Int) (L:Int) r t (by omega));clear hb1 c0 c1 c2 c3 c4;go_wp2_with fail
 refine((Aa HSN) _ _).mono ?_;rintro e w2 ⟨s,nm,jc,rfl,hs⟩;have HNI:=Ab ((Aa HNS) w2 s nm jc hs);have f0:(w2.alloc (.cells #[ptr w1.heap.size,ptr s,.slice none 0 0] 84)).cell? ⟨w.heap.size,0,none⟩=some (.int .i64 (N:Int)):=cell_of (Aa HNI).cA 0 _ rfl;clear hs HNS d0 d1 d2 d3 d4;go_wp2;go_loopw [20] (fun iv wr=>∃(k:Nat) (cb lb bm:Nat->Nat) (K:Value),k<=N/\iv=.int .i64 k/\NI w ⟨(N:Int),(L:Int),r,t,(T:Int)⟩ w.heap.size w1.heap.size s w2.heap.size nm jc k cb lb bm K wr) (fun iv _=>N-(intOf iv).toNat)
 case atStart=>exact⟨0,id,id,id,_,Nat.zero_le _,rfl,Aa HNI⟩
 case round=>
  obtain⟨k,cb,lb,bm,K,hk,rfl,hni⟩:=hrel;by_cases hlt:k<N
  ·have hn1:=hni.cx;have a2:wr.cell? ⟨w2.heap.size,2,none⟩=some K:=cell_of hn1 2 _ rfl;have a0:wr.cell? ⟨w2.heap.size,0,none⟩=some (ptr w1.heap.size):=cell_of hn1 0 _ rfl;have f2:wr.frozen? ⟨w2.heap.size,2,none⟩=false:=open_list hn1;have b0:wr.cell? ⟨w.heap.size,0,none⟩=some (.int .i64 (N:Int)):=cell_of hni.cA 0 _ rfl;have b1:wr.cell? ⟨w.heap.size,1,none⟩=some (.int .i64 (L:Int)):=cell_of hni.cA 1 _ rfl;have b2:wr.cell? ⟨w.heap.size,2,none⟩=some (.int .i64 r):=cell_of hni.cA 2 _ rfl;have b3:wr.cell? ⟨w.heap.size,3,none⟩=some (.int .i64 t):=cell_of hni.cA 3 _ rfl;have b4:wr.cell? ⟨w.heap.size,4,none⟩=some (.int .i64 (T:Int)):=cell_of hni.cA 4 _ rfl;have hlr:=lt_of_block hn1;have HNR:=Ab hni;obtain⟨ka,kc,hKs⟩:=Bu hni.row;subst hKs;have hKx:=Fh hni.row hni.cx (by decide);have HKX:=Ab hKx;clear hni hn1 hKx;go_wp2;go_region_law (first
    |(refine CV rfl 59 #[.tmp 28,.tmp 29,.tmp 30] #[3,26,80] rfl Z1 #[.int .i64 (k:Int),XJ (N:Int) (L:Int) r t (T:Int),ptr w1.heap.size] rfl _ ((Aa HCN) _ k w1.heap.size) ?_;rintro e w3 ⟨cb',lb',bm',rfl,hnew⟩;have hb2:=Ez hnew.below;have s2:=hb2.size;have e2:w3.cell? ⟨w2.heap.size,2,none⟩=some (.slice ka k kc):=(hb2.cell (p:=⟨w2.heap.size,2,none⟩) hlr).trans a2;have e2z:w3.frozen? ⟨w2.heap.size,2,none⟩=false:=(hb2.frozen (p:=⟨w2.heap.size,2,none⟩) hlr).trans f2;have HW3:=Ab hnew;have HB3:=Ab hb2;have hlw:w2.heap.size<w3.heap.size:=Nat.lt_of_lt_of_le hlr s2;clear hb2 hnew;refine⟨_,rfl,?_⟩)
    |(refine Bb rfl (.tmp 27) (.tmp 32) 82 rfl 0 89 i0 (.pointer none) 1 8 Tryz.underlying82 hi hz0 hz1 hz2 rfl (by decide) (.slice ka k kc) k (XI cb k) rfl (by exact(Be (Aa HNR).row (Aa HB3)).alloc _) ⟨w3.heap.size,0,none⟩ 1 1 [ptr cb'] rfl rfl (by exact W9 w3 cb') (by simp[Value.oneCell']) (by unfold maxLen;omega) (by omega) (by omega) ?_;intro v' wz hownz hgrow hat;obtain⟨va,vn,vc,hvs⟩:=Am hownz;subst hvs;have hgn:wz.heap[w2.heap.size]?=w3.heap[w2.heap.size]?:=(hgrow.block _ (by simp;omega) (fun e=>(Aa HKX) e.symm)).trans (Below.heap_alloc _ _ _ hlw);have gz:wz.frozen? ⟨w2.heap.size,2,none⟩=false:=(World.frozen?_of_block hgn).trans e2z;have gn:wz.cell? ⟨w2.heap.size,2,none⟩=some (.slice ka k kc):=(World.cell?_of_block hgn).trans e2;have HOZ:=Ab hownz;have HGZ:=Ab hgrow;have HAT:=Ab hat;clear hownz hgrow hat hgn))
   all_goals
    have HM:=Ab ((Aa HNR).more (Aa HW3).Ez (Aa HOZ) (Aa HGZ) (by have:=Aa HAT;simpa using this));clear HOZ HGZ HAT HW3 HNR;go_wp2;go_roundw
    case rel=>exact⟨k+1,_,_,_,_,by omega,by go_num,Aa HM⟩
    case measure=>simp[intOf];omega
  ·obtain rfl:k=N:=by omega
   go_wp2;go_returns;exact⟨_,_,_,_,_,_,cb,lb,bm,K,rfl,hni⟩
def newG(c:R.Cf):R.Wd:=⟨c,[],[],[],[],List.replicate c.Ad.toNat (R.LM 1 c.lines),[0,0,0],List.replicate 9 R.Ef,[]⟩
theorem EI{c:R.Cf}{i:Nat}{x:R.Cl}(h:(newG c).Ad[i]?=some x):i<c.Ad.toNat/\x=R.LM 1 c.lines:=by
 simp only[newG,List.getElem?_replicate]at h;split at h
 ·rename_i hi;cases h;exact⟨hi,rfl⟩
 ·cases h
theorem WU{c:R.Cf}(hc:R.Cj c):R.Wf (newG c):=by
 have hc':=hc;unfold R.Cj at hc';refine⟨hc,by simp[newG];omega,fun i x hx=>?_,by simp[newG],fun f hf=>by simp[newG]at hf,by simp[newG],fun s hs=>by simp[newG]at hs,by simp[newG],by simp[newG],by simp[newG],fun u hu=>by simp[newG]at hu⟩;obtain⟨_,rfl⟩:=EI hx;refine⟨by simp[R.LM,newG];omega,by simp[R.LM],fun u hu=>by simp[R.LM]at hu,fun k l hl=>?_⟩;simp only[R.LM,List.getElem?_replicate]at hl;split at hl
 ·cases hl;exact⟨by simp[R.Um],fun q=>by simp[R.Um]at q⟩
 ·cases hl
theorem Qb{i:Nat}{r:R.Sn}(h:(List.replicate 9 R.Ef)[i]?=some r):r.seq=0:=by
 rw[List.getElem?_replicate]at h;split at h
 ·cases h;rfl
 ·cases h
theorem WV{c:R.Cf}(hc:R.Cj c):R.Ni (newG c).c (newG c).Ao (newG c).seen (newG c).jobs:=R.ws0 c hc
theorem LW.made{w:World}{c:R.Cf}(hc:R.Cj c){A n s x nm jc:Nat}{cb lb bm:Nat->Nat}{K:Value}{w':World}(h:NI w c A n s x nm jc c.Ad.toNat cb lb bm K w'):
  ∃p F,p.x=x/\LW p F (newG c) w'/\∀k,F k->w.heap.size<=k:=by
 have hc':=hc;unfold R.Cj at hc';rcases h.row.2 with ⟨_,h0⟩|⟨g,cap,cur,rfl,_,hg,hcap,_,hcs,htk⟩
 ·omega
 ·have hlen:(newG c).Ad.length=c.Ad.toNat:=by simp[newG]
  have lo:=h.lo;refine⟨⟨x,n,s,g,cap,nm,cb,lb,bm,YT jc⟩,fun k=>w.heap.size<=k/\k<w'.heap.size,rfl,⟨WU hc,WV hc,?_,?_,?_,?_,?_,fun i y hy=>?_,fun i y hy=>?_,fun i y hy=>?_,?_,fun i hi=>?_,fun i j hi hj hij=>?_,fun k hk=>hk.2⟩,fun k hk=>hk.1⟩
  ·rw[hlen];exact h.cx
  ·refine⟨cur,hg,fun i hi=>?_⟩;rw[hlen]at hi;have e1:cur.toList[i]?=(XI cb c.Ad.toNat)[i]?:=by
    rw[<-htk,List.getElem?_take,if_pos (by omega)]
   simp only[Array.getElem?_toList]at e1;rw[e1];simp[XI,hi]
  ·exact⟨_,h.cn,World.ownsRow_nil _ _ _ _,fun j hj=>by cases hj⟩
  ·refine⟨h.cs,rfl,World.ownsRow_nil _ _ _ _,fun z hz=>by simp[YT]at hz,fun i j z y hz=>by simp[YT]at hz,fun i j z y hz=>by simp[YT]at hz,fun i r hr hne=>?_,fun i j r r' hr hr' hne=>?_,⟨0,0,h.cj⟩,⟨lo.2.2.1,lt_of_block h.cs⟩,⟨lo.2.2.2.2.2,(Array.getElem?_eq_some_iff.1 h.cj).1⟩,fun j hj=>by cases hj⟩
   ·exact absurd (Qb hr) hne
   ·exact absurd (Qb hr) hne
  ·exact h.names.congr (fun a=>by simp[AP,R.Bh,newG])
  ·obtain⟨hi,rfl⟩:=EI hy;have:=(h.each i hi).2.1;simpa [TD,R.LM,newG] using this
  ·obtain⟨hi,rfl⟩:=EI hy;refine⟨_,(h.each i hi).2.2.1,⟨by simp[R.LM],fun k l z hl hz=>?_⟩,fun k l z hl hz=>?_⟩;simp only[R.LM,List.getElem?_replicate]at hl hz;by_cases hk:k<c.lines.toNat
   ·rw[if_pos hk]at hl hz;cases hl;cases hz;exact⟨rfl,rfl,fun _=>rfl,fun q=>by simp[R.Um]at q,fun q=>by simp[R.Um]at q⟩
   ·rw[if_neg hk]at hl;cases hl
   simp only[R.LM,List.getElem?_replicate]at hl hz;by_cases hk:k<c.lines.toNat
   ·rw[if_pos hk]at hl hz;cases hl;cases hz;exact ED.nil _ _
   ·rw[if_neg hk]at hl;cases hl
  ·obtain⟨hi,rfl⟩:=EI hy;have:=(h.each i hi).2.2.2.1;exact this.congr (fun a=>by simp[BU,R.LM])
  ·exact⟨⟨lo.2.2.2.1,lt_of_block h.cx⟩,⟨lo.2.1,lt_of_block h.cn⟩,⟨h.kb g rfl,lt_of_block hg⟩,⟨lo.2.2.2.2.1,h.names.lt⟩⟩
  ·rw[hlen]at hi;obtain⟨⟨a1,a2,a3⟩,b1,b2,b3,b4⟩:=h.each i hi;exact⟨⟨a1,lt_of_block b1⟩,⟨a2,lt_of_block b2⟩,⟨a3,b3.lt⟩,b4⟩
  ·rw[hlen]at hi hj;exact h.inj i j hi hj hij
theorem WW(w:World)(c:R.Cf)(hc:R.Cj c):
  Calls Tryz.prog 27 #[XJ c.Ad c.lines c.Al c.tries c.table] w fun e w'=>∃p F,e=.returned (.tuple #[ptr p.x,.int .i64 0])/\LW p F (newG c) w'/\(∀k,F k->w.heap.size<=k)/\Below w.heap.size w w':=by
 refine(UB w c hc).mono ?_;rintro e w' ⟨A,n,s,x,nm,jc,cb,lb,bm,K,rfl,h⟩;obtain⟨p,F,rfl,h1,h2⟩:=LW.made hc h;exact⟨p,F,rfl,h1,h2,h.below⟩
abbrev OC(c:R.Cf):Value:=.agg #[.int .i64 c.Ad,.int .i64 c.lines,.int .i64 c.Al,.int .i64 c.tries,.int .i64 c.table]
def XD(n:Nat):List (R.Ln×Value):=List.replicate n (R.Um,.slice none 0 0)
theorem MG(n:Nat)(hn:1<=n/\n<=3)(W:World):(Instr.makeSlice 230 (.int .i64 (n:Int)) (.int .i64 (n:Int))).run Tryz.prog W=.ok (.slice (some ⟨W.heap.size,0,none⟩) n n) (W.alloc (.cells (tab K4 (XD n)).toArray 259)):=by
 have h3:n=1\/n=2\/n=3:=by omega
 rcases h3 with rfl|rfl|rfl
 ·show _=_;kernel_rfl
 ·show _=_;kernel_rfl
 ·show _=_;kernel_rfl
theorem MH(W:World):(Instr.makeSlice 35 (.int .i64 3) (.int .i64 3)).run Tryz.prog W=.ok (.slice (some ⟨W.heap.size,0,none⟩) 3 3) (W.alloc (.cells (BI [0,0,0]).toArray 3)):=by
 show _=_;kernel_rfl
theorem OM(W:World):(Instr.makeSlice 226 (.int .i64 9) (.int .i64 9)).run Tryz.prog W=.ok (.slice (some ⟨W.heap.size,0,none⟩) 9 9) (W.alloc (.cells (tab XR (List.replicate 9 R.Ef)).toArray 264)):=by
 show _=_;kernel_rfl
theorem MZ{w:World}{a b c:Addr}{u v y:Value}:(((w.setCell a u).setCell b v).setCell c y).heap.size=w.heap.size:=by simp[World.setCell]
theorem Hg(w:World)(o:Obj){n:Nat}(h:w.heap.size=n):(w.alloc o).heap[n]?=some o:=by
 subst h;exact heap_alloc_new w o
theorem MA(w:World)(Ax:Int)(n:Nat)(hn:1<=n/\n<=3):Calls Tryz.prog 144 #[.int .i64 Ax,.int .i64 (n:Int)] w fun e w'=>∃lb,e=.returned (.agg #[.int .i64 Ax,.slice none 0 0,.slice (some ⟨lb,0,none⟩) n n])/\w.heap.size<=lb/\w'.heap[lb]?=some (.cells (tab K4 (XD n)).toArray 259 (0,0))/\Below w.heap.size w w':=by
 have hm:=MG n hn;obtain⟨TL,hTL⟩:∃TL,(tab K4 (XD n)).toArray=TL:=⟨_,rfl⟩;rw[hTL]at hm ⊢;clear hTL;go_enter Tryz.func144,Tryz.ntmps144;go_wp2;go_returns;refine⟨w.heap.size+1,rfl,by omega,?_,((Below.refl _ _).alloc (Nat.le_refl _) _).alloc (by simp) _⟩;exact Hg _ _ (by simp)
theorem Ox(w:World)(x:Nat)(v0 v1 v2 v3 v4 vN vS vV vF vC:Value)(hx:w.heap[x]?=some (.cells [v0,v1,v2,v3,v4,vN,vS,vV,vF,vC,.slice none 0 0,.slice none 0 0,.slice none 0 0].toArray 229 (0,0))):Calls Tryz.prog 145 #[Av x] w fun e w'=>e=.returned (.tuple #[])/\∃L Sn,w.heap.size<=L/\w.heap.size<=Sn/\L≠Sn/\w'.heap[L]?=some (.cells (BI [0,0,0]).toArray 3 (0,0))/\w'.heap[Sn]?=some (.cells (tab XR (List.replicate 9 R.Ef)).toArray 264 (0,0))/\w'.heap[x]?=some (.cells #[v0,v1,v2,v3,v4,vN,vS,vV,vF,vC,.slice (some ⟨L,0,none⟩) 3 3,.slice (some ⟨Sn,0,none⟩) 9 9,.slice none 0 0] 229 (0,0))/\Ae (fun k=>k=x) w w':=by
 have hm1:=MH;have hm2:=OM;obtain⟨T1,hT1⟩:∃T1,(BI [0,0,0]).toArray=T1:=⟨_,rfl⟩;obtain⟨T2,hT2⟩:∃T2,(tab XR (List.replicate 9 R.Ef)).toArray=T2:=⟨_,rfl⟩;rw[hT1]at hm1 ⊢;rw[hT2]at hm2 ⊢;clear hT1 hT2;have c10:w.cell? ⟨x,10,none⟩=some (.slice none 0 0):=cell_of hx 10 _ rfl;have c11:w.cell? ⟨x,11,none⟩=some (.slice none 0 0):=cell_of hx 11 _ rfl;have c12:w.cell? ⟨x,12,none⟩=some (.slice none 0 0):=cell_of hx 12 _ rfl;have z10:w.frozen? ⟨x,10,none⟩=false:=Cs hx 10;have z11:w.frozen? ⟨x,11,none⟩=false:=Cs hx 11;have z12:w.frozen? ⟨x,12,none⟩=false:=Cs hx 12;have hl:=lt_of_block hx;have HX:=Ab hx;clear hx;go_enter Tryz.func145,Tryz.ntmps145;go_wp2;go_returns;have hs:∀(u1 u2 u3:Value),(((w.setCell ⟨x,10,none⟩ u1).setCell ⟨x,11,none⟩ u2).setCell ⟨x,12,none⟩ u3).heap.size=w.heap.size:=fun u1 u2 u3=>MZ
 have b1:=Ap (off:=12) (Ap (off:=11) (Ap (off:=10) (Aa HX) (.slice (some ⟨w.heap.size,0,none⟩) 3 3)) (.slice (some ⟨w.heap.size+1,0,none⟩) 9 9)) (.slice none 0 0);refine⟨rfl,w.heap.size,w.heap.size+1,Nat.le_refl _,by omega,by omega,?_,?_,?_,?_⟩
 ·rw[Below.heap_alloc _ _ _ (by simp[hs])];exact Hg _ _ (hs _ _ _)
 ·exact Hg _ _ (by simp[hs])
 ·rw[Below.heap_alloc _ _ _ (by simp[hs];omega),Below.heap_alloc _ _ _ (by rw[hs];exact hl)];exact b1
 ·exact(((((Ae.refl (fun k=>k=x) w).setCell (p:=⟨x,10,none⟩) (Or.inl rfl) _).setCell (p:=⟨x,11,none⟩) (Or.inl rfl) _).setCell (p:=⟨x,12,none⟩) (Or.inl rfl) _).alloc _).alloc _
theorem Xh(w:World)(c:R.Cf)(h:¬R.Cj c):Calls Tryz.prog 87 #[OC c] w fun e w'=>e=.returned (.tuple #[.pointer none,.int .i64 8])/\Below w.heap.size w w':=by
 obtain⟨a,b,r,t,tb⟩:=c;unfold R.Cj at h;simp only at h;by_cases h0:a<1
 ·go_enter Tryz.func87,Tryz.ntmps87;go_wp2;go_returns;exact⟨rfl,(Below.refl _ _).alloc (Nat.le_refl _) _⟩
 by_cases h1:3<a
 ·go_enter Tryz.func87,Tryz.ntmps87;go_wp2;go_returns;exact⟨rfl,(Below.refl _ _).alloc (Nat.le_refl _) _⟩
 by_cases h2:b<1
 ·go_enter Tryz.func87,Tryz.ntmps87;go_wp2;go_returns;exact⟨rfl,(Below.refl _ _).alloc (Nat.le_refl _) _⟩
 by_cases h3:3<b
 ·go_enter Tryz.func87,Tryz.ntmps87;go_wp2;go_returns;exact⟨rfl,(Below.refl _ _).alloc (Nat.le_refl _) _⟩
 by_cases h4:r<1
 ·go_enter Tryz.func87,Tryz.ntmps87;go_wp2;go_returns;exact⟨rfl,(Below.refl _ _).alloc (Nat.le_refl _) _⟩
 by_cases h5:8<r
 ·go_enter Tryz.func87,Tryz.ntmps87;go_wp2;go_returns;exact⟨rfl,(Below.refl _ _).alloc (Nat.le_refl _) _⟩
 by_cases h6:t<1
 ·go_enter Tryz.func87,Tryz.ntmps87;go_wp2;go_returns;exact⟨rfl,(Below.refl _ _).alloc (Nat.le_refl _) _⟩
 by_cases h7:6<t
 ·go_enter Tryz.func87,Tryz.ntmps87;go_wp2;go_returns;exact⟨rfl,(Below.refl _ _).alloc (Nat.le_refl _) _⟩
 by_cases h8:tb<1
 ·go_enter Tryz.func87,Tryz.ntmps87;go_wp2;go_returns;exact⟨rfl,(Below.refl _ _).alloc (Nat.le_refl _) _⟩
 have h9:9<tb:=by omega
 go_enter Tryz.func87,Tryz.ntmps87;go_wp2;go_returns;exact⟨rfl,(Below.refl _ _).alloc (Nat.le_refl _) _⟩
structure Tg(w0:World)(x:Nat)(c:R.Cf)(n m:Nat)(C:Value)(zc:List (R.Cl×CE))(wr:World):Prop where
 below:Below w0.heap.size w0 wr
 lo:w0.heap.size<=x
 bx:wr.heap[x]?=some (.cells [.int .i64 c.Ad,.int .i64 c.lines,.int .i64 c.Al,.int .i64 c.tries,.int .i64 c.table,.slice none 0 0,.slice none 0 0,.slice none 0 0,.slice none 0 0,C,.slice none 0 0,.slice none 0 0,.slice none 0 0].toArray 229 (0,0))
 len:zc.length=m
 cl:wr.ownsRow w0.heap.size 232 3 C m (tab Lx zc)
 each:∀(i:Nat) (z:R.Cl×CE),zc[i]?=some z->z.1=⟨1,[],List.replicate n R.Um⟩/\z.2.bv=.slice none 0 0/\w0.heap.size<=z.2.lb/\wr.heap[z.2.lb]?=some (.cells (tab K4 (XD n)).toArray 259 (0,0))
 inj:∀(i j:Nat) (z y:R.Cl×CE),zc[i]?=some z->zc[j]?=some y->i≠j->z.2.lb≠y.2.lb
theorem Tg.push{w0:World}{x:Nat}{c:R.Cf}{n m:Nat}{C K:Value}{zc:List (R.Cl×CE)}{wr w2 W wz:World}{lb:Nat}(h:Tg w0 x c n m C zc wr)(hlb:wr.heap.size<=lb)(hb2:Below wr.heap.size wr w2)(hl2:w2.heap[lb]?=some (.cells (tab K4 (XD n)).toArray 259 (0,0)))(hbW:Below w2.heap.size w2 W)(hg:W.grownBy wz C.ownBlock)(hown:wz.ownsRow w0.heap.size 232 3 K (m+1) (tab Lx zc++[.int .i64 1,.slice none 0 0,.slice (some ⟨lb,0,none⟩) n n])):wz.heap[x]?=wr.heap[x]?/\Tg w0 x c n (m+1) K (zc++[(⟨1,[],List.replicate n R.Um⟩,⟨.slice none 0 0,lb⟩)]) (wz.setCell ⟨x,9,none⟩ K):=by
 have hbr:=hb2.size;have hbw:=hbW.size;have hC:∀j,C.ownBlock=some j->w0.heap.size<=j:=fun j hj=>Db h.cl hj
 have keep:∀{b:Nat} {o:Obj},wr.heap[b]?=some o->C.ownBlock≠some b->wz.heap[b]?=some o:=fun {b o} hb hne=>by
  have hl:=(Array.getElem?_eq_some_iff.1 hb).1;rw[hg.block b (by omega) (fun e=>hne e.symm),hbW.block b (by omega),hb2.block b hl];exact hb
 have keep2:wz.heap[lb]?=some (.cells (tab K4 (XD n)).toArray 259 (0,0)):=by
  have hl:=(Array.getElem?_eq_some_iff.1 hl2).1;rw[hg.block lb (by omega) (fun e=>?_),hbW.block lb hl]
  ·exact hl2
  ·obtain⟨cur,hc⟩:=C4 h.cl e.symm;have:=(Array.getElem?_eq_some_iff.1 hc).1;omega
 have hbx:=keep h.bx (Bv h.cl h.bx (by decide));have hb0:Below w0.heap.size w0 wz:=below_grown (((h.below.trans (hb2.mono h.below.size))).trans (hbW.mono (by have:=h.below.size;omega))) hg hC;have hset:Ae (fun k=>k=x) wz (wz.setCell ⟨x,9,none⟩ K):=Ae.setCell (F:=fun k=>k=x) (Ae.refl _ wz) (p:=⟨x,9,none⟩) (Or.inl rfl) K;have nx:∀{b:Nat} {ys:Array Value} {t:TypeId},wz.heap[b]?=some (.cells ys t (0,0))->t≠229->¬b=x:=fun hb h1 e=>by
  subst e;exact AO hb hbx h1 rfl
 refine⟨hbx.trans h.bx.symm,⟨hb0.setCell h.lo K,h.lo,Ap hbx K,by simp[h.len],?_,fun i z hz=>?_,fun i j z y hz hy hij=>?_⟩⟩
 ·rw[D9];refine hset.row ?_ (fun j hj=>?_)
  ·have e:Lx (⟨1,[],List.replicate n R.Um⟩,⟨.slice none 0 0,lb⟩)=[.int .i64 1,.slice none 0 0,.slice (some ⟨lb,0,none⟩) n n]:=by simp[Lx]
   rw[e];exact hown
  ·obtain⟨cur,hc⟩:=C4 hown hj;exact nx hc (by decide)
 ·rw[List.getElem?_append]at hz;split at hz
  ·obtain⟨e1,e2,e3,e4⟩:=h.each i z hz;have k4:=keep e4 (Bv h.cl e4 (by decide));exact⟨e1,e2,e3,hset.at k4 (nx k4 (by decide))⟩
  ·rw[List.getElem?_singleton]at hz;split at hz
   ·cases hz;exact⟨rfl,rfl,by have:=h.below.size;simp only;omega,hset.at keep2 (nx keep2 (by decide))⟩
   ·cases hz
 ·rw[List.getElem?_append]at hz hy;have old:∀{i:Nat} {z:R.Cl×CE},zc[i]?=some z->z.2.lb<wr.heap.size:=fun hz=>(Array.getElem?_eq_some_iff.1 (h.each _ _ hz).2.2.2).1
  split at hz
  ·split at hy
   ·exact h.inj i j z y hz hy hij
   ·rw[List.getElem?_singleton]at hy;split at hy
    ·cases hy;have:=old hz;simp only;omega
    ·cases hy
  ·split at hy
   ·rw[List.getElem?_singleton]at hz;split at hz
    ·cases hz;have:=old hy;simp only;omega
    ·cases hz
   ·rw[List.getElem?_singleton]at hz hy;split at hz
    ·split at hy
     ·omega
     ·cases hy
    ·cases hz
end Go.Proofs.YtblomippkddgiaaGreatDoor
