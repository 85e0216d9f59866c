import Derived.Test.YtblomippkddgiabGreatDoorJ26
set_option maxRecDepth 100000
set_option maxHeartbeats 2000000
namespace Go.Proofs.YtblomippkddgiabGreatDoor
open Go.RowKit
variable {A i jc n nm s:Nat}{c:R.Cf}{w w':World}
theorem aes:∀args w,(callFunc 47 args).run Tryz.prog w=.ok (.enter 47 args) w:=fun _ _=>rfl
theorem abf(w:World)(cb:Nat)(j:Nat)(u:Value)(h:([ptr cb]:List Value)[j]?=some u):(w.alloc (.cells #[ptr cb] 93)).cell? ((⟨w.heap.size,0,none⟩:Addr).add j)=some u:=by
 rw[Addr.add_lit,Nat.zero_add,World.cell?_alloc_new w _ _ j,<-List.getElem?_toArray]at *;exact h
theorem Sb.D7{k nb:Nat}{Ae rt tr:Int}{cb lb bm:Nat}(h:Sb w.drew w' k Ae n nb rt tr cb lb bm):Sb w w' k Ae n nb rt tr cb lb bm:=⟨YtblomippkddgiabGreatDoor.D7 h.below,h.c0,h.l0,h.b0,h.cell,h.lines,h.map⟩
theorem YW{w1 w2:World}(hb:Below w.heap.size w w1)(hA:w.heap.size<=A)(aa:w1.heap[A]?=some (.cells #[.int .i64 c.Ad,.int .i64 c.lines,.int .i64 c.Ay,.int .i64 c.tries,.int .i64 c.table] 23 (0,0)))(hs:Xy (w1.alloc (.cells #[.slice none 0 0] 110)) w2 w1.heap.size c s nm jc):
  NI w c A w1.heap.size s w2.heap.size nm jc 0 id id id (.slice none 0 0) (w2.alloc (.cells #[ptr w1.heap.size,ptr s,.slice none 0 0] 71)):=by
 have s0:=hb.size;have hl:=lt_of_block aa;have e1:(w1.alloc (.cells #[.slice none 0 0] 110)).heap.size=w1.heap.size+1:=by simp
 have ab:Below w.heap.size w (w1.alloc (.cells #[.slice none 0 0] 110)):=hb.alloc s0 _;have sb:=hs.below.size;have ac:Below w.heap.size w w2:=ab.trans (hs.below.mono (by omega));have up:∀{b:Nat} {o:Obj},w2.heap[b]?=some o->(w2.alloc (.cells #[ptr w1.heap.size,ptr s,.slice none 0 0] 71)).heap[b]?=some o:=fun hb=>by
  rw[Below.heap_alloc _ _ _ (Array.getElem?_eq_some_iff.1 hb).1];exact hb
 have q1:=hs.s0;have q2:=hs.n0;have q3:=hs.j0;refine⟨ac.alloc (by omega) _,up ?_,CM _ _ rfl,World.ownsRow_nil _ _ _ _,up ?_,up hs.cell,up hs.chan,?_,⟨hA,by omega,by omega,by omega,by omega,by omega⟩,(fun j hj=>by cases hj),(fun i hi=>by omega),(fun i j hi=>by omega)⟩
 ·rw[hs.below.block A (by omega),Below.heap_alloc _ _ _ hl];exact aa
 ·rw[hs.below.block _ (by omega)];exact CM _ _ rfl
 ·exact hs.map.above ((Below.refl _ _).alloc (Nat.le_refl _) _)
theorem YU(w:World)(c:R.Cf)(hc:R.BD c):
  Calls Tryz.prog 24 #[UK c.Ad c.lines c.Ay c.tries c.table] w fun e w'=>∃A n s x nm jc cb lb bm K,e=.returned (.tuple #[ptr x,.int .i64 0])/\NI w c A n s x nm jc c.Ad.toNat cb lb bm K w':=by
 have HR:=Ac (QQ c hc);obtain⟨a,b,r,t,tb⟩:=c;obtain⟨⟨h1,h2⟩,⟨h3,h4⟩,⟨h5,h6⟩,⟨h7,h8⟩,h9,aF⟩:=hc;simp only at h1 h2 h3 h4 h5 h6 h7 h8 h9 aF HR ⊢;have aP:=@run_makeMap Tryz.prog;obtain⟨N,hN⟩:∃N:Nat,a=(N:Int):=⟨a.toNat,by omega⟩;obtain⟨L,hL⟩:∃L:Nat,b=(L:Int):=⟨b.toNat,by omega⟩;obtain⟨T,hT⟩:∃T:Nat,tb=(T:Int):=⟨tb.toNat,by omega⟩;subst hN hL hT;obtain⟨BX,aj⟩:∃BX,w.alloc (.cells #[.int .i64 (N:Int),.int .i64 (L:Int),.int .i64 r,.int .i64 t,.int .i64 (T:Int)] 23)=BX:=⟨_,rfl⟩;have HB:Hid (Below w.heap.size w BX):=by
  rw[<-aj];exact(Below.refl _ _).alloc (Nat.le_refl _) _
 have ae:BX.heap[w.heap.size]?=some (.cells #[.int .i64 (N:Int),.int .i64 (L:Int),.int .i64 r,.int .i64 t,.int .i64 (T:Int)] 23 (0,0)):=by
  rw[<-aj];exact heap_alloc_new w _
 have c0:BX.cell? ⟨w.heap.size,0,none⟩=some (.int .i64 (N:Int)):=cell_of ae 0 _ rfl;have c1:BX.cell? ⟨w.heap.size,1,none⟩=some (.int .i64 (L:Int)):=cell_of ae 1 _ rfl;have c2:BX.cell? ⟨w.heap.size,2,none⟩=some (.int .i64 r):=cell_of ae 2 _ rfl;have c3:BX.cell? ⟨w.heap.size,3,none⟩=some (.int .i64 t):=cell_of ae 3 _ rfl;have c4:BX.cell? ⟨w.heap.size,4,none⟩=some (.int .i64 (T:Int)):=cell_of ae 4 _ rfl;have af:=lt_of_block ae;have az:=Ac aj;have aA:=Ac ae;have aB:=Ac (fun w k nb=>SE w k L nb (N:Int) r t (T:Int) (by omega));obtain⟨i0,hi,aJ,aK,aL⟩:=info_parts acp;clear aj ae;go_enter Tryz.func24,Tryz.ntmps24;go_wp2_with fail
 rw[Aa az];refine((Aa HR) _).mono ?_;rintro e w1 ⟨rfl,ad⟩;have aq:=Ac (fun (w2:World) (s nm jc:Nat) (hs:Xy (w1.alloc (.cells #[.slice none 0 0] 110)) w2 w1.heap.size ⟨(N:Int),(L:Int),r,t,(T:Int)⟩ s nm jc)=>YW (w:=w) (A:=w.heap.size) (c:=⟨(N:Int),(L:Int),r,t,(T:Int)⟩) ((Aa HB).trans (ad.mono (Aa HB).size)) (Nat.le_refl _) ((ad.block _ af).trans (Aa aA)) hs);have aN:w.heap.size<w1.heap.size:=Nat.lt_of_lt_of_le af ad.size;have d0:w1.cell? ⟨w.heap.size,0,none⟩=some (.int .i64 (N:Int)):=(ad.cell (p:=⟨w.heap.size,0,none⟩) af).trans c0;have d1:w1.cell? ⟨w.heap.size,1,none⟩=some (.int .i64 (L:Int)):=(ad.cell (p:=⟨w.heap.size,1,none⟩) af).trans c1;have d2:w1.cell? ⟨w.heap.size,2,none⟩=some (.int .i64 r):=(ad.cell (p:=⟨w.heap.size,2,none⟩) af).trans c2;have d3:w1.cell? ⟨w.heap.size,3,none⟩=some (.int .i64 t):=(ad.cell (p:=⟨w.heap.size,3,none⟩) af).trans c3;have d4:w1.cell? ⟨w.heap.size,4,none⟩=some (.int .i64 (T:Int)):=(ad.cell (p:=⟨w.heap.size,4,none⟩) af).trans c4;have aD:=Ac (fun w nb=>Ud w nb T (N:Int) (L:Int) r t (by omega));clear ad c0 c1 c2 c3 c4;go_wp2_with fail
 refine((Aa aD) _ _).mono ?_;rintro e w2 ⟨s,nm,jc,rfl,hs⟩;have ap:=Ac ((Aa aq) w2 s nm jc hs);have f0:(w2.alloc (.cells #[ptr w1.heap.size,ptr s,.slice none 0 0] 71)).cell? ⟨w.heap.size,0,none⟩=some (.int .i64 (N:Int)):=cell_of (Aa ap).cA 0 _ rfl;clear hs aq d0 d1 d2 d3 d4;go_wp2;go_loopw [20] (fun iv wr=>∃(k:Nat) (cb lb bm:Nat->Nat) (K:Value),k<=N/\iv=.int .i64 k/\NI w ⟨(N:Int),(L:Int),r,t,(T:Int)⟩ w.heap.size w1.heap.size s w2.heap.size nm jc k cb lb bm K wr) (fun iv _=>N-(intOf iv).toNat)
 case atStart=>exact⟨0,id,id,id,_,Nat.zero_le _,rfl,Aa ap⟩
 case round=>
  obtain⟨k,cb,lb,bm,K,hk,rfl,aa⟩:=hrel;by_cases aO:k<N
  ·have ai:=aa.cx;have a2:wr.cell? ⟨w2.heap.size,2,none⟩=some K:=cell_of ai 2 _ rfl;have a0:wr.cell? ⟨w2.heap.size,0,none⟩=some (ptr w1.heap.size):=cell_of ai 0 _ rfl;have f2:wr.frozen? ⟨w2.heap.size,2,none⟩=false:=open_list ai;have b0:wr.cell? ⟨w.heap.size,0,none⟩=some (.int .i64 (N:Int)):=cell_of aa.cA 0 _ rfl;have b1:wr.cell? ⟨w.heap.size,1,none⟩=some (.int .i64 (L:Int)):=cell_of aa.cA 1 _ rfl;have b2:wr.cell? ⟨w.heap.size,2,none⟩=some (.int .i64 r):=cell_of aa.cA 2 _ rfl;have b3:wr.cell? ⟨w.heap.size,3,none⟩=some (.int .i64 t):=cell_of aa.cA 3 _ rfl;have b4:wr.cell? ⟨w.heap.size,4,none⟩=some (.int .i64 (T:Int)):=cell_of aa.cA 4 _ rfl;have am:=lt_of_block ai;have ak:=Ac aa;obtain⟨ka,kc,aG⟩:=AX aa.row;subst aG;have aw:=AV aa.row aa.cx (by decide);have aC:=Ac aw;clear aa ai aw;go_wp2;go_region_law (first
    |(refine Av rfl 47 #[.tmp 28,.tmp 29,.tmp 30] #[3,23,67] rfl aes #[.int .i64 (k:Int),UK (N:Int) (L:Int) r t (T:Int),ptr w1.heap.size] rfl _ ((Aa aB) _ k w1.heap.size) ?_;rintro e w3 ⟨av,aQ,aM,rfl,ag⟩;have ah:=D7 ag.below;have s2:=ah.size;have e2:w3.cell? ⟨w2.heap.size,2,none⟩=some (.slice ka k kc):=(ah.cell (p:=⟨w2.heap.size,2,none⟩) am).trans a2;have aE:w3.frozen? ⟨w2.heap.size,2,none⟩=false:=(ah.frozen (p:=⟨w2.heap.size,2,none⟩) am).trans f2;have au:=Ac ag;have ay:=Ac ah;have aH:w2.heap.size<w3.heap.size:=Nat.lt_of_lt_of_le am s2;clear ah ag;refine⟨_,rfl,?_⟩)
    |(refine Bp rfl (.tmp 27) (.tmp 32) 69 rfl 0 93 i0 (.pointer none) 1 8 Tryz.underlying69 hi aJ aK aL rfl (by decide) (.slice ka k kc) k (cbs cb k) rfl (by exact(Bu (Aa ak).row (Aa ay)).alloc _) ⟨w3.heap.size,0,none⟩ 1 1 [ptr av] rfl rfl (by exact abf w3 av) (by simp[Value.oneCell']) (by unfold maxLen;omega) (by omega) (by omega) ?_;intro v' wz ac ab ax;obtain⟨va,vn,vc,aI⟩:=Ar ac;subst aI;have al:wz.heap[w2.heap.size]?=w3.heap[w2.heap.size]?:=(ab.block _ (by simp;omega) (fun e=>(Aa aC) e.symm)).trans (Below.heap_alloc _ _ _ aH);have gz:wz.frozen? ⟨w2.heap.size,2,none⟩=false:=(World.frozen?_of_block al).trans aE;have gn:wz.cell? ⟨w2.heap.size,2,none⟩=some (.slice ka k kc):=(World.cell?_of_block al).trans e2;have ar:=Ac ac;have ao:=Ac ab;have an:=Ac ax;clear ac ab ax al))
   all_goals
    have HM:=Ac ((Aa ak).more (Aa au).D7 (Aa ar) (Aa ao) (by have:=Aa an;simpa using this));clear ar ao an au ak;go_wp2;go_roundw
    case rel=>exact⟨k+1,_,_,_,_,by omega,by go_num,Aa HM⟩
    case measure=>simp[intOf];omega
  ·obtain rfl:k=N:=by omega
   go_wp2;go_returns;exact⟨_,_,_,_,_,_,cb,lb,bm,K,rfl,aa⟩
def newG(c:R.Cf):R.Wd:=⟨c,[],[],[],[],List.replicate c.Ad.toNat (R.FF 1 c.lines),[0,0,0],List.replicate 9 R.Cs,[]⟩
theorem ER{x:R.Cl}(h:(newG c).Ad[i]?=some x):i<c.Ad.toNat/\x=R.FF 1 c.lines:=by
 simp only[newG,List.getElem?_replicate]at h;split at h
 ·rename_i hi;cases h;exact⟨hi,rfl⟩
 ·cases h
theorem aa6(hc:R.BD c):R.Wf (newG c):=by
 have aa:=hc;unfold R.BD at aa;refine⟨hc,by simp[newG];omega,fun i x hx=>?_,by simp[newG],fun f hf=>by simp[newG]at hf,by simp[newG],fun s hs=>by simp[newG]at hs,by simp[newG],by simp[newG],by simp[newG],fun u hu=>by simp[newG]at hu⟩;obtain⟨_,rfl⟩:=ER hx;refine⟨by simp[R.FF,newG];omega,by simp[R.FF],fun u hu=>by simp[R.FF]at hu,fun k l hl=>?_⟩;simp only[R.FF,List.getElem?_replicate]at hl;split at hl
 ·cases hl;exact⟨by simp[R.JC],fun q=>by simp[R.JC]at q⟩
 ·cases hl
theorem LY{r:R.Sn}(h:(List.replicate 9 R.Cs)[i]?=some r):r.seq=0:=by
 rw[List.getElem?_replicate]at h;split at h
 ·cases h;rfl
 ·cases h
theorem aa7(hc:R.BD c):R.Md (newG c).c (newG c).Aj (newG c).seen (newG c).jobs:=R.ws0 c hc
theorem LW.made(hc:R.BD c){x:Nat}{cb lb bm:Nat->Nat}{K:Value}(h:NI w c A n s x nm jc c.Ad.toNat cb lb bm K w'):
  ∃p F,p.x=x/\LW p F (newG c) w'/\∀k,F k->w.heap.size<=k:=by
 have ad:=hc;unfold R.BD at ad;rcases h.row.2 with ⟨_,h0⟩|⟨g,cap,ac,rfl,_,hg,ae,_,ah,ag⟩
 ·omega
 ·have aa:(newG c).Ad.length=c.Ad.toNat:=by simp[newG]
  have lo:=h.lo;refine⟨⟨x,n,s,g,cap,nm,cb,lb,bm,sp0 jc⟩,fun k=>w.heap.size<=k/\k<w'.heap.size,rfl,⟨aa6 hc,aa7 hc,?_,?_,?_,?_,?_,fun i y hy=>?_,fun i y hy=>?_,fun i y hy=>?_,?_,fun i hi=>?_,fun i j hi hj af=>?_,fun k hk=>hk.2⟩,fun k hk=>hk.1⟩
  ·rw[aa];exact h.cx
  ·refine⟨ac,hg,fun i hi=>?_⟩;rw[aa]at hi;have e1:ac.toList[i]?=(cbs cb c.Ad.toNat)[i]?:=by
    rw[<-ag,List.getElem?_take,if_pos (by omega)]
   simp only[Array.getElem?_toList]at e1;rw[e1];simp[cbs,hi]
  ·exact⟨_,h.cn,World.ownsRow_nil _ _ _ _,fun j hj=>by cases hj⟩
  ·refine⟨h.cs,rfl,World.ownsRow_nil _ _ _ _,fun z hz=>by simp[sp0]at hz,fun i j z y hz=>by simp[sp0]at hz,fun i j z y hz=>by simp[sp0]at hz,fun i r hr ab=>?_,fun i j r r' hr ai ab=>?_,⟨0,0,h.cj⟩,⟨lo.2.2.1,lt_of_block h.cs⟩,⟨lo.2.2.2.2.2,(Array.getElem?_eq_some_iff.1 h.cj).1⟩,fun j hj=>by cases hj⟩
   ·exact absurd (LY hr) ab
   ·exact absurd (LY hr) ab
  ·exact h.names.congr (fun a=>by simp[AF,R.BI,newG])
  ·obtain⟨hi,rfl⟩:=ER hy;have:=(h.each i hi).2.1;simpa [Jn,R.FF,newG] using this
  ·obtain⟨hi,rfl⟩:=ER hy;refine⟨_,(h.each i hi).2.2.1,⟨by simp[R.FF],fun k l z hl hz=>?_⟩,fun k l z hl hz=>?_⟩;simp only[R.FF,List.getElem?_replicate]at hl hz;by_cases hk:k<c.lines.toNat
   ·rw[if_pos hk]at hl hz;cases hl;cases hz;exact⟨rfl,rfl,fun _=>rfl,fun q=>by simp[R.JC]at q,fun q=>by simp[R.JC]at q⟩
   ·rw[if_neg hk]at hl;cases hl
   simp only[R.FF,List.getElem?_replicate]at hl hz;by_cases hk:k<c.lines.toNat
   ·rw[if_pos hk]at hl hz;cases hl;cases hz;exact BF.nil _ _
   ·rw[if_neg hk]at hl;cases hl
  ·obtain⟨hi,rfl⟩:=ER hy;have:=(h.each i hi).2.2.2.1;exact this.congr (fun a=>by simp[BL,R.FF])
  ·exact⟨⟨lo.2.2.2.1,lt_of_block h.cx⟩,⟨lo.2.1,lt_of_block h.cn⟩,⟨h.kb g rfl,lt_of_block hg⟩,⟨lo.2.2.2.2.1,h.names.lt⟩⟩
  ·rw[aa]at hi;obtain⟨⟨a1,a2,a3⟩,b1,b2,b3,b4⟩:=h.each i hi;exact⟨⟨a1,lt_of_block b1⟩,⟨a2,lt_of_block b2⟩,⟨a3,b3.lt⟩,b4⟩
  ·rw[aa]at hi hj;exact h.inj i j hi hj af
theorem aa8(w:World)(c:R.Cf)(hc:R.BD c):
  Calls Tryz.prog 24 #[UK c.Ad c.lines c.Ay c.tries c.table] w fun e w'=>∃p F,e=.returned (.tuple #[ptr p.x,.int .i64 0])/\LW p F (newG c) w'/\(∀k,F k->w.heap.size<=k)/\Below w.heap.size w w':=by
 refine(YU w c hc).mono ?_;rintro e w' ⟨A,n,s,x,nm,jc,cb,lb,bm,K,rfl,h⟩;obtain⟨p,F,rfl,h1,h2⟩:=LW.made hc h;exact⟨p,F,rfl,h1,h2,h.below⟩
def In64(c:Int):Prop:=-9223372036854775808<=c/\c<=9223372036854775807
theorem A4(c:Int)(n:Nat)(hc:In64 c)(hn:0<n)(ac:n<=65536):∃k:Nat,k<n/\∀w,Calls Tryz.prog 27 #[.int .i64 c,.int .i64 n] w fun e w'=>e=.returned (.int .i64 k)/\w'=w:=by
 obtain⟨h1,h2⟩:=hc;have aa:¬(n:Int)=0:=by omega
 by_cases ab:c<0
 ·have h3:=Int.emod_nonneg (-(c+1)) aa;have h4:=Int.emod_lt_of_pos (-(c+1)) (show (0:Int)<n by omega);refine⟨((-(c+1)) % n).toNat,by omega,fun w=>?_⟩;have e:(-(c+1)).tmod n=(((-(c+1)) % n).toNat:Int):=by rw[Int.tmod_eq_emod_of_nonneg (by omega)];omega
  rw[Int.neg_tmod]at e;have HE:=Ac e;clear e h3 h4;go_enter Tryz.func27,Tryz.ntmps27;go_wp2
  go_ret
  rw[Aa HE];exact⟨rfl,rfl⟩
 ·have h3:=Int.emod_nonneg c aa;have h4:=Int.emod_lt_of_pos c (show (0:Int)<n by omega);obtain⟨k,hk⟩:∃k:Nat,c % n=(k:Int):=⟨(c % n).toNat,by omega⟩;refine⟨k,by omega,fun w=>?_⟩;have HE:=Ac hk;clear hk h3 h4;go_enter Tryz.func27,Tryz.ntmps27;go_wp2
  go_ret
  rw[Aa HE];exact⟨rfl,rfl⟩
def A6(k:Nat):List UInt8:=if k=0 then [115,117,109] else if k=1 then [119,97,108,108] else [100,114,97,119,101,114,115]
theorem Iq(k:Nat)(hk:k<3)(w:World):Calls Tryz.prog 49 #[.int .i64 (k:Int)] w fun e w'=>e=.returned (.string (str (A6 k)))/\w'=w:=by
 have h3:k=0\/k=1\/k=2:=by omega
 rcases h3 with rfl|rfl|rfl
 ·go_enter Tryz.func49,Tryz.ntmps49;go_wp2;go_returns;exact⟨rfl,rfl⟩
 ·go_enter Tryz.func49,Tryz.ntmps49;go_wp2;go_returns;exact⟨rfl,rfl⟩
 ·go_enter Tryz.func49,Tryz.ntmps49;go_wp2;go_returns;exact⟨rfl,rfl⟩
theorem M8(k:Nat):R.CZ (A6 k)=true:=by
 unfold A6;split
 ·decide
 ·split<;>decide
theorem YI(k:Nat):(A6 k).length<=8:=by
 unfold A6;split
 ·simp
 ·split<;>simp
theorem YH{j:Nat}(hi:i<3)(hj:j<3)(h:A6 i=A6 j):i=j:=by
 have h3:i=0\/i=1\/i=2:=by omega
 have h4:j=0\/j=1\/j=2:=by omega
 rcases h3 with rfl|rfl|rfl<;>rcases h4 with rfl|rfl|rfl<;>first|rfl|(simp[A6]at h)
theorem TW(a b r t tb:Int)(ha:In64 a)(hb:In64 b)(hr:In64 r)(ht:In64 t)(ak:In64 tb)(w:World):
  Calls Tryz.prog 16 #[UK a b r t tb] w fun e w'=>(∃c:R.Cf,R.BD c/\e=.returned (UK c.Ad c.lines c.Ay c.tries c.table))/\Below w.heap.size w w':=by
 obtain⟨a1,a2⟩:=ha;obtain⟨b1,b2⟩:=hb;obtain⟨r1,r2⟩:=hr;obtain⟨t1,t2⟩:=ht;obtain⟨q1,q2⟩:=ak;obtain⟨BX,ad⟩:∃BX,(w.alloc (.cells #[.int .i64 a,.int .i64 b,.int .i64 r,.int .i64 t,.int .i64 tb] 23)).alloc (.cells #[.int .i64 0,.int .i64 0,.int .i64 0,.int .i64 0,.int .i64 0] 23)=BX:=⟨_,rfl⟩;have HB:Hid (Below w.heap.size w BX):=by
  rw[<-ad];exact((Below.refl _ _).alloc (Nat.le_refl _) _).alloc (by simp) _
 have ac:BX.heap[w.heap.size]?=some (.cells #[.int .i64 a,.int .i64 b,.int .i64 r,.int .i64 t,.int .i64 tb] 23 (0,0)):=by
  rw[<-ad];exact(Below.heap_alloc _ _ _ (by simp)).trans (heap_alloc_new w _)
 have ab:BX.heap[w.heap.size+1]?=some (.cells #[.int .i64 0,.int .i64 0,.int .i64 0,.int .i64 0,.int .i64 0] 23 (0,0)):=by
  rw[<-ad];exact CM _ _ (by simp)
 have c0:BX.cell? ⟨w.heap.size,0,none⟩=some (.int .i64 a):=cell_of ac 0 _ rfl;have c1:BX.cell? ⟨w.heap.size,1,none⟩=some (.int .i64 b):=cell_of ac 1 _ rfl;have c2:BX.cell? ⟨w.heap.size,2,none⟩=some (.int .i64 r):=cell_of ac 2 _ rfl;have c3:BX.cell? ⟨w.heap.size,3,none⟩=some (.int .i64 t):=cell_of ac 3 _ rfl;have c4:BX.cell? ⟨w.heap.size,4,none⟩=some (.int .i64 tb):=cell_of ac 4 _ rfl;have d0:BX.cell? ⟨w.heap.size+1,0,none⟩=some (.int .i64 0):=cell_of ab 0 _ rfl;have d1:BX.cell? ⟨w.heap.size+1,1,none⟩=some (.int .i64 0):=cell_of ab 1 _ rfl;have d2:BX.cell? ⟨w.heap.size+1,2,none⟩=some (.int .i64 0):=cell_of ab 2 _ rfl;have d3:BX.cell? ⟨w.heap.size+1,3,none⟩=some (.int .i64 0):=cell_of ab 3 _ rfl;have d4:BX.cell? ⟨w.heap.size+1,4,none⟩=some (.int .i64 0):=cell_of ab 4 _ rfl;have z0:BX.frozen? ⟨w.heap.size+1,0,none⟩=false:=open_list ab;have z1:BX.frozen? ⟨w.heap.size+1,1,none⟩=false:=open_list ab;have z2:BX.frozen? ⟨w.heap.size+1,2,none⟩=false:=open_list ab;have z3:BX.frozen? ⟨w.heap.size+1,3,none⟩=false:=open_list ab;have z4:BX.frozen? ⟨w.heap.size+1,4,none⟩=false:=open_list ab;have m0:=lt_of_block ac;have m1:=lt_of_block ab;have aj:=Ac ad;obtain⟨k0,aq,P0⟩:=A4 (IntKind.i64.wrap (a-1)) 3 (by unfold In64;rw[IntKind.wrap_i64];omega) (by omega) (by omega);obtain⟨k1,ar,P1⟩:=A4 (IntKind.i64.wrap (b-1)) 3 (by unfold In64;rw[IntKind.wrap_i64];omega) (by omega) (by omega);obtain⟨k2,au,P2⟩:=A4 (IntKind.i64.wrap (r-1)) 8 (by unfold In64;rw[IntKind.wrap_i64];omega) (by omega) (by omega);obtain⟨k3,av,P3⟩:=A4 (IntKind.i64.wrap (t-1)) 6 (by unfold In64;rw[IntKind.wrap_i64];omega) (by omega) (by omega);obtain⟨k4,aw,P4⟩:=A4 (IntKind.i64.wrap (tb-1)) 9 (by unfold In64;rw[IntKind.wrap_i64];omega) (by omega) (by omega);have ae:=Ac P0;have af:=Ac P1;have ag:=Ac P2;have ah:=Ac P3;have ai:=Ac P4;have g0:IntKind.i64.wrap (1+(k0:Int))=1+(k0:Int):=by rw[IntKind.wrap_i64];omega
 have g1:IntKind.i64.wrap (1+(k1:Int))=1+(k1:Int):=by rw[IntKind.wrap_i64];omega
 have g2:IntKind.i64.wrap (1+(k2:Int))=1+(k2:Int):=by rw[IntKind.wrap_i64];omega
 have g3:IntKind.i64.wrap (1+(k3:Int))=1+(k3:Int):=by rw[IntKind.wrap_i64];omega
 have g4:IntKind.i64.wrap (1+(k4:Int))=1+(k4:Int):=by rw[IntKind.wrap_i64];omega
 obtain⟨A,hA⟩:∃A,A=IntKind.i64.wrap (a-1):=⟨_,rfl⟩;obtain⟨B,hB⟩:∃B,B=IntKind.i64.wrap (b-1):=⟨_,rfl⟩;obtain⟨C,hC⟩:∃C,C=IntKind.i64.wrap (r-1):=⟨_,rfl⟩;obtain⟨D,hD⟩:∃D,D=IntKind.i64.wrap (t-1):=⟨_,rfl⟩;obtain⟨E,hE⟩:∃E,E=IntKind.i64.wrap (tb-1):=⟨_,rfl⟩;rw[<-hA]at ae;rw[<-hB]at af;rw[<-hC]at ag;rw[<-hD]at ah;rw[<-hE]at ai;have al:=hA.symm;have am:=hB.symm;have an:=hC.symm;have ao:=hD.symm;have ap:=hE.symm;clear P0 P1 P2 P3 P4 hA hB hC hD hE ac ab ad a1 a2 b1 b2 r1 r2 t1 t2 q1 q2;go_enter Tryz.func16,Tryz.ntmps16;go_wp2_with fail
 rw[Aa aj];go_region_held3 (fun w'=>w'.cell? ⟨w.heap.size,0,none⟩=some (.int .i64 a)/\w'.cell? ⟨w.heap.size,1,none⟩=some (.int .i64 b)/\w'.cell? ⟨w.heap.size,2,none⟩=some (.int .i64 r)/\w'.cell? ⟨w.heap.size,3,none⟩=some (.int .i64 t)/\w'.cell? ⟨w.heap.size,4,none⟩=some (.int .i64 tb)) (go_keep)
  (first
   |(go_at_call 27;refine((Aa ae) _).mono ?_;clear ae;rintro e w1 ⟨rfl,aa⟩;rw[aa];clear aa)
   |(go_at_call 27;refine((Aa af) _).mono ?_;clear af;rintro e w1 ⟨rfl,aa⟩;rw[aa];clear aa)
   |(go_at_call 27;refine((Aa ag) _).mono ?_;clear ag;rintro e w1 ⟨rfl,aa⟩;rw[aa];clear aa)
   |(go_at_call 27;refine((Aa ah) _).mono ?_;clear ah;rintro e w1 ⟨rfl,aa⟩;rw[aa];clear aa)
   |(go_at_call 27;refine((Aa ai) _).mono ?_;clear ai;rintro e w1 ⟨rfl,aa⟩;rw[aa];clear aa))
 have HW:Hid (∀v0 v1 v2 v3 v4,Below w.heap.size w (((((BX.setCell ⟨w.heap.size+1,0,none⟩ v0).setCell ⟨w.heap.size+1,1,none⟩ v1).setCell ⟨w.heap.size+1,2,none⟩ v2).setCell ⟨w.heap.size+1,3,none⟩ v3).setCell ⟨w.heap.size+1,4,none⟩ v4).drew):=fun v0 v1 v2 v3 v4=>(((((((Aa HB).setCell (by simp) _).setCell (by simp) _).setCell (by simp) _).setCell (by simp) _).setCell (by simp) _)).drew
 go_wp2;exact bodyPost_ret (v:=UK (1+(k0:Int)) (1+(k1:Int)) (1+(k2:Int)) (1+(k3:Int)) (1+(k4:Int))) (by simp[results,Tryz.results16,go_sem,d0,d1,d2,d3,d4]) rfl ⟨⟨⟨1+(k0:Int),1+(k1:Int),1+(k2:Int),1+(k3:Int),1+(k4:Int)⟩,by unfold R.BD;simp only;omega,rfl⟩,(Aa HW) _ _ _ _ _⟩
end Go.Proofs.YtblomippkddgiabGreatDoor
