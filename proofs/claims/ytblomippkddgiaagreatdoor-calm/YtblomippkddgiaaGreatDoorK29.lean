import Derived.Test.YtblomippkddgiaaGreatDoorK28
set_option maxRecDepth 100000
set_option maxHeartbeats 4000000
namespace Go.Proofs.YtblomippkddgiaaGreatDoor
open Go.RowKit
def EP(c:R.Cf):Nat->R.Wd
 |0=>newG c
 |k+1=>Bw (EP c k) (Ch k) k
def Ef(k:Nat):List Int:=[if 0<k then 1 else 0,if 1<k then 2 else 0,if 2<k then 3 else 0]
theorem Yr(k:Nat):(Ef k).length=3:=rfl
theorem ZS{k:Nat}(h:k<3):(Ef k)[k]?=some 0:=by
 have h3:k=0\/k=1\/k=2:=by omega
 rcases h3 with rfl|rfl|rfl<;>rfl
theorem Ys{k:Nat}(h:k<3):(Ef k).set k ((k:Int)+1)=Ef (k+1):=by
 have h3:k=0\/k=1\/k=2:=by omega
 rcases h3 with rfl|rfl|rfl<;>rfl
theorem E0(c:R.Cf):∀k,(EP c k).names=(List.range k).map Ch
 |0=>rfl
 |k+1=>by
  show (EP c k).names++[Ch k]=_;rw[E0 c k,List.range_succ,List.map_append];rfl
theorem Cg(c:R.Cf):∀k,(EP c k).Ac=(List.range k).map fun (i:Nat)=>(⟨(i:Int),true,[]⟩:R.Sv)
 |0=>rfl
 |k+1=>by
  show (EP c k).Ac++[⟨(k:Int),true,[]⟩]=_;rw[Cg c k,List.range_succ,List.map_append];rfl
theorem Kb(c:R.Cf):∀k,(EP c k).stands=(List.range k).map fun (i:Nat)=>(i:Int)+1
 |0=>rfl
 |k+1=>by
  show (EP c k).stands++[((EP c k).Ac.length:Int)+1]=_;rw[Kb c k,Cg,List.range_succ,List.map_append];simp
theorem Jk(c:R.Cf):∀k,(EP c k).Ad=(newG c).Ad
 |0=>rfl
 |k+1=>Jk c k
theorem OX(c:R.Cf){k:Nat}(h:k<3):¬Ch k∈(EP c k).names:=by
 rw[E0];intro hm;obtain⟨i,hi,e⟩:=List.mem_map.1 hm;have hik:=List.mem_range.1 hi;have:=W7 (by omega) h e;omega
theorem IR(c:R.Cf){k:Nat}(h:k<3):Bc (EP c 3) (Ch k)=some ((k:Int)+1):=by
 unfold Bc R.Dg;rw[E0,Kb];have h3:k=0\/k=1\/k=2:=by omega
 rcases h3 with rfl|rfl|rfl<;>rfl
theorem MW(c:R.Cf){k:Nat}(h:k<3):kindOf (EP c 3) ((k:Int)+1)=(k:Int):=by
 unfold kindOf;rw[Cg];have h3:k=0\/k=1\/k=2:=by omega
 rcases h3 with rfl|rfl|rfl<;>rfl
def CS(c:R.Cf):Nat->R.Wd
 |0=>EP c 3
 |i+1=>C4 (CS c i) i (Ef 3) 3
theorem Gh(c:R.Cf)(n:List UInt8):∀i,Bc (CS c i) n=Bc (EP c 3) n
 |0=>rfl
 |i+1=>(Fg _ _ _ n 3).trans (Gh c n i)
theorem JK(c:R.Cf)(n:Int):∀i,kindOf (CS c i) n=kindOf (EP c 3) n
 |0=>rfl
 |i+1=>(II _ _ _ n 3).trans (JK c n i)
theorem Ex(c:R.Cf):∀i,(CS c i).Ad.length=(newG c).Ad.length
 |0=>by show (EP c 3).Ad.length=_;rw[Jk]
 |i+1=>(Ic _ _ _ 3).trans (Ex c i)
theorem QT{w0 W W4:World}{p:Pl}{F:Aq}{c:R.Cf}{r lf sq ud:Nat}{N:Nat}(hw:LW p F (newG c) W)(hF:∀k,F k->w0.heap.size<=k)(hb0:Below w0.heap.size w0 W)(ht:DU W)(hp:0<w0.heap.size)(hb:Below W.heap.size W W4)
  (h1:W4.heap[r]?=some (.cells (FG ⟨r,p.x,lf,sq,ud⟩ c ⟨List.replicate N 0,List.replicate (3*N) 0,Ef 0,0,.slice none 0 0,.slice none 0 0,.slice none 0 0,[],[],[]⟩) 38 (0,0)))
  (h2:W4.heap[lf]?=some (.cells (ints (List.replicate N 0)).toArray 3 (0,0))) (h3:W4.heap[sq]?=some (.cells (ints (List.replicate (3*N) 0)).toArray 3 (0,0))) (h4:W4.heap[ud]?=some (.cells (ints [0,0,0]).toArray 3 (0,0)))
  (g1:W.heap.size<=r) (g2:W.heap.size<=lf) (g3:W.heap.size<=sq) (g4:W.heap.size<=ud) (n1:lf≠sq) (n2:lf≠ud) (n3:sq≠ud):
  A9 w0 ⟨r,p.x,lf,sq,ud⟩ p c ⟨List.replicate N 0,List.replicate (3*N) 0,Ef 0,0,.slice none 0 0,.slice none 0 0,.slice none 0 0,[],[],[]⟩ (newG c) W4:=by
 have s0:=hb0.size;have s1:=hb.size;refine⟨⟨p.t,fun k=>W.heap.size<=k/\k<W4.heap.size,F,⟨h1,h2,h3,h4,World.ownsRow_nil _ _ _ _,World.ownsRow_nil _ _ _ _,World.ownsRow_nil _ _ _ _,by simp,⟨⟨g1,lt_of_block h1⟩,⟨g2,lt_of_block h2⟩,⟨g3,lt_of_block h3⟩,⟨g4,lt_of_block h4⟩⟩,fun j hj=>?_,⟨n1,n2,n3⟩,?_,?_,(fun j hj=>by cases hj),(fun k hk=>hk.2)⟩,hw.below hb,fun k hk hf=>?_,fun k hk=>?_⟩,rfl,ht.below hb,hb0.trans (hb.mono s0),hp⟩
 ·rcases hj with e|e|e<;>cases e
 ·refine⟨fun e=>?_,fun e=>?_,fun e=>?_⟩<;>cases e
 ·refine⟨fun e=>?_,fun e=>?_,fun e=>?_⟩<;>cases e
 ·have:=hw.lt k hf;omega
 ·rcases hk with hk|hk
  ·omega
  ·exact hF k hk
theorem A4{W:World}{a b c d:Obj}:((((W.alloc a).alloc b).alloc c).alloc d).drew.heap[W.heap.size]?=some a/\((((W.alloc a).alloc b).alloc c).alloc d).drew.heap[W.heap.size+1]?=some b/\((((W.alloc a).alloc b).alloc c).alloc d).drew.heap[W.heap.size+1+1]?=some c/\((((W.alloc a).alloc b).alloc c).alloc d).drew.heap[W.heap.size+1+1+1]?=some d/\Below W.heap.size W ((((W.alloc a).alloc b).alloc c).alloc d).drew:=by
 have e1:(W.alloc a).heap.size=W.heap.size+1:=by simp
 have e2:((W.alloc a).alloc b).heap.size=W.heap.size+1+1:=by simp
 have e3:(((W.alloc a).alloc b).alloc c).heap.size=W.heap.size+1+1+1:=by simp
 refine⟨?_,?_,?_,?_,?_⟩
 ·rw[EO,Below.heap_alloc _ _ _ (by omega),Below.heap_alloc _ _ _ (by omega),Below.heap_alloc _ _ _ (by omega)];exact CH _ _ rfl
 ·rw[EO,Below.heap_alloc _ _ _ (by omega),Below.heap_alloc _ _ _ (by omega)];exact CH _ _ e1
 ·rw[EO,Below.heap_alloc _ _ _ (by omega)];exact CH _ _ e2
 ·rw[EO];exact CH _ _ e3
 ·exact((((Below.refl _ _).alloc (Nat.le_refl _) _).alloc (by omega) _).alloc (by omega) _ |>.alloc (by omega) _).drew
theorem JP(n:Nat)(hn:n=1\/n=2\/n=3\/n=6\/n=9)(W:World):(Instr.makeSlice 35 (.int .i64 (n:Int)) (.int .i64 (n:Int))).run Tryz.prog W=.ok (.slice (some ⟨W.heap.size,0,none⟩) n n) (W.alloc (.cells (ints (List.replicate n 0)).toArray 3)):=by
 rcases hn with rfl|rfl|rfl|rfl|rfl
 ·show _=_;kernel_rfl
 ·show _=_;kernel_rfl
 ·show _=_;kernel_rfl
 ·show _=_;kernel_rfl
 ·show _=_;kernel_rfl
def FL(k:Nat):List Int:=List.replicate k (-1)
def GM(k:Nat):List Int:=(List.range k).map fun (i:Nat)=>(i:Int)
theorem Q8(k:Nat):FL k++[-1]=FL (k+1):=by simp[FL,List.replicate_succ']
theorem RD(k:Nat):GM k++[(k:Int)]=GM (k+1):=by simp[GM,List.range_succ]
theorem Ui(k:Nat):(FL k).length=k:=by simp[FL]
theorem UA(k:Nat):(GM k).length=k:=by simp[GM]
theorem Zz{L:List Int}{N:Nat}(h:L.length=N)(h1:∀j,j<N->L[j]?=some 1):L=List.replicate N 1:=by
 refine List.ext_getElem? (fun j=>?_);by_cases hj:j<N
 ·rw[h1 j hj,List.getElem?_replicate,if_pos hj]
 ·rw[List.getElem?_eq_none (by omega),List.getElem?_eq_none (by simp;omega)]
theorem QS{w0 W W4:World}{p:Pl}{F:Aq}{c:R.Cf}{r lf sq ud:Nat}{N:Nat}{LA LB LC:Array Value}(hA:LA=(ints (List.replicate N 0)).toArray)(hB:LB=(ints (List.replicate (3*N) 0)).toArray)(hC:LC=(ints (List.replicate 3 0)).toArray)(hw:LW p F (newG c) W)(hF:∀k,F k->w0.heap.size<=k)(hb0:Below w0.heap.size w0 W)(ht:DU W)(hp:0<w0.heap.size)(hb:Below W.heap.size W W4)
  (h1:W4.heap[r]?=some (.cells #[ptr p.x,.int .i64 c.Ad,.int .i64 c.lines,.int .i64 c.Be,.int .i64 c.tries,.int .i64 c.table,.slice (some ⟨lf,0,none⟩) N N,.slice (some ⟨sq,0,none⟩) (3*N) (3*N),.slice (some ⟨ud,0,none⟩) 3 3,.slice none 0 0,.int .i64 0,.slice none 0 0,.slice none 0 0] 38 (0,0)))
  (h2:W4.heap[lf]?=some (.cells LA 3 (0,0))) (h3:W4.heap[sq]?=some (.cells LB 3 (0,0))) (h4:W4.heap[ud]?=some (.cells LC 3 (0,0)))
  (g1:W.heap.size<=r) (g2:W.heap.size<=lf) (g3:W.heap.size<=sq) (g4:W.heap.size<=ud) (n1:lf≠sq) (n2:lf≠ud) (n3:sq≠ud):
  ∃q,q.r=r/\q.x=p.x/\∃L,L.length=N/\A9 w0 q p c ⟨L,List.replicate (3*N) 0,Ef 0,0,.slice none 0 0,.slice none 0 0,.slice none 0 0,[],[],[]⟩ (newG c) W4:=by
 refine⟨_,rfl,rfl,List.replicate N 0,by simp,QT hw hF hb0 ht hp hb (by rw[h1];simp[FG,Ef]) (by rw[h2,hA]) (by rw[h3,hB]) (by rw[h4,hC];rfl) g1 g2 g3 g4 n1 n2 n3⟩
theorem A9.base{w0 wB:World}{q:RP}{p:Pl}{c:R.Cf}{s:RS}{G:R.Wd}{w:World}(h:A9 wB q p c s G w)(hb:Below w0.heap.size w0 wB)(hp:0<w0.heap.size):A9 w0 q p c s G w:=by
 obtain⟨tp,E,F,hr,hw,hd,hlo⟩:=h.run;have:=hb.size;exact⟨⟨tp,E,F,hr,hw,hd,fun k hk=>by have:=hlo k hk;omega⟩,h.x,h.t0,hb.trans (h.below.mono hb.size),hp⟩
theorem D7{f:World->Prop}{W:World}(P:World->Prop)(hP:P W)(h:∀W',P W'->f W'):f W:=h W hP
theorem TX(w0 w:World)(c:R.Cf)(hc:R.BL c)(hb0:Below w0.heap.size w0 w)(ht:DU w)(hp:0<w0.heap.size):
  Calls Tryz.prog 10 #[Uc c.Ad c.lines c.Be c.tries c.table] w fun e w'=>∃q p D K,e=.returned (ptr q.r)/\A9 w0 q p c ⟨List.replicate c.Ad.toNat 1,List.replicate (3*c.Ad.toNat) 0,Ef 3,3,.slice none 0 0,D,K,[],FL 3,GM 3⟩ (CS c c.Ad.toNat) w':=by
 have HNW:=Ab (fun w=>Zs w c hc);have hc':=hc;unfold R.BL at hc';obtain⟨N,hN⟩:∃N:Nat,c.Ad=(N:Int):=⟨c.Ad.toNat,by omega⟩;have hN2:c.Ad.toNat=N:=by omega
 have hlenC:(newG c).Ad.length=N:=by simp[newG,hN2]
 rw[hN2];have hN3:N=1\/N=2\/N=3:=by omega
 have hm1:=JP N (by omega);have hm2:=JP (3*N) (by omega);have hm3:=JP 3 (by omega);rw[show ((3*N:Nat):Int)=3*(N:Int) by omega]at hm2;rw[show ((3:Nat):Int)=3 from rfl]at hm3;have e3:IntKind.i64.wrap (3*(N:Int))=3*(N:Int):=by rw[IntKind.wrap_i64];omega
 obtain⟨LA,hLA⟩:∃LA,LA=(ints (List.replicate N 0)).toArray:=⟨_,rfl⟩;obtain⟨LB,hLB⟩:∃LB,LB=(ints (List.replicate (3*N) 0)).toArray:=⟨_,rfl⟩;obtain⟨LC,hLC⟩:∃LC,LC=(ints (List.replicate 3 0)).toArray:=⟨_,rfl⟩;rw[<-hLA]at hm1;rw[<-hLB]at hm2;rw[<-hLC]at hm3;have HBG:Hid (∀{wB:World} {p:Pl} {F:Aq} {W W4:World} {r lf sq ud:Nat},LW p F (newG c) W->0<wB.heap.size->(∀k,F k->wB.heap.size<=k)->Below wB.heap.size wB W->DU W->Below W.heap.size W W4->W4.heap[r]?=some (.cells #[ptr p.x,.int .i64 (N:Int),.int .i64 c.lines,.int .i64 c.Be,.int .i64 c.tries,.int .i64 c.table,.slice (some ⟨lf,0,none⟩) N N,.slice (some ⟨sq,0,none⟩) (3*N) (3*N),.slice (some ⟨ud,0,none⟩) 3 3,.slice none 0 0,.int .i64 0,.slice none 0 0,.slice none 0 0] 38 (0,0))->W4.heap[lf]?=some (.cells LA 3 (0,0))->W4.heap[sq]?=some (.cells LB 3 (0,0))->W4.heap[ud]?=some (.cells LC 3 (0,0))->W.heap.size<=r->W.heap.size<=lf->W.heap.size<=sq->W.heap.size<=ud->lf≠sq->lf≠ud->sq≠ud->∃q,q.r=r/\q.x=p.x/\∃L,L.length=N/\A9 wB q p c ⟨L,List.replicate (3*N) 0,Ef 0,0,.slice none 0 0,.slice none 0 0,.slice none 0 0,[],[],[]⟩ (newG c) W4):=
  fun {wB p F W W4 r lf sq ud} a1 a0 a2 a3 a4 a5 a6=>QS hLA hLB hLC a1 a2 a3 a4 a0 a5 (by rw[hN];exact a6)
 rw[hN]at HNW;rw[hN];have H20:Hid (∀(wB:World) (q:RP) (p:Pl) (L:List Int) (D K:Value) (k:Nat) (wr:World),k<3->A9 wB q p c ⟨L,List.replicate (3*N) 0,Ef k,(k:Int),.slice none 0 0,D,K,[],FL k,GM k⟩ (EP c k) wr->Calls Tryz.prog 28 #[ptr q.r,.int .i64 (k:Int)] wr fun e w'=>e=.returned (.bool true)/\∃D K,A9 wB q p c ⟨L,List.replicate (3*N) 0,Ef (k+1),((k+1:Nat):Int),.slice none 0 0,D,K,[],FL (k+1),GM (k+1)⟩ (EP c (k+1)) w'):=fun wB q p L D K k wr hk hB=>by
  have:=O7 wB q p c _ _ wr k hk hB (Yr k) (ZS hk) (by simp[Cg]) (OX c hk) (by rw[E0];simp;omega) (by rw[Cg];simp;omega) (by simp only[Ui];omega) (by simp only[UA];omega);simp only[Ys hk,Q8,RD]at this;rw[show ((k+1:Nat):Int)=(k:Int)+1 by omega];exact this
 have H21:Hid (∀(wB:World) (q:RP) (p:Pl) (s:RS) (i:Nat) (wr:World),i<N->s.uid=Ef 3->A9 wB q p c s (CS c i) wr->Calls Tryz.prog 29 #[ptr q.r,.int .i64 (i:Int)] wr fun e w'=>e=.returned (.bool true)/\A9 wB q p c s (CS c (i+1)) w'):=fun wB q p s i wr hi hu hB=>by
  have:=VT wB q p c s (CS c i) wr i hB (by rw[Ex,hlenC];exact hi) (by rw[hu];rfl) (fun k hk=>⟨(k:Int)+1,by
   rw[hu];have h3:k=0\/k=1\/k=2:=by omega
   rcases h3 with rfl|rfl|rfl<;>rfl,by rw[Gh];exact IR c hk,by rw[JK];exact MW c hk⟩)
  rw[hu]at this;exact this
 have HCL:=Ab hlenC;clear hLA hLB hLC hc hN2 hN3 hlenC;obtain⟨cl,ln,rt,tr,tb⟩:=c;simp only at hN hc' HNW HBG ⊢;subst hN;obtain⟨BX,hBX⟩:∃BX,w.alloc (.cells #[.int .i64 (N:Int),.int .i64 ln,.int .i64 rt,.int .i64 tr,.int .i64 tb] 26)=BX:=⟨_,rfl⟩;have HB:Hid (Below w.heap.size w BX):=by
  rw[<-hBX];exact(Below.refl _ _).alloc (Nat.le_refl _) _
 have hbx:BX.heap[w.heap.size]?=some (.cells #[.int .i64 (N:Int),.int .i64 ln,.int .i64 rt,.int .i64 tr,.int .i64 tb] 26 (0,0)):=by
  rw[<-hBX];exact heap_alloc_new w _
 have hlx:=lt_of_block hbx;have k0:BX.cell? ⟨w.heap.size,0,none⟩=some (.int .i64 (N:Int)):=cell_of hbx 0 _ rfl;have HK0:=Ab k0;clear k0;have HBX:=Ab hBX;have HCB:=Ab hbx;have HB0:=Ab hb0;have HT:=Ab ht;clear hBX hbx hb0 ht;go_enter Tryz.func10,Tryz.ntmps10;go_wp2_with fail
 rw[Aa HBX];refine((Aa HNW) _).mono ?_;rintro e w1 ⟨p,F,rfl,hW,hF,hb1⟩;have HC1:=Ab ((hb1.block w.heap.size hlx).trans (Aa HCB));have c0:w1.cell? ⟨w.heap.size,0,none⟩=some (.int .i64 (N:Int)):=cell_of (Aa HC1) 0 _ rfl;have c1:w1.cell? ⟨w.heap.size,1,none⟩=some (.int .i64 ln):=cell_of (Aa HC1) 1 _ rfl;have c2:w1.cell? ⟨w.heap.size,2,none⟩=some (.int .i64 rt):=cell_of (Aa HC1) 2 _ rfl;have c3:w1.cell? ⟨w.heap.size,3,none⟩=some (.int .i64 tr):=cell_of (Aa HC1) 3 _ rfl;have c4:w1.cell? ⟨w.heap.size,4,none⟩=some (.int .i64 tb):=cell_of (Aa HC1) 4 _ rfl;have m0:=lt_of_block (Aa HC1);have H10:=Ab hb1;have HT1:=Ab (((Aa HT).below (Aa HB)).below hb1);have HFF:=Ab hF;have hpB:0<BX.heap.size:=Nat.lt_of_le_of_lt (Nat.zero_le _) hlx;have HW1:=Ab hW;have hq:∀w,(binOp .eql 34 (ptr p.x) (.pointer none)).run Tryz.prog w=.ok (.bool false) w:=fun w=>by kernel_rfl
 clear hb1 hF hW HNW;have HKP:Hid (∀w',Below w1.heap.size w1 w'->w'.cell? ⟨w.heap.size,0,none⟩=some (.int .i64 (N:Int))/\w'.cell? ⟨w.heap.size,1,none⟩=some (.int .i64 ln)/\w'.cell? ⟨w.heap.size,2,none⟩=some (.int .i64 rt)/\w'.cell? ⟨w.heap.size,3,none⟩=some (.int .i64 tr)/\w'.cell? ⟨w.heap.size,4,none⟩=some (.int .i64 tb)):=fun w' hb=>⟨(hb.cell (p:=⟨w.heap.size,0,none⟩) m0).trans c0,(hb.cell (p:=⟨w.heap.size,1,none⟩) m0).trans c1,(hb.cell (p:=⟨w.heap.size,2,none⟩) m0).trans c2,(hb.cell (p:=⟨w.heap.size,3,none⟩) m0).trans c3,(hb.cell (p:=⟨w.heap.size,4,none⟩) m0).trans c4⟩
 go_wp2;go_region_held3 (fun w'=>w'.cell? ⟨w.heap.size,0,none⟩=some (.int .i64 (N:Int))/\w'.cell? ⟨w.heap.size,1,none⟩=some (.int .i64 ln)/\w'.cell? ⟨w.heap.size,2,none⟩=some (.int .i64 rt)/\w'.cell? ⟨w.heap.size,3,none⟩=some (.int .i64 tr)/\w'.cell? ⟨w.heap.size,4,none⟩=some (.int .i64 tb)) ((refine(Aa HKP) _ ?_;repeat (first|exact Below.refl _ _|refine Below.drew ?_|refine Below.alloc ?_ (by simp;try omega) _))) (fail)
 all_goals
  refine D7 (fun W=>∃q:RP,q.r=w1.heap.size+1+1+1/\q.x=p.x/\∃L:List Int,L.length=N/\A9 BX q p ⟨(N:Int),ln,rt,tr,tb⟩ ⟨L,List.replicate (3*N) 0,Ef 0,0,.slice none 0 0,.slice none 0 0,.slice none 0 0,[],[],[]⟩ (newG ⟨(N:Int),ln,rt,tr,tb⟩) W) ?_ ?_
  ·first
    |exact(Aa HBG) (Aa HW1) hpB (Aa HFF) (Aa H10) (Aa HT1) A4.2.2.2.2 A4.2.2.2.1 A4.1 A4.2.1 A4.2.2.1 (by omega) (by omega) (by omega) (by omega) (by omega) (by omega) (by omega)
    |exact(Aa HBG) (Aa HW1) hpB (Aa HFF) (Aa H10) (Aa HT1) A4.2.2.2.2 A4.2.2.2.1 A4.1 A4.2.2.1 A4.2.1 (by omega) (by omega) (by omega) (by omega) (by omega) (by omega) (by omega)
    |exact(Aa HBG) (Aa HW1) hpB (Aa HFF) (Aa H10) (Aa HT1) A4.2.2.2.2 A4.2.2.2.1 A4.2.1 A4.1 A4.2.2.1 (by omega) (by omega) (by omega) (by omega) (by omega) (by omega) (by omega)
    |exact(Aa HBG) (Aa HW1) hpB (Aa HFF) (Aa H10) (Aa HT1) A4.2.2.2.2 A4.2.2.2.1 A4.2.1 A4.2.2.1 A4.1 (by omega) (by omega) (by omega) (by omega) (by omega) (by omega) (by omega)
    |exact(Aa HBG) (Aa HW1) hpB (Aa HFF) (Aa H10) (Aa HT1) A4.2.2.2.2 A4.2.2.2.1 A4.2.2.1 A4.1 A4.2.1 (by omega) (by omega) (by omega) (by omega) (by omega) (by omega) (by omega)
    |exact(Aa HBG) (Aa HW1) hpB (Aa HFF) (Aa H10) (Aa HT1) A4.2.2.2.2 A4.2.2.2.1 A4.2.2.1 A4.2.1 A4.1 (by omega) (by omega) (by omega) (by omega) (by omega) (by omega) (by omega)
  ·clear c0 c1 c2 c3 c4 HKP hm1 hm2 hm3 HW1 HFF H10 HT1 HC1 m0;rintro W4 ⟨q,hqr,hqx,L,hL,hBo⟩;rw[<-hqr];have HBo:=Ab hBo;have HL0:=Ab hL;have HA0:Hid (∀s G wr,A9 BX q p ⟨(N:Int),ln,rt,tr,tb⟩ s G wr->wr.cell? ⟨w.heap.size,0,none⟩=some (.int .i64 (N:Int))):=fun s G wr hB=>(hB.below.cell (p:=⟨w.heap.size,0,none⟩) hlx).trans (Aa HK0)
   have hcA:=(Aa HA0) _ _ _ hBo;clear hBo hL hqr hqx HBG;go_wp2;go_loopw [6] (fun iv wr=>∃(i:Nat) (L:List Int),i<=N/\iv=.int .i64 i/\(L.length=N/\∀j,j<i->L[j]?=some 1)/\A9 BX q p ⟨(N:Int),ln,rt,tr,tb⟩ ⟨L,List.replicate (3*N) 0,Ef 0,0,.slice none 0 0,.slice none 0 0,.slice none 0 0,[],[],[]⟩ (newG ⟨(N:Int),ln,rt,tr,tb⟩) wr) (fun iv _=>N-(intOf iv).toNat)
   case atStart=>exact⟨0,L,Nat.zero_le _,rfl,⟨Aa HL0,fun j hj=>by omega⟩,Aa HBo⟩
   case round=>
    obtain⟨i,L1,hi,rfl,⟨hL1,hO1⟩,hB⟩:=hrel;have HO1:Hid (∀j,j<i->L1[j]?=some 1):=hO1;clear hO1;have hA1:=(Aa HA0) _ _ _ hB;by_cases hlt:i<N
    ·have y6:=hB.cells.a6;obtain⟨x0,hx0⟩:∃x0,L1[i]?=some x0:=⟨_,List.getElem?_eq_getElem (by omega)⟩;have yl:=hB.cells.lf i x0 hx0;have yz:=hB.cells.zl i;have yr:=hB.cells.RN;simp only[hL1]at y6;have HB2:=Ab (hB.acP i 1);have hlf:=lt_of_cell yl;have HL1:=Ab hL1;clear hB hL1 hcA hx0;go_wp2;go_roundw
     case rel=>exact⟨i+1,L1.set i 1,by omega,by go_num,⟨by simpa using Aa HL1,fun j hj=>by
      rw[List.getElem?_set];split
      ·rw[if_pos (by have:=Aa HL1;omega)]
      ·exact(Aa HO1) j (by omega)⟩,Aa HB2⟩
     case measure=>simp[intOf];omega
    ·obtain rfl:i=N:=by omega
     have hLr:=Zz hL1 (Aa HO1);rw[hLr]at hB;have HB3:=Ab hB;clear hB hL1 hcA HO1 hLr L1;go_wp2;go_loopw [7] (fun kv wr=>∃(k:Nat) (D K:Value),k<=3/\kv=.int .i64 k/\A9 BX q p ⟨(i:Int),ln,rt,tr,tb⟩ ⟨List.replicate i 1,List.replicate (3*i) 0,Ef k,(k:Int),.slice none 0 0,D,K,[],FL k,GM k⟩ (EP ⟨(i:Int),ln,rt,tr,tb⟩ k) wr) (fun kv _=>3-(intOf kv).toNat)
     case atStart=>exact⟨0,_,_,by omega,rfl,Aa HB3⟩
     case round=>
      obtain⟨k,D,K,hk,rfl,hB⟩:=hrel;by_cases hlt2:k<3
      ·have HC:=Ab ((Aa H20) BX q p _ D K k _ hlt2 hB);clear hB hA1;go_wp2_with (first|(go_at_call 28;refine(Aa HC).mono ?_;rintro e w5 ⟨rfl,D2,K2,hB2⟩))
       go_roundw
       case rel=>exact⟨k+1,D2,K2,by omega,by go_num,hB2⟩
       case measure=>simp[intOf];omega
      ·have hk3:k=3:=by omega
       have hA2:=(Aa HA0) _ _ _ hB;rw[hk3]at hB;have HB4:=Ab hB;clear hB hk3;go_wp2;go_loopw [9] (fun iv wr=>∃j:Nat,j<=i/\iv=.int .i64 j/\A9 BX q p ⟨(i:Int),ln,rt,tr,tb⟩ ⟨List.replicate i 1,List.replicate (3*i) 0,Ef 3,3,.slice none 0 0,D,K,[],FL 3,GM 3⟩ (CS ⟨(i:Int),ln,rt,tr,tb⟩ j) wr) (fun iv _=>i-(intOf iv).toNat)
       case atStart=>exact⟨0,Nat.zero_le _,rfl,Aa HB4⟩
       case round=>
        obtain⟨j,hj,rfl,hB⟩:=hrel;have hA3:=(Aa HA0) _ _ _ hB;by_cases hlt3:j<i
        ·have HC:=Ab ((Aa H21) BX q p _ j _ hlt3 rfl hB);clear hB hA2;go_wp2_with (first|(go_at_call 29;refine(Aa HC).mono ?_;rintro e w5 ⟨rfl,hB2⟩))
         go_roundw
         case rel=>exact⟨j+1,by omega,by go_num,hB2⟩
         case measure=>simp[intOf];omega
        ·obtain rfl:j=i:=by omega
         have HB5:=Ab (hB.base ((Aa HB0).trans ((Aa HB).mono (Aa HB0).size)) hp);clear hB;go_wp2;go_returns;exact⟨q,p,D,K,rfl,Aa HB5⟩
def e0:ByteArray:=⟨#[]⟩
structure Fits(T:ByteArray)(v:List V.It):Prop where
 G8:(V.Pt.G8 (V.nx T) T.size).1=0
 zero:(V.Cn T v).1=0
 len:(V.Cn T v).2.length<=70
 few:v.length<=9000000000000
theorem NN{T:ByteArray}{v:List V.It}{ks:List Bool}(hc:(V.Pt.G8 (V.nx T) T.size).1=0)(he:V.Ct (V.nx T) (T.size+1) 0 v=some (ks,[]))(hb:(V.bytesOf ks v).length<=70)(hf:v.length<=100):Fits T v:=by
 have e1:V.Cn T v=(0,V.bytesOf ks v):=by
  unfold V.Cn;rw[if_pos hc,he];unfold V.H9;simp only;rw[if_pos trivial,if_neg (by omega)]
 exact⟨hc,by rw[e1],by rw[e1];exact hb,by omega⟩
theorem Gp{g:Nat->Nat}{f p:Nat}{n:Int}{r:List V.It}(h1:g p≠97)(h2:g p≠114)(h3:g p≠115)(h4:g p≠117)(h5:g p≠113)(hl:V.CG (g p)<=n)(hh:n<=V.BO g f p):V.Ct g (f+1) p ((n,e0) :: r)=some ([false],r):=by
 have e:V.AF g f p ((n,e0) :: r)=some ([false],[],r):=by
  unfold V.AF;rw[if_neg h1,if_neg h2];simp only;rw[if_neg h3,if_pos ⟨rfl,hl,hh⟩,if_neg h4,if_neg h5]
 show (match V.AF g f p ((n,e0) :: r) with
  |none=>none
  |some (k0,qs,r)=>V.BS k0 (V.BG (V.Ct g f) qs r))=_
 rw[e];rfl
theorem abP{g:Nat->Nat}{f p:Nat}{n:Int}{r:List V.It}(h5:g p=113)(hl:0<=n)(hh:n<=V.BO g f p):V.Ct g (f+1) p ((n,e0) :: r)=V.BS [false] (V.BG (V.Ct g f) (List.replicate n.toNat (p+2)) r):=by
 have e:V.AF g f p ((n,e0) :: r)=some ([false],List.replicate n.toNat (p+2),r):=by
  unfold V.AF;rw[if_neg (by omega),if_neg (by omega)];simp only;rw[if_neg (by omega),if_pos ⟨rfl,by unfold V.CG;rw[if_neg (by omega)];exact hl,hh⟩,if_neg (by omega),if_pos h5]
 show (match V.AF g f p ((n,e0) :: r) with
  |none=>none
  |some (k0,qs,r)=>V.BS k0 (V.BG (V.Ct g f) qs r))=_
 rw[e]
theorem abQ{g:Nat->Nat}{f p:Nat}{v:List V.It}(h:g p=114):V.Ct g (f+1) p v=V.BS [] (V.BG (V.Ct g f) (V.Pt.kids g f p) v):=by
 have e:V.AF g f p v=some ([],V.Pt.kids g f p,v):=by
  unfold V.AF;rw[if_neg (by omega),if_pos h]
 show (match V.AF g f p v with
  |none=>none
  |some (k0,qs,r)=>V.BS k0 (V.BG (V.Ct g f) qs r))=_
 rw[e]
theorem abR{g:Nat->Nat}{f p:Nat}{S:ByteArray}{r:List V.It}(h3:g p=115)(hl:S.size<=14):V.Ct g (f+1) p ((0,S) :: r)=some ([true],r):=by
 have e:V.AF g f p ((0,S) :: r)=some ([true],[],r):=by
  unfold V.AF;rw[if_neg (by omega),if_neg (by omega)];simp only;rw[if_pos h3,if_pos ⟨trivial,hl⟩]
 show (match V.AF g f p ((0,S) :: r) with
  |none=>none
  |some (k0,qs,r)=>V.BS k0 (V.BG (V.Ct g f) qs r))=_
 rw[e];rfl
theorem ZQ(n:Int):(V.AX n).length=2:=rfl
theorem Ti(x:V.It):(V.El false x).length=2:=rfl
theorem Lc{T:ByteArray}{c:Nat}{n:Int}(hT:T.size=1)(hc:(V.Pt.G8 (V.nx T) T.size).1=0)(g0:V.nx T 0=c)(hcc:c=105\/c=98\/c=99)(hl:V.CG c<=n)(hh:n<=(if c=98 then 1 else if c=99 then 65535 else 32767)):Fits T [(n,e0)]:=by
 refine NN (ks:=[false]) hc ?_ (by simp[V.bytesOf,Ti]) (by simp);rw[hT];refine Gp (by omega) (by omega) (by omega) (by omega) (by omega) (by rw[g0];exact hl) ?_;unfold V.BO;rw[g0];rcases hcc with rfl|rfl|rfl
 ·simpa using hh
 ·simpa using hh
 ·simpa using hh
theorem aaH{n:Int}(h:-32768<=n/\n<=32767):Fits ⟨#[105]⟩ [(n,e0)]:=Lc (c:=105) rfl (by decide +kernel) (by decide +kernel) (by omega) (by unfold V.CG;simp;omega) (by simp;omega)
theorem aaF{n:Int}(h:0<=n/\n<=1):Fits ⟨#[98]⟩ [(n,e0)]:=Lc (c:=98) rfl (by decide +kernel) (by decide +kernel) (by omega) (by unfold V.CG;simp;omega) (by simp;omega)
theorem aaG{n:Int}(h:0<=n/\n<=5):Fits ⟨#[99]⟩ [(n,e0)]:=Lc (c:=99) rfl (by decide +kernel) (by decide +kernel) (by omega) (by unfold V.CG;simp;omega) (by simp;omega)
theorem aaI{S:ByteArray}(h:S.size<=14):Fits ⟨#[115]⟩ [(0,S)]:=by
 refine NN (ks:=[true]) (by decide +kernel) (abR (by decide +kernel) h) ?_ (by simp);have hd:S.data.toList.length=S.size:=by simp
 simp only[V.bytesOf,V.El,if_true,List.append_nil,List.length_append,ZQ,hd];split<;>simp<;>omega
abbrev Cr:ByteArray:=⟨#[114,40,101,51,113,51,105,41]⟩
theorem Us{a:Int}{L:List Int}(ha:0<=a/\a<=2)(hl:L.length<=3)(hL:∀x∈L,-32768<=x/\x<=32767):Fits Cr ((a,e0) :: ((L.length:Int),e0) :: L.map fun x=>(x,e0)):=by
 have g0:V.nx Cr 0=114:=by decide +kernel
 have g2:V.nx Cr 2=101:=by decide +kernel
 have g3:V.nx Cr 3=51:=by decide +kernel
 have g4:V.nx Cr 4=113:=by decide +kernel
 have g5:V.nx Cr 5=51:=by decide +kernel
 have g6:V.nx Cr 6=105:=by decide +kernel
 have hk:V.Pt.kids (V.nx Cr) 8 0=[2,4]:=by decide +kernel
 have e2:∀r,V.Ct (V.nx Cr) 8 2 ((a,e0) :: r)=some ([false],r):=fun r=>Gp (by omega) (by omega) (by omega) (by omega) (by omega) (by rw[g2];unfold V.CG;simp;omega) (by unfold V.BO;rw[g2];simp only[show (2+1:Nat)=3 from rfl,g3];simp;omega)
 have e6:∀x r,x∈L->V.Ct (V.nx Cr) 7 6 ((x,e0) :: r)=some ([false],r):=fun x r hx=>Gp (by omega) (by omega) (by omega) (by omega) (by omega) (by have:=hL x hx;rw[g6];unfold V.CG;simp;omega) (by have:=hL x hx;unfold V.BO;rw[g6];simp;omega)
 have es:∀M:List Int,(∀x∈M,x∈L)->V.BG (V.Ct (V.nx Cr) 7) (List.replicate M.length 6) (M.map fun x=>(x,e0))=some (List.replicate M.length false,[]):=fun M=>by
  induction M with
  |nil=>intro _;rfl
  |cons x M ih=>
   intro hM;simp only[List.length_cons,List.replicate_succ,List.map_cons,V.BG];rw[e6 x _ (hM x (by simp)),];simp only;rw[ih (fun y hy=>hM y (by simp[hy]))];rfl
 have e4:V.Ct (V.nx Cr) 8 4 (((L.length:Int),e0) :: L.map fun x=>(x,e0))=some (List.replicate (L.length+1) false,[]):=by
  rw[abP g4 (by omega) (by unfold V.BO;rw[g4];simp only[show (4+1:Nat)=5 from rfl,g5];simp;omega),Int.toNat_natCast,es L (fun x hx=>hx)];simp[V.BS,List.replicate_succ]
 have hall:V.Ct (V.nx Cr) (Cr.size+1) 0 ((a,e0) :: ((L.length:Int),e0) :: L.map fun x=>(x,e0))=some (List.replicate (L.length+2) false,[]):=by
  show V.Ct (V.nx Cr) (8+1) 0 _=_;rw[abQ g0,hk];simp only[V.BG];rw[e2];simp only;rw[e4];simp[V.BS,List.replicate_succ]
 refine NN (by decide +kernel) hall ?_ (by simp;omega);have hb:∀(v:List V.It) (n:Nat),(V.bytesOf (List.replicate n false) v).length<=2*n:=fun v=>by
  induction v with
  |nil=>intro n;cases n<;>simp[V.bytesOf,List.replicate_succ]
  |cons x v ih=>
   intro n;cases n with
   |zero=>simp[V.bytesOf]
   |succ n=>
    simp only[List.replicate_succ,V.bytesOf,List.length_append,Ti];have:=ih n;omega
 have:=hb ((a,e0) :: ((L.length:Int),e0) :: L.map fun x=>(x,e0)) (L.length+2);omega
def Dh(x:V.It):List Value:=[.int .i64 x.1,.string x.2]
theorem Rs(x:V.It):(Dh x).length=2:=rfl
theorem Ry{w:World}{B:Nat}{X:Value}{v:List V.It}(h:w.ownsRow B 106 2 X v.length (tab Dh v))(hv:v≠[]):BD w (fun k=>B<=k) X v:=by
 rcases h.2 with ⟨rfl,h0⟩|⟨g,cap,cur,rfl,hB,hg,hcap,_,_,htk⟩
 ·exact absurd (List.eq_nil_of_length_eq_zero h0) hv
 ·refine Or.inr ⟨g,0,cap,cur,hv,rfl,hcap,hB,hg,fun j x hj=>?_⟩;have hjl:=(List.getElem?_eq_some_iff.1 hj).1;have q:∀d,d<2->cur[j*2+d]?=(Dh x)[d]?:=fun d hd=>by
   rw[<-GG Rs v j d x hj hd,<-htk,List.getElem?_take,if_pos (by omega)];simp
  have q0:=q 0 (by omega);have q1:=q 1 (by omega);rw[Nat.zero_add];exact⟨by simpa [Dh] using q0,by simpa [Dh] using q1⟩
theorem NT(w:World)(x:V.It):BD (w.alloc (.cells #[.int .i64 x.1,.string x.2] 106)) (fun k=>w.heap.size<=k) (.slice (some ⟨w.heap.size,0,none⟩) 1 1) [x]:=
 Ry (World.ownsRow_lit (base:=w.heap.size) (e:=106) (size:=2) w #[.int .i64 x.1,.string x.2] 1 (Nat.le_refl _) (by unfold maxLen;omega) rfl) (by simp)
theorem Ru:(Tryz.prog.info? 106).map (fun i=>(i.zero,i.size,i.bytes))=some (some (.agg #[.int .i64 0,.string ⟨#[]⟩]),2,24):=by kernel_rfl
theorem Xt(w:World)(n:Int)(j:Nat)(u:Value)(h:([.int .i64 n,.string ⟨#[]⟩]:List Value)[j]?=some u):(w.alloc (.cells #[.int .i64 n,.string ⟨#[]⟩] 106)).cell? ((⟨w.heap.size,0,none⟩:Addr).add j)=some u:=by
 rw[Addr.add_lit,Nat.zero_add,World.cell?_alloc_new w _ _ j,<-List.getElem?_toArray]at *;exact h
end Go.Proofs.YtblomippkddgiaaGreatDoor
