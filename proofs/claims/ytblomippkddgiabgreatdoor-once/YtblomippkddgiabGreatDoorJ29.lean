import Derived.Test.YtblomippkddgiabGreatDoorJ28
set_option maxRecDepth 100000
set_option maxHeartbeats 4000000
namespace Go.Proofs.YtblomippkddgiabGreatDoor
open Go.RowKit
variable {S T:ByteArray}{F:Aq}{n:Int}{L:List Int}{r v:List V.It}{N f k lf p sq ud:Nat}{g:Nat→Nat}{c:R.Cf}{W W4 w w0:World}
def E1(c:R.Cf):Nat->R.Wd
 |0=>newG c
 |k+1=>BJ (E1 c k) (A6 k) k
def EH(k:Nat):List Int:=[if 0<k then 1 else 0,if 1<k then 2 else 0,if 2<k then 3 else 0]
theorem Z2(k:Nat):(EH k).length=3:=rfl
theorem abC(h:k<3):(EH k)[k]?=some 0:=by
 have h3:k=0\/k=1\/k=2:=by omega
 rcases h3 with rfl|rfl|rfl<;>rfl
theorem Z3(h:k<3):(EH k).set k ((k:Int)+1)=EH (k+1):=by
 have h3:k=0\/k=1\/k=2:=by omega
 rcases h3 with rfl|rfl|rfl<;>rfl
theorem Fj(c:R.Cf):∀k,(E1 c k).names=(List.range k).map A6
 |0=>rfl
 |k+1=>by
  show (E1 c k).names++[A6 k]=_;rw[Fj c k,List.range_succ,List.map_append];rfl
theorem CQ(c:R.Cf):∀k,(E1 c k).Ab=(List.range k).map fun (i:Nat)=>(⟨(i:Int),true,[]⟩:R.Sv)
 |0=>rfl
 |k+1=>by
  show (E1 c k).Ab++[⟨(k:Int),true,[]⟩]=_;rw[CQ c k,List.range_succ,List.map_append];rfl
theorem La(c:R.Cf):∀k,(E1 c k).stands=(List.range k).map fun (i:Nat)=>(i:Int)+1
 |0=>rfl
 |k+1=>by
  show (E1 c k).stands++[((E1 c k).Ab.length:Int)+1]=_;rw[La c k,CQ,List.range_succ,List.map_append];simp
theorem JV(c:R.Cf):∀k,(E1 c k).Ad=(newG c).Ad
 |0=>rfl
 |k+1=>JV c k
theorem QA(c:R.Cf)(h:k<3):¬A6 k∈(E1 c k).names:=by
 rw[Fj];intro hm;obtain⟨i,hi,e⟩:=List.mem_map.1 hm;have aa:=List.mem_range.1 hi;have:=YH (by omega) h e;omega
theorem Jq(c:R.Cf)(h:k<3):AF (E1 c 3) (A6 k)=some ((k:Int)+1):=by
 unfold AF R.BI;rw[Fj,La];have h3:k=0\/k=1\/k=2:=by omega
 rcases h3 with rfl|rfl|rfl<;>rfl
theorem Oj(c:R.Cf)(h:k<3):kindOf (E1 c 3) ((k:Int)+1)=(k:Int):=by
 unfold kindOf;rw[CQ];have h3:k=0\/k=1\/k=2:=by omega
 rcases h3 with rfl|rfl|rfl<;>rfl
def Dl(c:R.Cf):Nat->R.Wd
 |0=>E1 c 3
 |i+1=>BQ (Dl c i) i (EH 3) 3
theorem GI(c:R.Cf)(n:List UInt8):∀i,AF (Dl c i) n=AF (E1 c 3) n
 |0=>rfl
 |i+1=>(Eh _ _ _ n 3).trans (GI c n i)
theorem Kq(c:R.Cf)(n:Int):∀i,kindOf (Dl c i) n=kindOf (E1 c 3) n
 |0=>rfl
 |i+1=>(GH _ _ _ n 3).trans (Kq c n i)
theorem Gi(c:R.Cf):∀i,(Dl c i).Ad.length=(newG c).Ad.length
 |0=>by show (E1 c 3).Ad.length=_;rw[JV]
 |i+1=>(E9 _ _ _ 3).trans (Gi c i)
theorem Sr{p:Pl}{r:Nat}(hw:LW p F (newG c) W)(hF:∀k,F k->w0.heap.size<=k)(aa:Below w0.heap.size w0 W)(ht:Ec W)(hp:0<w0.heap.size)(hb:Below W.heap.size W W4)
  (h1:W4.heap[r]?=some (.cells (Gc ⟨r,p.x,lf,sq,ud⟩ c ⟨List.replicate N 0,List.replicate (3*N) 0,EH 0,0,.slice none 0 0,.slice none 0 0,.slice none 0 0,[],[],[]⟩) 32 (0,0)))
  (h2:W4.heap[lf]?=some (.cells (ints (List.replicate N 0)).toArray 3 (0,0))) (h3:W4.heap[sq]?=some (.cells (ints (List.replicate (3*N) 0)).toArray 3 (0,0))) (h4:W4.heap[ud]?=some (.cells (ints [0,0,0]).toArray 3 (0,0)))
  (g1:W.heap.size<=r) (g2:W.heap.size<=lf) (g3:W.heap.size<=sq) (g4:W.heap.size<=ud) (n1:lf≠sq) (n2:lf≠ud) (n3:sq≠ud):
  Au w0 ⟨r,p.x,lf,sq,ud⟩ p c ⟨List.replicate N 0,List.replicate (3*N) 0,EH 0,0,.slice none 0 0,.slice none 0 0,.slice none 0 0,[],[],[]⟩ (newG c) W4:=by
 have s0:=aa.size;have s1:=hb.size;refine⟨⟨p.t,fun k=>W.heap.size<=k/\k<W4.heap.size,F,⟨h1,h2,h3,h4,World.ownsRow_nil _ _ _ _,World.ownsRow_nil _ _ _ _,World.ownsRow_nil _ _ _ _,by simp,⟨⟨g1,lt_of_block h1⟩,⟨g2,lt_of_block h2⟩,⟨g3,lt_of_block h3⟩,⟨g4,lt_of_block h4⟩⟩,fun j hj=>?_,⟨n1,n2,n3⟩,?_,?_,(fun j hj=>by cases hj),(fun k hk=>hk.2)⟩,hw.below hb,fun k hk hf=>?_,fun k hk=>?_⟩,rfl,ht.below hb,aa.trans (hb.mono s0),hp⟩
 ·rcases hj with e|e|e<;>cases e
 ·refine⟨fun e=>?_,fun e=>?_,fun e=>?_⟩<;>cases e
 ·refine⟨fun e=>?_,fun e=>?_,fun e=>?_⟩<;>cases e
 ·have:=hw.lt k hf;omega
 ·rcases hk with hk|hk
  ·omega
  ·exact hF k hk
theorem A8{a b c d:Obj}:((((W.alloc a).alloc b).alloc c).alloc d).drew.heap[W.heap.size]?=some a/\((((W.alloc a).alloc b).alloc c).alloc d).drew.heap[W.heap.size+1]?=some b/\((((W.alloc a).alloc b).alloc c).alloc d).drew.heap[W.heap.size+1+1]?=some c/\((((W.alloc a).alloc b).alloc c).alloc d).drew.heap[W.heap.size+1+1+1]?=some d/\Below W.heap.size W ((((W.alloc a).alloc b).alloc c).alloc d).drew:=by
 have e1:(W.alloc a).heap.size=W.heap.size+1:=by simp
 have e2:((W.alloc a).alloc b).heap.size=W.heap.size+1+1:=by simp
 have e3:(((W.alloc a).alloc b).alloc c).heap.size=W.heap.size+1+1+1:=by simp
 refine⟨?_,?_,?_,?_,?_⟩
 ·rw[E0,Below.heap_alloc _ _ _ (by omega),Below.heap_alloc _ _ _ (by omega),Below.heap_alloc _ _ _ (by omega)];exact CM _ _ rfl
 ·rw[E0,Below.heap_alloc _ _ _ (by omega),Below.heap_alloc _ _ _ (by omega)];exact CM _ _ e1
 ·rw[E0,Below.heap_alloc _ _ _ (by omega)];exact CM _ _ e2
 ·rw[E0];exact CM _ _ e3
 ·exact((((Below.refl _ _).alloc (Nat.le_refl _) _).alloc (by omega) _).alloc (by omega) _ |>.alloc (by omega) _).drew
theorem Ky(n:Nat)(hn:n=1\/n=2\/n=3\/n=6\/n=9)(W:World):(Instr.makeSlice 29 (.int .i64 (n:Int)) (.int .i64 (n:Int))).run Tryz.prog W=.ok (.slice (some ⟨W.heap.size,0,none⟩) n n) (W.alloc (.cells (ints (List.replicate n 0)).toArray 3)):=by
 rcases hn with rfl|rfl|rfl|rfl|rfl
 ·show _=_;kernel_rfl
 ·show _=_;kernel_rfl
 ·show _=_;kernel_rfl
 ·show _=_;kernel_rfl
 ·show _=_;kernel_rfl
def Gl(k:Nat):List Int:=List.replicate k (-1)
def Hm(k:Nat):List Int:=(List.range k).map fun (i:Nat)=>(i:Int)
theorem SV(k:Nat):Gl k++[-1]=Gl (k+1):=by simp[Gl,List.replicate_succ']
theorem TC(k:Nat):Hm k++[(k:Int)]=Hm (k+1):=by simp[Hm,List.range_succ]
theorem VE(k:Nat):(Gl k).length=k:=by simp[Gl]
theorem V4(k:Nat):(Hm k).length=k:=by simp[Hm]
theorem abg(h:L.length=N)(h1:∀j,j<N->L[j]?=some 1):L=List.replicate N 1:=by
 refine List.ext_getElem? (fun j=>?_);by_cases hj:j<N
 ·rw[h1 j hj,List.getElem?_replicate,if_pos hj]
 ·rw[List.getElem?_eq_none (by omega),List.getElem?_eq_none (by simp;omega)]
theorem Sq{p:Pl}{r:Nat}{LA LB LC:Array Value}(hA:LA=(ints (List.replicate N 0)).toArray)(hB:LB=(ints (List.replicate (3*N) 0)).toArray)(hC:LC=(ints (List.replicate 3 0)).toArray)(hw:LW p F (newG c) W)(hF:∀k,F k->w0.heap.size<=k)(aa:Below w0.heap.size w0 W)(ht:Ec W)(hp:0<w0.heap.size)(hb:Below W.heap.size W W4)
  (h1:W4.heap[r]?=some (.cells #[ptr p.x,.int .i64 c.Ad,.int .i64 c.lines,.int .i64 c.Ay,.int .i64 c.tries,.int .i64 c.table,.slice (some ⟨lf,0,none⟩) N N,.slice (some ⟨sq,0,none⟩) (3*N) (3*N),.slice (some ⟨ud,0,none⟩) 3 3,.slice none 0 0,.int .i64 0,.slice none 0 0,.slice none 0 0] 32 (0,0)))
  (h2:W4.heap[lf]?=some (.cells LA 3 (0,0))) (h3:W4.heap[sq]?=some (.cells LB 3 (0,0))) (h4:W4.heap[ud]?=some (.cells LC 3 (0,0)))
  (g1:W.heap.size<=r) (g2:W.heap.size<=lf) (g3:W.heap.size<=sq) (g4:W.heap.size<=ud) (n1:lf≠sq) (n2:lf≠ud) (n3:sq≠ud):
  ∃q,q.r=r/\q.x=p.x/\∃L,L.length=N/\Au w0 q p c ⟨L,List.replicate (3*N) 0,EH 0,0,.slice none 0 0,.slice none 0 0,.slice none 0 0,[],[],[]⟩ (newG c) W4:=by
 refine⟨_,rfl,rfl,List.replicate N 0,by simp,Sr hw hF aa ht hp hb (by rw[h1];simp[Gc,EH]) (by rw[h2,hA]) (by rw[h3,hB]) (by rw[h4,hC];rfl) g1 g2 g3 g4 n1 n2 n3⟩
theorem Au.base{wB:World}{q:RP}{p:Pl}{s:RS}{G:R.Wd}(h:Au wB q p c s G w)(hb:Below w0.heap.size w0 wB)(hp:0<w0.heap.size):Au w0 q p c s G w:=by
 obtain⟨tp,E,F,hr,hw,hd,aa⟩:=h.run;have:=hb.size;exact⟨⟨tp,E,F,hr,hw,hd,fun k hk=>by have:=aa k hk;omega⟩,h.x,h.t0,hb.trans (h.below.mono hb.size),hp⟩
theorem FD{f:World->Prop}(P:World->Prop)(hP:P W)(h:∀W',P W'->f W'):f W:=h W hP
theorem Vt(w0 w:World)(c:R.Cf)(hc:R.BD c)(aH:Below w0.heap.size w0 w)(ht:Ec w)(hp:0<w0.heap.size):
  Calls Tryz.prog 15 #[UK c.Ad c.lines c.Ay c.tries c.table] w fun e w'=>∃q p D K,e=.returned (ptr q.r)/\Au w0 q p c ⟨List.replicate c.Ad.toNat 1,List.replicate (3*c.Ad.toNat) 0,EH 3,3,.slice none 0 0,D,K,[],Gl 3,Hm 3⟩ (Dl c c.Ad.toNat) w':=by
 have ak:=Ac (fun w=>aa8 w c hc);have aI:=hc;unfold R.BD at aI;obtain⟨N,hN⟩:∃N:Nat,c.Ad=(N:Int):=⟨c.Ad.toNat,by omega⟩;have aw:c.Ad.toNat=N:=by omega
 have aa:(newG c).Ad.length=N:=by simp[newG,aw]
 rw[aw];have b2:N=1\/N=2\/N=3:=by omega
 have aL:=Ky N (by omega);have aA:=Ky (3*N) (by omega);have aB:=Ky 3 (by omega);rw[show ((3*N:Nat):Int)=3*(N:Int) by omega]at aA;rw[show ((3:Nat):Int)=3 from rfl]at aB;have e3:IntKind.i64.wrap (3*(N:Int))=3*(N:Int):=by rw[IntKind.wrap_i64];omega
 obtain⟨LA,ar⟩:∃LA,LA=(ints (List.replicate N 0)).toArray:=⟨_,rfl⟩;obtain⟨LB,au⟩:∃LB,LB=(ints (List.replicate (3*N) 0)).toArray:=⟨_,rfl⟩;obtain⟨LC,av⟩:∃LC,LC=(ints (List.replicate 3 0)).toArray:=⟨_,rfl⟩;rw[<-ar]at aL;rw[<-au]at aA;rw[<-av]at aB;have ab:Hid (∀{wB:World} {p:Pl} {F:Aq} {W W4:World} {r lf sq ud:Nat},LW p F (newG c) W->0<wB.heap.size->(∀k,F k->wB.heap.size<=k)->Below wB.heap.size wB W->Ec W->Below W.heap.size W W4->W4.heap[r]?=some (.cells #[ptr p.x,.int .i64 (N:Int),.int .i64 c.lines,.int .i64 c.Ay,.int .i64 c.tries,.int .i64 c.table,.slice (some ⟨lf,0,none⟩) N N,.slice (some ⟨sq,0,none⟩) (3*N) (3*N),.slice (some ⟨ud,0,none⟩) 3 3,.slice none 0 0,.int .i64 0,.slice none 0 0,.slice none 0 0] 32 (0,0))->W4.heap[lf]?=some (.cells LA 3 (0,0))->W4.heap[sq]?=some (.cells LB 3 (0,0))->W4.heap[ud]?=some (.cells LC 3 (0,0))->W.heap.size<=r->W.heap.size<=lf->W.heap.size<=sq->W.heap.size<=ud->lf≠sq->lf≠ud->sq≠ud->∃q,q.r=r/\q.x=p.x/\∃L,L.length=N/\Au wB q p c ⟨L,List.replicate (3*N) 0,EH 0,0,.slice none 0 0,.slice none 0 0,.slice none 0 0,[],[],[]⟩ (newG c) W4):=
  fun {wB p F W W4 r lf sq ud} a1 a0 a2 a3 a4 a5 a6=>Sq ar au av a1 a2 a3 a4 a0 a5 (by rw[hN];exact a6)
 rw[hN]at ak;rw[hN];have aO:Hid (∀(wB:World) (q:RP) (p:Pl) (L:List Int) (D K:Value) (k:Nat) (wr:World),k<3->Au wB q p c ⟨L,List.replicate (3*N) 0,EH k,(k:Int),.slice none 0 0,D,K,[],Gl k,Hm k⟩ (E1 c k) wr->Calls Tryz.prog 25 #[ptr q.r,.int .i64 (k:Int)] wr fun e w'=>e=.returned (.bool true)/\∃D K,Au wB q p c ⟨L,List.replicate (3*N) 0,EH (k+1),((k+1:Nat):Int),.slice none 0 0,D,K,[],Gl (k+1),Hm (k+1)⟩ (E1 c (k+1)) w'):=fun wB q p L D K k wr hk hB=>by
  have:=QF wB q p c _ _ wr k hk hB (Z2 k) (abC hk) (by simp[CQ]) (QA c hk) (by rw[Fj];simp;omega) (by rw[CQ];simp;omega) (by simp only[VE];omega) (by simp only[V4];omega);simp only[Z3 hk,SV,TC]at this;rw[show ((k+1:Nat):Int)=(k:Int)+1 by omega];exact this
 have aP:Hid (∀(wB:World) (q:RP) (p:Pl) (s:RS) (i:Nat) (wr:World),i<N->s.uid=EH 3->Au wB q p c s (Dl c i) wr->Calls Tryz.prog 26 #[ptr q.r,.int .i64 (i:Int)] wr fun e w'=>e=.returned (.bool true)/\Au wB q p c s (Dl c (i+1)) w'):=fun wB q p s i wr hi hu hB=>by
  have:=Mh wB q p c s (Dl c i) wr i hB (by rw[Gi,aa];exact hi) (by rw[hu];rfl) (fun k hk=>⟨(k:Int)+1,by
   rw[hu];have h3:k=0\/k=1\/k=2:=by omega
   rcases h3 with rfl|rfl|rfl<;>rfl,by rw[GI];exact Jq c hk,by rw[Kq];exact Oj c hk⟩)
  rw[hu]at this;exact this
 have b4:=Ac aa;clear ar au av hc aw b2 aa;obtain⟨cl,ln,rt,tr,tb⟩:=c;simp only at hN aI ak ab ⊢;subst hN;obtain⟨BX,al⟩:∃BX,w.alloc (.cells #[.int .i64 (N:Int),.int .i64 ln,.int .i64 rt,.int .i64 tr,.int .i64 tb] 23)=BX:=⟨_,rfl⟩;have HB:Hid (Below w.heap.size w BX):=by
  rw[<-al];exact(Below.refl _ _).alloc (Nat.le_refl _) _
 have an:BX.heap[w.heap.size]?=some (.cells #[.int .i64 (N:Int),.int .i64 ln,.int .i64 rt,.int .i64 tr,.int .i64 tb] 23 (0,0)):=by
  rw[<-al];exact heap_alloc_new w _
 have az:=lt_of_block an;have k0:BX.cell? ⟨w.heap.size,0,none⟩=some (.int .i64 (N:Int)):=cell_of an 0 _ rfl;have aX:=Ac k0;clear k0;have aU:=Ac al;have aW:=Ac an;have aC:=Ac aH;have HT:=Ac ht;clear al an aH ht;go_enter Tryz.func15,Tryz.ntmps15;go_wp2_with fail
 rw[Aa aU];refine((Aa ak) _).mono ?_;rintro e w1 ⟨p,F,rfl,hW,hF,am⟩;have ad:=Ac ((am.block w.heap.size az).trans (Aa aW));have c0:w1.cell? ⟨w.heap.size,0,none⟩=some (.int .i64 (N:Int)):=cell_of (Aa ad) 0 _ rfl;have c1:w1.cell? ⟨w.heap.size,1,none⟩=some (.int .i64 ln):=cell_of (Aa ad) 1 _ rfl;have c2:w1.cell? ⟨w.heap.size,2,none⟩=some (.int .i64 rt):=cell_of (Aa ad) 2 _ rfl;have c3:w1.cell? ⟨w.heap.size,3,none⟩=some (.int .i64 tr):=cell_of (Aa ad) 3 _ rfl;have c4:w1.cell? ⟨w.heap.size,4,none⟩=some (.int .i64 tb):=cell_of (Aa ad) 4 _ rfl;have m0:=lt_of_block (Aa ad);have ac:=Ac am;have af:=Ac (((Aa HT).below (Aa HB)).below am);have ae:=Ac hF;have ah:0<BX.heap.size:=Nat.lt_of_le_of_lt (Nat.zero_le _) az;have ag:=Ac hW;have hq:∀w,(binOp .eql 28 (ptr p.x) (.pointer none)).run Tryz.prog w=.ok (.bool false) w:=fun w=>by kernel_rfl
 clear am hF hW ak;have aD:Hid (∀w',Below w1.heap.size w1 w'->w'.cell? ⟨w.heap.size,0,none⟩=some (.int .i64 (N:Int))/\w'.cell? ⟨w.heap.size,1,none⟩=some (.int .i64 ln)/\w'.cell? ⟨w.heap.size,2,none⟩=some (.int .i64 rt)/\w'.cell? ⟨w.heap.size,3,none⟩=some (.int .i64 tr)/\w'.cell? ⟨w.heap.size,4,none⟩=some (.int .i64 tb)):=fun w' hb=>⟨(hb.cell (p:=⟨w.heap.size,0,none⟩) m0).trans c0,(hb.cell (p:=⟨w.heap.size,1,none⟩) m0).trans c1,(hb.cell (p:=⟨w.heap.size,2,none⟩) m0).trans c2,(hb.cell (p:=⟨w.heap.size,3,none⟩) m0).trans c3,(hb.cell (p:=⟨w.heap.size,4,none⟩) m0).trans c4⟩
 go_wp2;go_region_held3 (fun w'=>w'.cell? ⟨w.heap.size,0,none⟩=some (.int .i64 (N:Int))/\w'.cell? ⟨w.heap.size,1,none⟩=some (.int .i64 ln)/\w'.cell? ⟨w.heap.size,2,none⟩=some (.int .i64 rt)/\w'.cell? ⟨w.heap.size,3,none⟩=some (.int .i64 tr)/\w'.cell? ⟨w.heap.size,4,none⟩=some (.int .i64 tb)) ((refine(Aa aD) _ ?_;repeat (first|exact Below.refl _ _|refine Below.drew ?_|refine Below.alloc ?_ (by simp;try omega) _))) (fail)
 all_goals
  refine FD (fun W=>∃q:RP,q.r=w1.heap.size+1+1+1/\q.x=p.x/\∃L:List Int,L.length=N/\Au BX q p ⟨(N:Int),ln,rt,tr,tb⟩ ⟨L,List.replicate (3*N) 0,EH 0,0,.slice none 0 0,.slice none 0 0,.slice none 0 0,[],[],[]⟩ (newG ⟨(N:Int),ln,rt,tr,tb⟩) W) ?_ ?_
  ·first
    |exact(Aa ab) (Aa ag) ah (Aa ae) (Aa ac) (Aa af) A8.2.2.2.2 A8.2.2.2.1 A8.1 A8.2.1 A8.2.2.1 (by omega) (by omega) (by omega) (by omega) (by omega) (by omega) (by omega)
    |exact(Aa ab) (Aa ag) ah (Aa ae) (Aa ac) (Aa af) A8.2.2.2.2 A8.2.2.2.1 A8.1 A8.2.2.1 A8.2.1 (by omega) (by omega) (by omega) (by omega) (by omega) (by omega) (by omega)
    |exact(Aa ab) (Aa ag) ah (Aa ae) (Aa ac) (Aa af) A8.2.2.2.2 A8.2.2.2.1 A8.2.1 A8.1 A8.2.2.1 (by omega) (by omega) (by omega) (by omega) (by omega) (by omega) (by omega)
    |exact(Aa ab) (Aa ag) ah (Aa ae) (Aa ac) (Aa af) A8.2.2.2.2 A8.2.2.2.1 A8.2.1 A8.2.2.1 A8.1 (by omega) (by omega) (by omega) (by omega) (by omega) (by omega) (by omega)
    |exact(Aa ab) (Aa ag) ah (Aa ae) (Aa ac) (Aa af) A8.2.2.2.2 A8.2.2.2.1 A8.2.2.1 A8.1 A8.2.1 (by omega) (by omega) (by omega) (by omega) (by omega) (by omega) (by omega)
    |exact(Aa ab) (Aa ag) ah (Aa ae) (Aa ac) (Aa af) A8.2.2.2.2 A8.2.2.2.1 A8.2.2.1 A8.2.1 A8.1 (by omega) (by omega) (by omega) (by omega) (by omega) (by omega) (by omega)
  ·clear c0 c1 c2 c3 c4 aD aL aA aB ag ae ac af ad m0;rintro W4 ⟨q,aM,b3,L,hL,aq⟩;rw[<-aM];have aV:=Ac aq;have aY:=Ac hL;have aj:Hid (∀s G wr,Au BX q p ⟨(N:Int),ln,rt,tr,tb⟩ s G wr->wr.cell? ⟨w.heap.size,0,none⟩=some (.int .i64 (N:Int))):=fun s G wr hB=>(hB.below.cell (p:=⟨w.heap.size,0,none⟩) az).trans (Aa aX)
   have aJ:=(Aa aj) _ _ _ aq;clear aq hL aM b3 ab;go_wp2;go_loopw [6] (fun iv wr=>∃(i:Nat) (L:List Int),i<=N/\iv=.int .i64 i/\(L.length=N/\∀j,j<i->L[j]?=some 1)/\Au BX q p ⟨(N:Int),ln,rt,tr,tb⟩ ⟨L,List.replicate (3*N) 0,EH 0,0,.slice none 0 0,.slice none 0 0,.slice none 0 0,[],[],[]⟩ (newG ⟨(N:Int),ln,rt,tr,tb⟩) wr) (fun iv _=>N-(intOf iv).toNat)
   case atStart=>exact⟨0,L,Nat.zero_le _,rfl,⟨Aa aY,fun j hj=>by omega⟩,Aa aV⟩
   case round=>
    obtain⟨i,L1,hi,rfl,⟨ai,aG⟩,hB⟩:=hrel;have ao:Hid (∀j,j<i->L1[j]?=some 1):=aG;clear aG;have aZ:=(Aa aj) _ _ _ hB;by_cases b7:i<N
    ·have y6:=hB.cells.a6;obtain⟨x0,aN⟩:∃x0,L1[i]?=some x0:=⟨_,List.getElem?_eq_getElem (by omega)⟩;have yl:=hB.cells.lf i x0 aN;have yz:=hB.cells.zl i;have yr:=hB.cells.EA;simp only[ai]at y6;have aQ:=Ac (hB.ad6 i 1);have b6:=lt_of_cell yl;have aE:=Ac ai;clear hB ai aJ aN;go_wp2;go_roundw
     case rel=>exact⟨i+1,L1.set i 1,by omega,by go_num,⟨by simpa using Aa aE,fun j hj=>by
      rw[List.getElem?_set];split
      ·rw[if_pos (by have:=Aa aE;omega)]
      ·exact(Aa ao) j (by omega)⟩,Aa aQ⟩
     case measure=>simp[intOf];omega
    ·obtain rfl:i=N:=by omega
     have aF:=abg ai (Aa ao);rw[aF]at hB;have aR:=Ac hB;clear hB ai aJ ao aF L1;go_wp2;go_loopw [7] (fun kv wr=>∃(k:Nat) (D K:Value),k<=3/\kv=.int .i64 k/\Au BX q p ⟨(i:Int),ln,rt,tr,tb⟩ ⟨List.replicate i 1,List.replicate (3*i) 0,EH k,(k:Int),.slice none 0 0,D,K,[],Gl k,Hm k⟩ (E1 ⟨(i:Int),ln,rt,tr,tb⟩ k) wr) (fun kv _=>3-(intOf kv).toNat)
     case atStart=>exact⟨0,_,_,by omega,rfl,Aa aR⟩
     case round=>
      obtain⟨k,D,K,hk,rfl,hB⟩:=hrel;by_cases ax:k<3
      ·have HC:=Ac ((Aa aO) BX q p _ D K k _ ax hB);clear hB aZ;go_wp2_with (first|(go_at_call 25;refine(Aa HC).mono ?_;rintro e w5 ⟨rfl,D2,K2,ap⟩))
       go_roundw
       case rel=>exact⟨k+1,D2,K2,by omega,by go_num,ap⟩
       case measure=>simp[intOf];omega
      ·have aK:k=3:=by omega
       have b1:=(Aa aj) _ _ _ hB;rw[aK]at hB;have aS:=Ac hB;clear hB aK;go_wp2;go_loopw [9] (fun iv wr=>∃j:Nat,j<=i/\iv=.int .i64 j/\Au BX q p ⟨(i:Int),ln,rt,tr,tb⟩ ⟨List.replicate i 1,List.replicate (3*i) 0,EH 3,3,.slice none 0 0,D,K,[],Gl 3,Hm 3⟩ (Dl ⟨(i:Int),ln,rt,tr,tb⟩ j) wr) (fun iv _=>i-(intOf iv).toNat)
       case atStart=>exact⟨0,Nat.zero_le _,rfl,Aa aS⟩
       case round=>
        obtain⟨j,hj,rfl,hB⟩:=hrel;have b5:=(Aa aj) _ _ _ hB;by_cases ay:j<i
        ·have HC:=Ac ((Aa aP) BX q p _ j _ ay rfl hB);clear hB b1;go_wp2_with (first|(go_at_call 26;refine(Aa HC).mono ?_;rintro e w5 ⟨rfl,ap⟩))
         go_roundw
         case rel=>exact⟨j+1,by omega,by go_num,ap⟩
         case measure=>simp[intOf];omega
        ·obtain rfl:j=i:=by omega
         have aT:=Ac (hB.base ((Aa aC).trans ((Aa HB).mono (Aa aC).size)) hp);clear hB;go_wp2;go_returns;exact⟨q,p,D,K,rfl,Aa aT⟩
def e0:ByteArray:=⟨#[]⟩
structure Fits(T:ByteArray)(v:List V.It):Prop where
 IZ:(V.Pt.IZ (V.nx T) T.size).1=0
 zero:(V.CW T v).1=0
 len:(V.CW T v).2.length<=70
 few:v.length<=9000000000000
theorem Pv{ks:List Bool}(hc:(V.Pt.IZ (V.nx T) T.size).1=0)(he:V.CF (V.nx T) (T.size+1) 0 v=some (ks,[]))(hb:(V.bytesOf ks v).length<=70)(hf:v.length<=100):Fits T v:=by
 have e1:V.CW T v=(0,V.bytesOf ks v):=by
  unfold V.CW;rw[if_pos hc,he];unfold V.NG;simp only;rw[if_pos trivial,if_neg (by omega)]
 exact⟨hc,by rw[e1],by rw[e1];exact hb,by omega⟩
theorem GQ(h1:g p≠97)(h2:g p≠114)(h3:g p≠115)(h4:g p≠117)(h5:g p≠113)(hl:V.CG (g p)<=n)(hh:n<=V.Ci g f p):V.CF g (f+1) p ((n,e0) :: r)=some ([false],r):=by
 have e:V.AO g f p ((n,e0) :: r)=some ([false],[],r):=by
  unfold V.AO;rw[if_neg h1,if_neg h2];simp only;rw[if_neg h3,if_pos ⟨rfl,hl,hh⟩,if_neg h4,if_neg h5]
 show (match V.AO g f p ((n,e0) :: r) with
  |none=>none
  |some (k0,qs,r)=>V.Ck k0 (V.BU (V.CF g f) qs r))=_
 rw[e];rfl
theorem adE(h5:g p=113)(hl:0<=n)(hh:n<=V.Ci g f p):V.CF g (f+1) p ((n,e0) :: r)=V.Ck [false] (V.BU (V.CF g f) (List.replicate n.toNat (p+2)) r):=by
 have e:V.AO g f p ((n,e0) :: r)=some ([false],List.replicate n.toNat (p+2),r):=by
  unfold V.AO;rw[if_neg (by omega),if_neg (by omega)];simp only;rw[if_neg (by omega),if_pos ⟨rfl,by unfold V.CG;rw[if_neg (by omega)];exact hl,hh⟩,if_neg (by omega),if_pos h5]
 show (match V.AO g f p ((n,e0) :: r) with
  |none=>none
  |some (k0,qs,r)=>V.Ck k0 (V.BU (V.CF g f) qs r))=_
 rw[e]
theorem adF(h:g p=114):V.CF g (f+1) p v=V.Ck [] (V.BU (V.CF g f) (V.Pt.kids g f p) v):=by
 have e:V.AO g f p v=some ([],V.Pt.kids g f p,v):=by
  unfold V.AO;rw[if_neg (by omega),if_pos h]
 show (match V.AO g f p v with
  |none=>none
  |some (k0,qs,r)=>V.Ck k0 (V.BU (V.CF g f) qs r))=_
 rw[e]
theorem adG(h3:g p=115)(hl:S.size<=14):V.CF g (f+1) p ((0,S) :: r)=some ([true],r):=by
 have e:V.AO g f p ((0,S) :: r)=some ([true],[],r):=by
  unfold V.AO;rw[if_neg (by omega),if_neg (by omega)];simp only;rw[if_pos h3,if_pos ⟨trivial,hl⟩]
 show (match V.AO g f p ((0,S) :: r) with
  |none=>none
  |some (k0,qs,r)=>V.Ck k0 (V.BU (V.CF g f) qs r))=_
 rw[e];rfl
theorem abA(n:Int):(V.A5 n).length=2:=rfl
theorem US(x:V.It):(V.EE false x).length=2:=rfl
theorem MO{c:Nat}(hT:T.size=1)(hc:(V.Pt.IZ (V.nx T) T.size).1=0)(g0:V.nx T 0=c)(aa:c=105\/c=98\/c=99)(hl:V.CG c<=n)(hh:n<=(if c=98 then 1 else if c=99 then 65535 else 32767)):Fits T [(n,e0)]:=by
 refine Pv (ks:=[false]) hc ?_ (by simp[V.bytesOf,US]) (by simp);rw[hT];refine GQ (by omega) (by omega) (by omega) (by omega) (by omega) (by rw[g0];exact hl) ?_;unfold V.Ci;rw[g0];rcases aa with rfl|rfl|rfl
 ·simpa using hh
 ·simpa using hh
 ·simpa using hh
theorem aci(h:-32768<=n/\n<=32767):Fits ⟨#[105]⟩ [(n,e0)]:=MO (c:=105) rfl (by decide +kernel) (by decide +kernel) (by omega) (by unfold V.CG;simp;omega) (by simp;omega)
theorem acg(h:0<=n/\n<=1):Fits ⟨#[98]⟩ [(n,e0)]:=MO (c:=98) rfl (by decide +kernel) (by decide +kernel) (by omega) (by unfold V.CG;simp;omega) (by simp;omega)
theorem ach(h:0<=n/\n<=5):Fits ⟨#[99]⟩ [(n,e0)]:=MO (c:=99) rfl (by decide +kernel) (by decide +kernel) (by omega) (by unfold V.CG;simp;omega) (by simp;omega)
theorem acj(h:S.size<=14):Fits ⟨#[115]⟩ [(0,S)]:=by
 refine Pv (ks:=[true]) (by decide +kernel) (adG (by decide +kernel) h) ?_ (by simp);have hd:S.data.toList.length=S.size:=by simp
 simp only[V.bytesOf,V.EE,if_true,List.append_nil,List.length_append,abA,hd];split<;>simp<;>omega
abbrev Cy:ByteArray:=⟨#[114,40,101,51,113,51,105,41]⟩
theorem VU{a:Int}(ha:0<=a/\a<=2)(hl:L.length<=3)(hL:∀x∈L,-32768<=x/\x<=32767):Fits Cy ((a,e0) :: ((L.length:Int),e0) :: L.map fun x=>(x,e0)):=by
 have g0:V.nx Cy 0=114:=by decide +kernel
 have g2:V.nx Cy 2=101:=by decide +kernel
 have g3:V.nx Cy 3=51:=by decide +kernel
 have g4:V.nx Cy 4=113:=by decide +kernel
 have g5:V.nx Cy 5=51:=by decide +kernel
 have g6:V.nx Cy 6=105:=by decide +kernel
 have hk:V.Pt.kids (V.nx Cy) 8 0=[2,4]:=by decide +kernel
 have e2:∀r,V.CF (V.nx Cy) 8 2 ((a,e0) :: r)=some ([false],r):=fun r=>GQ (by omega) (by omega) (by omega) (by omega) (by omega) (by rw[g2];unfold V.CG;simp;omega) (by unfold V.Ci;rw[g2];simp only[show (2+1:Nat)=3 from rfl,g3];simp;omega)
 have e6:∀x r,x∈L->V.CF (V.nx Cy) 7 6 ((x,e0) :: r)=some ([false],r):=fun x r hx=>GQ (by omega) (by omega) (by omega) (by omega) (by omega) (by have:=hL x hx;rw[g6];unfold V.CG;simp;omega) (by have:=hL x hx;unfold V.Ci;rw[g6];simp;omega)
 have es:∀M:List Int,(∀x∈M,x∈L)->V.BU (V.CF (V.nx Cy) 7) (List.replicate M.length 6) (M.map fun x=>(x,e0))=some (List.replicate M.length false,[]):=fun M=>by
  induction M with
  |nil=>intro _;rfl
  |cons x M ih=>
   intro hM;simp only[List.length_cons,List.replicate_succ,List.map_cons,V.BU];rw[e6 x _ (hM x (by simp)),];simp only;rw[ih (fun y hy=>hM y (by simp[hy]))];rfl
 have e4:V.CF (V.nx Cy) 8 4 (((L.length:Int),e0) :: L.map fun x=>(x,e0))=some (List.replicate (L.length+1) false,[]):=by
  rw[adE g4 (by omega) (by unfold V.Ci;rw[g4];simp only[show (4+1:Nat)=5 from rfl,g5];simp;omega),Int.toNat_natCast,es L (fun x hx=>hx)];simp[V.Ck,List.replicate_succ]
 have aa:V.CF (V.nx Cy) (Cy.size+1) 0 ((a,e0) :: ((L.length:Int),e0) :: L.map fun x=>(x,e0))=some (List.replicate (L.length+2) false,[]):=by
  show V.CF (V.nx Cy) (8+1) 0 _=_;rw[adF g0,hk];simp only[V.BU];rw[e2];simp only;rw[e4];simp[V.Ck,List.replicate_succ]
 refine Pv (by decide +kernel) aa ?_ (by simp;omega);have hb:∀(v:List V.It) (n:Nat),(V.bytesOf (List.replicate n false) v).length<=2*n:=fun v=>by
  induction v with
  |nil=>intro n;cases n<;>simp[V.bytesOf,List.replicate_succ]
  |cons x v ih=>
   intro n;cases n with
   |zero=>simp[V.bytesOf]
   |succ n=>
    simp only[List.replicate_succ,V.bytesOf,List.length_append,US];have:=ih n;omega
 have:=hb ((a,e0) :: ((L.length:Int),e0) :: L.map fun x=>(x,e0)) (L.length+2);omega
def Dp(x:V.It):List Value:=[.int .i64 x.1,.string x.2]
theorem Tv(x:V.It):(Dp x).length=2:=rfl
theorem TA{B:Nat}{X:Value}(h:w.ownsRow B 73 2 X v.length (tab Dp v))(hv:v≠[]):BF w (fun k=>B<=k) X v:=by
 rcases h.2 with ⟨rfl,h0⟩|⟨g,cap,ab,rfl,hB,hg,aa,_,_,ac⟩
 ·exact absurd (List.eq_nil_of_length_eq_zero h0) hv
 ·refine Or.inr ⟨g,0,cap,ab,hv,rfl,aa,hB,hg,fun j x hj=>?_⟩;have ad:=(List.getElem?_eq_some_iff.1 hj).1;have q:∀d,d<2->ab[j*2+d]?=(Dp x)[d]?:=fun d hd=>by
   rw[<-E7 Tv v j d x hj hd,<-ac,List.getElem?_take,if_pos (by omega)];simp
  have q0:=q 0 (by omega);have q1:=q 1 (by omega);rw[Nat.zero_add];exact⟨by simpa [Dp] using q0,by simpa [Dp] using q1⟩
theorem MU(w:World)(x:V.It):BF (w.alloc (.cells #[.int .i64 x.1,.string x.2] 73)) (fun k=>w.heap.size<=k) (.slice (some ⟨w.heap.size,0,none⟩) 1 1) [x]:=
 TA (World.ownsRow_lit (base:=w.heap.size) (e:=73) (size:=2) w #[.int .i64 x.1,.string x.2] 1 (Nat.le_refl _) (by unfold maxLen;omega) rfl) (by simp)
theorem Tw:(Tryz.prog.info? 73).map (fun i=>(i.zero,i.size,i.bytes))=some (some (.agg #[.int .i64 0,.string ⟨#[]⟩]),2,24):=by kernel_rfl
theorem Y6(w:World)(n:Int)(j:Nat)(u:Value)(h:([.int .i64 n,.string ⟨#[]⟩]:List Value)[j]?=some u):(w.alloc (.cells #[.int .i64 n,.string ⟨#[]⟩] 73)).cell? ((⟨w.heap.size,0,none⟩:Addr).add j)=some u:=by
 rw[Addr.add_lit,Nat.zero_add,World.cell?_alloc_new w _ _ j,<-List.getElem?_toArray]at *;exact h
end Go.Proofs.YtblomippkddgiabGreatDoor
