import Derived.Test.YtblomippkddgiabGreatDoorJ25
set_option maxRecDepth 100000
set_option maxHeartbeats 2000000
namespace Go.Proofs.YtblomippkddgiabGreatDoor
open Go.RowKit
variable {a b rt tr:Int}{A i jc k n nb nm s tb x:Nat}{bm cb lb:Nat→Nat}{o:Obj}{c:R.Cf}{K:Value}{V w w' w1:World}
theorem acp:(Tryz.prog.info? 93).map (fun i=>(i.zero,i.size,i.bytes))=some (some (.pointer none),1,8):=by kernel_rfl
def cbs(cb:Nat->Nat)(k:Nat):List Value:=(List.range k).map fun i=>ptr (cb i)
def upd(f:Nat->Nat)(k v:Nat):Nat->Nat:=fun j=>if j=k then v else f j
theorem upd_same(f:Nat->Nat)(k v:Nat):upd f k v k=v:=by simp[upd]
theorem Fb(f:Nat->Nat){v j:Nat}(h:j≠k):upd f k v j=f j:=by simp[upd,h]
theorem aan(cb:Nat->Nat)(k v:Nat):cbs (upd cb k v) (k+1)=cbs cb k++[ptr v]:=by
 unfold cbs;rw[agx,agw,List.map_singleton,upd_same];congr 1;apply List.map_congr_left;intro i hi;rw[Fb _ (by have:=List.mem_range.1 hi;omega)]
def sp0(jc:Nat):SP:=⟨.slice none 0 0,[],fun _=>0,jc⟩
structure NI(w:World)(c:R.Cf)(A n s x nm jc:Nat)(k:Nat)(cb lb bm:Nat->Nat)(K:Value)(wr:World):Prop where
 below:Below w.heap.size w wr
 cA:wr.heap[A]?=some (.cells #[.int .i64 c.Ad,.int .i64 c.lines,.int .i64 c.Ay,.int .i64 c.tries,.int .i64 c.table] 23 (0,0))
 cx:wr.heap[x]?=some (.cells #[ptr n,ptr s,K] 71 (0,0))
 row:wr.ownsRow 0 93 1 K k (cbs cb k)
 cn:wr.heap[n]?=some (.cells #[.slice none 0 0] 110 (0,0))
 cs:wr.heap[s]?=some (.cells (Ce n nm (sp0 jc) c [0,0,0] (List.replicate 9 R.Cs)).toArray 144 (0,0))
 cj:wr.heap[jc]?=some (.chan c.table.toNat #[] false 0 0 false)
 names:Mp wr 9 nm NU (fun _=>none) 0
 lo:w.heap.size<=A/\w.heap.size<=n/\w.heap.size<=s/\w.heap.size<=x/\w.heap.size<=nm/\w.heap.size<=jc
 kb:∀j,K.ownBlock=some j->w.heap.size<=j
 each:∀i,i<k->(w.heap.size<=cb i/\w.heap.size<=lb i/\w.heap.size<=bm i)/\wr.heap[cb i]?=some (.cells #[.int .i64 (i:Int),.int .i64 1,.map (some (bm i)),.slice (some ⟨lb i,0,none⟩) c.lines.toNat c.lines.toNat,.int .i64 c.Ay,.int .i64 c.tries,ptr n] 133 (0,0)) /\
  wr.heap[lb i]?=some (.cells (tab CU.cells (List.replicate c.lines.toNat Qc)).toArray 129 (0,0))/\Mp wr 3 (bm i) Kz (fun _=>none) 0/\bm i≠nm
 inj:∀i j,i<k->j<k->i≠j->lb i≠lb j/\bm i≠bm j/\cb i≠cb j
theorem A7{B:Nat}{e:TypeId}{size:Nat}{v:Value}{xs:List Value}(h:w.ownsRow B e size v n xs){b off:Nat}(aa:v.ownBlock≠some b)(u:Value):(w.setCell ⟨b,off,none⟩ u).ownsRow B e size v n xs:=
 Fy h (fun g hg=>Below.heap_setCell _ _ _ _ (fun e=>aa (by rw[hg];exact congrArg some e)))
theorem NI.more{wr wz:World}(h:NI w c A n s x nm jc k cb lb bm K wr){ae an ai:Nat}(hn:Sb wr w1 k 1 c.lines.toNat n c.Ay c.tries ae an ai){K':Value}(ah:wz.ownsRow 0 93 1 K' (k+1) (cbs cb k++[ptr ae]))(hg:(w1.alloc (.cells #[ptr ae] 93)).grownBy wz K.ownBlock)(al:K'.ownBlock=K.ownBlock\/K'.ownBlock=some (w1.heap.size+1)):
  NI w c A n s x nm jc (k+1) (upd cb k ae) (upd lb k an) (upd bm k ai) K' (wz.setCell ⟨x,2,none⟩ K'):=by
 have s0:=h.below.size;have s1:=hn.below.size;have hK:Af (fun q=>K.ownBlock=some q\/q=x) wr (wz.setCell ⟨x,2,none⟩ K'):=
  Af.setCell (F:=fun q=>K.ownBlock=some q\/q=x) (((Af.Al hn.below _).alloc _).grown hg (fun q hq=>afJ (afJ hq))) (p:=⟨x,2,none⟩) (afJ (afM rfl)) _
 have aj:Af (fun q=>K.ownBlock=some q\/q=x) w1 (wz.setCell ⟨x,2,none⟩ K'):=
  Af.setCell (F:=fun q=>K.ownBlock=some q\/q=x) (((Af.refl _ _).alloc _).grown hg (fun q hq=>afJ (afJ hq))) (p:=⟨x,2,none⟩) (afJ (afM rfl)) _
 have ak:K.ownBlock≠some x:=AV h.row h.cx (by decide);have au:=lt_of_block h.cx;have at':∀{b:Nat} {ys:Array Value} {t:TypeId} {f:Nat×Nat},wr.heap[b]?=some (.cells ys t f)->t≠71->t≠93->(wz.setCell ⟨x,2,none⟩ K').heap[b]?=some (.cells ys t f):=fun hb h1 h2=>hK.at hb (by
  rintro (e|e)
  ·exact AV h.row hb (fun q=>h2 q.symm) e
  ·exact AZ hb h.cx h1 e)
 have ac:∀{α:Type} {t:TypeId} {b:Nat} {lit:α->Lit} {g:α->Option Int} {m:Nat},Mp wr t b lit g m->Mp (wz.setCell ⟨x,2,none⟩ K') t b lit g m:=fun hm=>by
  obtain⟨es,q,hq⟩:=hm.block;refine hm.keep hK ?_;rintro (e|e)
  ·exact FU h.row hq e
  ·exact(Fv h.cx hq) e.symm
 have ab:∀q,K.ownBlock=some q->q<wr.heap.size:=fun q hq=>(World.ownsRow.lt h.row q hq).2
 have ad:∀{b:Nat} {o:Obj},w1.heap[b]?=some o->wr.heap.size<=b->(wz.setCell ⟨x,2,none⟩ K').heap[b]?=some o:=fun hb hl=>aj.at hb (by
  rintro (e|e)
  ·have:=ab _ e;omega
  ·omega)
 have ag:K'.ownBlock≠some x:=by
  rcases al with e|e
  ·rw[e];exact ak
  ·rw[e];intro q;simp at q;omega
 have ap:¬(K.ownBlock=some jc\/jc=x):=by
  rintro (e|e)
  ·rcases id h.row.2 with ⟨q,_⟩|⟨g,cap,ao,q,_,aq,_⟩
   ·rw[q]at e;cases e
   ·rw[q]at e;cases e;have:=h.cj;rw[aq]at this;cases this
  ·have:=h.cj;rw[e,h.cx]at this;cases this
 refine⟨?_,at' h.cA (by decide) (by decide),?_,?_,at' h.cn (by decide) (by decide),at' h.cs (by decide) (by decide),hK.at h.cj ap,ac h.names,h.lo,fun j hj=>?_,fun i hi=>?_,fun i j hi hj am=>?_⟩
 ·exact h.below.trans (hK.below s0 (fun q hq=>by
   rcases hq with hq|rfl
   ·exact h.kb q hq
   ·exact h.lo.2.2.2.1))
 ·have ar:wz.heap[x]?=some (.cells #[ptr n,ptr s,K] 71 (0,0)):=(hg.block x (by simp;omega) (fun e=>ak e.symm)).trans ((Below.heap_alloc _ _ _ (by omega)).trans ((hn.below.block x au).trans h.cx));exact Ai (cs:=[ptr n,ptr s,K]) (off:=2) ar K'
 ·rw[aan];exact A7 ah ag _
 ·rcases al with e|e
  ·exact h.kb j (e ▸ hj)
  ·rw[e]at hj;simp at hj;omega
 ·by_cases aa:i=k
  ·subst aa;simp only[upd_same];obtain⟨es,q,hq⟩:=hn.map.block;refine⟨⟨by have:=hn.c0;omega,by have:=hn.l0;omega,by have:=hn.b0;omega⟩,ad hn.cell hn.c0,ad hn.lines hn.l0,hn.map.keep aj ?_,?_⟩
   ·rintro (e|e)
    ·have:=ab _ e;have:=hn.b0;omega
    ·have:=hn.b0;omega
   ·have:=h.names.lt;have:=hn.b0;omega
  ·obtain⟨a1,a2,a3,a4,a5⟩:=h.each i (by omega);simp only[Fb _ aa];exact⟨a1,at' a2 (by decide) (by decide),at' a3 (by decide) (by decide),ac a4,a5⟩
 ·by_cases aa:i=k
  ·subst aa;have af:j≠i:=fun e=>am e.symm
   obtain⟨_,a2,a3,a4,_⟩:=h.each j (by omega);have l0:=lt_of_block a2;have l1:=lt_of_block a3;have:=hn.c0;have l2:=a4.lt;simp only[upd_same,Fb _ af];have:=hn.l0;have:=hn.b0;omega
  ·by_cases af:j=k
   ·subst af;obtain⟨_,a2,a3,a4,_⟩:=h.each i (by omega);have l0:=lt_of_block a2;have l1:=lt_of_block a3;have:=hn.c0;have l2:=a4.lt;simp only[upd_same,Fb _ aa];have:=hn.l0;have:=hn.b0;omega
   ·simp only[Fb _ aa,Fb _ af];exact h.inj i j (by omega) (by omega) am
theorem QQ(c:R.Cf)(hc:R.BD c)(w:World):Calls Tryz.prog 45 #[UK c.Ad c.lines c.Ay c.tries c.table] w fun e w'=>e=.returned (.bool true)/\Below w.heap.size w w':=by
 obtain⟨a,b,r,t,e⟩:=c;obtain⟨⟨h1,h2⟩,⟨h3,h4⟩,⟨h5,h6⟩,⟨h7,h8⟩,h9,h10⟩:=hc;simp only at h1 h2 h3 h4 h5 h6 h7 h8 h9 h10 ⊢;go_enter Tryz.func45,Tryz.ntmps45;go_wp2_with (first|(go_at_call 81;go_in))
 go_returns;exact⟨rfl,(Below.refl _ _).alloc (afI _) _⟩
def aa4(jc:Nat):Value:=.agg #[.int .i64 0,.int .i64 0,.int .i64 0,.pointer none,.pointer none,.pointer none,.pointer none,.pointer none,.pointer none,.pointer none,.pointer none,.pointer none,.chan (some jc)]
theorem aaU:(Tryz.prog.info? 170).map (fun i=>i.bytes)=some 40:=by kernel_rfl
theorem VA(n:Nat)(hn:n<=9)(W:World):(Instr.makeChan 140 (.int .i64 (n:Int))).run Tryz.prog W=.ok (.chan (some W.heap.size)) (W.alloc (.chan n #[] false 0 0 false)):=by
 have h:=aaU;cases hi:Tryz.prog.info? 170 with
 |none=>rw[hi]at h;cases h
 |some i=>
  rw[hi]at h;simp only[af9,Option.some.injEq]at h;exact Go.Conc.run_makeChan Tryz.underlying140 hi .i64 n (by omega) (by rw[h];omega)
theorem U3(w:World)(n:Nat)(hn:n<=9):Calls Tryz.prog 82 #[.int .i64 (n:Int)] w fun e w'=>e=.returned (aa4 (w.heap.size+1))/\Below w.heap.size w w'/\w'.heap.size=w.heap.size+1+1/\w'.heap[w.heap.size+1]?=some (.chan n #[] false 0 0 false):=by
 have aa:=VA n hn;unfold aa4;go_enter Tryz.func82,Tryz.ntmps82;go_wp2;go_returns;refine⟨rfl,((Below.refl _ _).alloc (afI _) _).alloc (by simp) _,by simp,?_⟩;exact CM _ _ (by simp)
structure Xy(w w':World)(n:Nat)(c:R.Cf)(s nm jc:Nat):Prop where
 below:Below w.heap.size w w'
 s0:w.heap.size<=s
 n0:w.heap.size<=nm
 j0:w.heap.size<=jc
 cell:w'.heap[s]?=some (.cells (Ce n nm (sp0 jc) c [0,0,0] (List.replicate 9 R.Cs)).toArray 144 (0,0))
 chan:w'.heap[jc]?=some (.chan c.table.toNat #[] false 0 0 false)
 map:Mp w' 9 nm NU (fun _=>none) 0
abbrev T7(a b rt tr tb:Int)(nm jc nb:Nat):Array Value:=#[.int .i64 a,.int .i64 b,.int .i64 rt,.int .i64 tr,.int .i64 tb,.map (some nm),.slice none 0 0,.int .i64 0,.int .i64 0,.int .i64 0,.pointer none,.pointer none,.pointer none,.pointer none,.pointer none,.pointer none,.pointer none,.pointer none,.pointer none,.chan (some jc),ptr nb]
theorem OD(a b rt tr tb:Int)(nm jc nb:Nat):(Ce nb nm (sp0 jc) ⟨a,b,rt,tr,tb⟩ [0,0,0] (List.replicate 9 R.Cs)).toArray=T7 a b rt tr tb nm jc nb:=rfl
theorem aee(hV:Below w.heap.size w V)(hb:Below (V.alloc (.map #[] 0)).heap.size (V.alloc (.map #[] 0)) w1)(hs:w1.heap.size=(V.alloc (.map #[] 0)).heap.size+1+1)(hj:w1.heap[(V.alloc (.map #[] 0)).heap.size+1]?=some (.chan tb #[] false 0 0 false))(ho:o=.cells (T7 a b rt tr tb V.heap.size (V.heap.size+1+1) nb) 144 (0,0)):Xy w (w1.alloc o) nb ⟨a,b,rt,tr,tb⟩ w1.heap.size V.heap.size (V.heap.size+1+1):=by
 subst ho;have s0:=hV.size;have e1:(V.alloc (.map #[] 0)).heap.size=V.heap.size+1:=by simp
 have aa:Below w.heap.size w w1:=(hV.alloc s0 _).trans (hb.mono (by omega));refine⟨aa.alloc (by omega) _,by omega,by omega,by omega,?_,?_,?_⟩
 ·rw[OD];exact CM _ _ rfl
 ·rw[Below.heap_alloc _ _ _ (by omega),<-e1];exact hj
 ·exact((Mp.made V 9 NU).above hb).above ((Below.refl _ _).alloc (afI _) _)
theorem aef(hV:Below w.heap.size w V)(hb:Below V.heap.size V w1)(hs:w1.heap.size=V.heap.size+1+1)(hj:w1.heap[V.heap.size+1]?=some (.chan tb #[] false 0 0 false))(ho:o=.cells (T7 a b rt tr tb w1.heap.size (V.heap.size+1) nb) 144 (0,0)):Xy w ((w1.alloc (.map #[] 0)).alloc o) nb ⟨a,b,rt,tr,tb⟩ (w1.heap.size+1) w1.heap.size (V.heap.size+1):=by
 subst ho;have s0:=hV.size;have e1:(w1.alloc (.map #[] 0)).heap.size=w1.heap.size+1:=by simp
 have aa:Below w.heap.size w w1:=hV.trans (hb.mono (by omega));refine⟨(aa.alloc (by omega) _).alloc (by omega) _,by omega,by omega,by omega,?_,?_,?_⟩
 ·rw[OD];exact CM _ _ e1
 ·rw[Below.heap_alloc _ _ _ (by omega),Below.heap_alloc _ _ _ (by omega)];exact hj
 ·exact(Mp.made w1 9 NU).above ((Below.refl _ _).alloc (afI _) _)
theorem ado:∀args w,(callFunc 82 args).run Tryz.prog w=.ok (.enter 82 args) w:=fun _ _=>rfl
theorem Ud(w:World)(nb tb:Nat)(a b rt tr:Int)(ht:tb<=9):Calls Tryz.prog 46 #[UK a b rt tr (tb:Int),ptr nb] w fun e w'=>∃s nm jc,e=.returned (ptr s)/\Xy w w' nb ⟨a,b,rt,tr,tb⟩ s nm jc:=by
 have ak:=@run_makeMap Tryz.prog;obtain⟨BX,ac⟩:∃BX,w.alloc (.cells #[.int .i64 a,.int .i64 b,.int .i64 rt,.int .i64 tr,.int .i64 (tb:Int)] 23)=BX:=⟨_,rfl⟩;have HB:Hid (Below w.heap.size w BX):=by
  rw[<-ac];exact(Below.refl _ _).alloc (afI _) _
 have ab:BX.heap[w.heap.size]?=some (.cells #[.int .i64 a,.int .i64 b,.int .i64 rt,.int .i64 tr,.int .i64 (tb:Int)] 23 (0,0)):=by
  rw[<-ac];exact heap_alloc_new w _
 have c0:BX.cell? ⟨w.heap.size,0,none⟩=some (.int .i64 a):=cell_of ab 0 _ rfl;have c1:BX.cell? ⟨w.heap.size,1,none⟩=some (.int .i64 b):=cell_of ab 1 _ rfl;have c2:BX.cell? ⟨w.heap.size,2,none⟩=some (.int .i64 rt):=cell_of ab 2 _ rfl;have c3:BX.cell? ⟨w.heap.size,3,none⟩=some (.int .i64 tr):=cell_of ab 3 _ rfl;have c4:BX.cell? ⟨w.heap.size,4,none⟩=some (.int .i64 (tb:Int)):=cell_of ab 4 _ rfl;have m0:=lt_of_block ab;have aj:=Ac ac;have HM:=Ac (fun w=>U3 w tb ht);simp only[aa4]at HM;clear ac ab;go_enter Tryz.func46,Tryz.ntmps46;go_wp2_with fail
 rw[Aa aj];go_region_law (first
  |(refine Av rfl 82 #[.tmp 8] #[3] rfl ado #[.int .i64 (tb:Int)] rfl _ ((Aa HM) _) ?_;rintro e w1 ⟨rfl,ad,ai,ah⟩;have aa:Below BX.heap.size BX w1:=(by first|exact D7 ad|exact(((Below.refl BX.heap.size BX).alloc (afI _) _).drew).trans (ad.mono (by simp)));have g0:w1.cell? ⟨w.heap.size,0,none⟩=some (.int .i64 a):=(aa.cell (p:=⟨w.heap.size,0,none⟩) m0).trans c0;have g1:w1.cell? ⟨w.heap.size,1,none⟩=some (.int .i64 b):=(aa.cell (p:=⟨w.heap.size,1,none⟩) m0).trans c1;have g2:w1.cell? ⟨w.heap.size,2,none⟩=some (.int .i64 rt):=(aa.cell (p:=⟨w.heap.size,2,none⟩) m0).trans c2;have g3:w1.cell? ⟨w.heap.size,3,none⟩=some (.int .i64 tr):=(aa.cell (p:=⟨w.heap.size,3,none⟩) m0).trans c3;have g4:w1.cell? ⟨w.heap.size,4,none⟩=some (.int .i64 (tb:Int)):=(aa.cell (p:=⟨w.heap.size,4,none⟩) m0).trans c4;have l1:w.heap.size<w1.heap.size:=afT m0 aa.size;have ag:=Ac ai;have ae:=Ac ad;have af:=Ac ah;clear aa ad ai ah;refine⟨_,rfl,?_⟩))
 all_goals
  go_wp2;go_returns;first
   |exact⟨_,_,_,rfl,aee (V:=BX) (Aa HB) (D7 (Aa ae)) (Aa ag) (Aa af) rfl⟩
   |exact⟨_,_,_,rfl,aef (V:=BX) (Aa HB) (D7 (Aa ae)) (Aa ag) (Aa af) rfl⟩
theorem aes:∀args w,(callFunc 47 args).run Tryz.prog w=.ok (.enter 47 args) w:=fun _ _=>rfl
theorem abf(w:World)(cb:Nat)(j:Nat)(u:Value)(h:([ptr cb]:List Value)[j]?=some u):(w.alloc (.cells #[ptr cb] 93)).cell? ((⟨w.heap.size,0,none⟩:Addr).add j)=some u:=by
 rw[Addr.add_lit,agn,World.cell?_alloc_new w _ _ j,<-agj]at *;exact h
theorem Sb.D7{Ae:Int}{cb lb bm:Nat}(h:Sb w.drew w' k Ae n nb rt tr cb lb bm):Sb w w' k Ae n nb rt tr cb lb bm:=⟨YtblomippkddgiabGreatDoor.D7 h.below,h.c0,h.l0,h.b0,h.cell,h.lines,h.map⟩
theorem YW{w2:World}(hb:Below w.heap.size w w1)(hA:w.heap.size<=A)(aa:w1.heap[A]?=some (.cells #[.int .i64 c.Ad,.int .i64 c.lines,.int .i64 c.Ay,.int .i64 c.tries,.int .i64 c.table] 23 (0,0)))(hs:Xy (w1.alloc (.cells #[.slice none 0 0] 110)) w2 w1.heap.size c s nm jc):
  NI w c A w1.heap.size s w2.heap.size nm jc 0 id id id (.slice none 0 0) (w2.alloc (.cells #[ptr w1.heap.size,ptr s,.slice none 0 0] 71)):=by
 have s0:=hb.size;have hl:=lt_of_block aa;have e1:(w1.alloc (.cells #[.slice none 0 0] 110)).heap.size=w1.heap.size+1:=by simp
 have ab:Below w.heap.size w (w1.alloc (.cells #[.slice none 0 0] 110)):=hb.alloc s0 _;have sb:=hs.below.size;have ac:Below w.heap.size w w2:=ab.trans (hs.below.mono (by omega));have up:∀{b:Nat} {o:Obj},w2.heap[b]?=some o->(w2.alloc (.cells #[ptr w1.heap.size,ptr s,.slice none 0 0] 71)).heap[b]?=some o:=fun hb=>by
  rw[Below.heap_alloc _ _ _ (afR.1 hb).1];exact hb
 have q1:=hs.s0;have q2:=hs.n0;have q3:=hs.j0;refine⟨ac.alloc (by omega) _,up ?_,CM _ _ rfl,World.ownsRow_nil _ _ _ _,up ?_,up hs.cell,up hs.chan,?_,⟨hA,by omega,by omega,by omega,by omega,by omega⟩,(fun j hj=>by cases hj),(fun i hi=>by omega),(fun i j hi=>by omega)⟩
 ·rw[hs.below.block A (by omega),Below.heap_alloc _ _ _ hl];exact aa
 ·rw[hs.below.block _ (by omega)];exact CM _ _ rfl
 ·exact hs.map.above ((Below.refl _ _).alloc (afI _) _)
theorem YU(w:World)(c:R.Cf)(hc:R.BD c):
  Calls Tryz.prog 24 #[UK c.Ad c.lines c.Ay c.tries c.table] w fun e w'=>∃A n s x nm jc cb lb bm K,e=.returned (.tuple #[ptr x,.int .i64 0])/\NI w c A n s x nm jc c.Ad.toNat cb lb bm K w':=by
 have HR:=Ac (QQ c hc);obtain⟨a,b,r,t,tb⟩:=c;obtain⟨⟨h1,h2⟩,⟨h3,h4⟩,⟨h5,h6⟩,⟨h7,h8⟩,h9,h10⟩:=hc;simp only at h1 h2 h3 h4 h5 h6 h7 h8 h9 h10 HR ⊢;have aO:=@run_makeMap Tryz.prog;obtain⟨N,hN⟩:∃N:Nat,a=(N:Int):=⟨a.toNat,by omega⟩;obtain⟨L,hL⟩:∃L:Nat,b=(L:Int):=⟨b.toNat,by omega⟩;obtain⟨T,hT⟩:∃T:Nat,tb=(T:Int):=⟨tb.toNat,by omega⟩;subst hN hL hT;obtain⟨BX,aj⟩:∃BX,w.alloc (.cells #[.int .i64 (N:Int),.int .i64 (L:Int),.int .i64 r,.int .i64 t,.int .i64 (T:Int)] 23)=BX:=⟨_,rfl⟩;have HB:Hid (Below w.heap.size w BX):=by
  rw[<-aj];exact(Below.refl _ _).alloc (afI _) _
 have ae:BX.heap[w.heap.size]?=some (.cells #[.int .i64 (N:Int),.int .i64 (L:Int),.int .i64 r,.int .i64 t,.int .i64 (T:Int)] 23 (0,0)):=by
  rw[<-aj];exact heap_alloc_new w _
 have c0:BX.cell? ⟨w.heap.size,0,none⟩=some (.int .i64 (N:Int)):=cell_of ae 0 _ rfl;have c1:BX.cell? ⟨w.heap.size,1,none⟩=some (.int .i64 (L:Int)):=cell_of ae 1 _ rfl;have c2:BX.cell? ⟨w.heap.size,2,none⟩=some (.int .i64 r):=cell_of ae 2 _ rfl;have c3:BX.cell? ⟨w.heap.size,3,none⟩=some (.int .i64 t):=cell_of ae 3 _ rfl;have c4:BX.cell? ⟨w.heap.size,4,none⟩=some (.int .i64 (T:Int)):=cell_of ae 4 _ rfl;have af:=lt_of_block ae;have az:=Ac aj;have aA:=Ac ae;have aB:=Ac (fun w k nb=>SE w k L nb (N:Int) r t (T:Int) (by omega));obtain⟨i0,hi,aI,aJ,aK⟩:=info_parts acp;clear aj ae;go_enter Tryz.func24,Tryz.ntmps24;go_wp2_with fail
 rw[Aa az];refine((Aa HR) _).mono ?_;rintro e w1 ⟨rfl,ad⟩;have aq:=Ac (fun (w2:World) (s nm jc:Nat) (hs:Xy (w1.alloc (.cells #[.slice none 0 0] 110)) w2 w1.heap.size ⟨(N:Int),(L:Int),r,t,(T:Int)⟩ s nm jc)=>YW (w:=w) (A:=w.heap.size) (c:=⟨(N:Int),(L:Int),r,t,(T:Int)⟩) ((Aa HB).trans (ad.mono (Aa HB).size)) (afI _) ((ad.block _ af).trans (Aa aA)) hs);have aM:w.heap.size<w1.heap.size:=afT af ad.size;have d0:w1.cell? ⟨w.heap.size,0,none⟩=some (.int .i64 (N:Int)):=(ad.cell (p:=⟨w.heap.size,0,none⟩) af).trans c0;have d1:w1.cell? ⟨w.heap.size,1,none⟩=some (.int .i64 (L:Int)):=(ad.cell (p:=⟨w.heap.size,1,none⟩) af).trans c1;have d2:w1.cell? ⟨w.heap.size,2,none⟩=some (.int .i64 r):=(ad.cell (p:=⟨w.heap.size,2,none⟩) af).trans c2;have d3:w1.cell? ⟨w.heap.size,3,none⟩=some (.int .i64 t):=(ad.cell (p:=⟨w.heap.size,3,none⟩) af).trans c3;have d4:w1.cell? ⟨w.heap.size,4,none⟩=some (.int .i64 (T:Int)):=(ad.cell (p:=⟨w.heap.size,4,none⟩) af).trans c4;have aD:=Ac (fun w nb=>Ud w nb T (N:Int) (L:Int) r t (by omega));clear ad c0 c1 c2 c3 c4;go_wp2_with fail
 refine((Aa aD) _ _).mono ?_;rintro e w2 ⟨s,nm,jc,rfl,hs⟩;have ap:=Ac ((Aa aq) w2 s nm jc hs);have f0:(w2.alloc (.cells #[ptr w1.heap.size,ptr s,.slice none 0 0] 71)).cell? ⟨w.heap.size,0,none⟩=some (.int .i64 (N:Int)):=cell_of (Aa ap).cA 0 _ rfl;clear hs aq d0 d1 d2 d3 d4;go_wp2;go_loopw [20] (fun iv wr=>∃(k:Nat) (cb lb bm:Nat->Nat) (K:Value),k<=N/\iv=.int .i64 k/\NI w ⟨(N:Int),(L:Int),r,t,(T:Int)⟩ w.heap.size w1.heap.size s w2.heap.size nm jc k cb lb bm K wr) (fun iv _=>N-(intOf iv).toNat)
 case atStart=>exact⟨0,id,id,id,_,af8 _,rfl,Aa ap⟩
 case round=>
  obtain⟨k,cb,lb,bm,K,hk,rfl,aa⟩:=hrel;by_cases aN:k<N
  ·have ai:=aa.cx;have a2:wr.cell? ⟨w2.heap.size,2,none⟩=some K:=cell_of ai 2 _ rfl;have a0:wr.cell? ⟨w2.heap.size,0,none⟩=some (ptr w1.heap.size):=cell_of ai 0 _ rfl;have f2:wr.frozen? ⟨w2.heap.size,2,none⟩=false:=open_list ai;have b0:wr.cell? ⟨w.heap.size,0,none⟩=some (.int .i64 (N:Int)):=cell_of aa.cA 0 _ rfl;have b1:wr.cell? ⟨w.heap.size,1,none⟩=some (.int .i64 (L:Int)):=cell_of aa.cA 1 _ rfl;have b2:wr.cell? ⟨w.heap.size,2,none⟩=some (.int .i64 r):=cell_of aa.cA 2 _ rfl;have b3:wr.cell? ⟨w.heap.size,3,none⟩=some (.int .i64 t):=cell_of aa.cA 3 _ rfl;have b4:wr.cell? ⟨w.heap.size,4,none⟩=some (.int .i64 (T:Int)):=cell_of aa.cA 4 _ rfl;have am:=lt_of_block ai;have ak:=Ac aa;obtain⟨ka,kc,aF⟩:=AX aa.row;subst aF;have aw:=AV aa.row aa.cx (by decide);have aC:=Ac aw;clear aa ai aw;go_wp2;go_region_law (first
    |(refine Av rfl 47 #[.tmp 28,.tmp 29,.tmp 30] #[3,23,67] rfl aes #[.int .i64 (k:Int),UK (N:Int) (L:Int) r t (T:Int),ptr w1.heap.size] rfl _ ((Aa aB) _ k w1.heap.size) ?_;rintro e w3 ⟨av,aP,aL,rfl,ag⟩;have ah:=D7 ag.below;have s2:=ah.size;have e2:w3.cell? ⟨w2.heap.size,2,none⟩=some (.slice ka k kc):=(ah.cell (p:=⟨w2.heap.size,2,none⟩) am).trans a2;have aE:w3.frozen? ⟨w2.heap.size,2,none⟩=false:=(ah.frozen (p:=⟨w2.heap.size,2,none⟩) am).trans f2;have au:=Ac ag;have ay:=Ac ah;have aG:w2.heap.size<w3.heap.size:=afT am s2;clear ah ag;refine⟨_,rfl,?_⟩)
    |(refine Bp rfl (.tmp 27) (.tmp 32) 69 rfl 0 93 i0 (.pointer none) 1 8 Tryz.underlying69 hi aI aJ aK rfl (by decide) (.slice ka k kc) k (cbs cb k) rfl (by exact(Bu (Aa ak).row (Aa ay)).alloc _) ⟨w3.heap.size,0,none⟩ 1 1 [ptr av] rfl rfl (by exact abf w3 av) (by simp[Value.oneCell']) (by unfold maxLen;omega) (by omega) (by omega) ?_;intro v' wz ac ab ax;obtain⟨va,vn,vc,aH⟩:=Ar ac;subst aH;have al:wz.heap[w2.heap.size]?=w3.heap[w2.heap.size]?:=(ab.block _ (by simp;omega) (fun e=>(Aa aC) e.symm)).trans (Below.heap_alloc _ _ _ aG);have gz:wz.frozen? ⟨w2.heap.size,2,none⟩=false:=(World.frozen?_of_block al).trans aE;have gn:wz.cell? ⟨w2.heap.size,2,none⟩=some (.slice ka k kc):=(World.cell?_of_block al).trans e2;have ar:=Ac ac;have ao:=Ac ab;have an:=Ac ax;clear ac ab ax al))
   all_goals
    have HM:=Ac ((Aa ak).more (Aa au).D7 (Aa ar) (Aa ao) (by have:=Aa an;simpa using this));clear ar ao an au ak;go_wp2;go_roundw
    case rel=>exact⟨k+1,_,_,_,_,by omega,by go_num,Aa HM⟩
    case measure=>simp[intOf];omega
  ·obtain rfl:k=N:=by omega
   go_wp2;go_returns;exact⟨_,_,_,_,_,_,cb,lb,bm,K,rfl,aa⟩
def newG(c:R.Cf):R.Wd:=⟨c,[],[],[],[],List.replicate c.Ad.toNat (R.FF 1 c.lines),[0,0,0],List.replicate 9 R.Cs,[]⟩
theorem ER{x:R.Cl}(h:(newG c).Ad[i]?=some x):i<c.Ad.toNat/\x=R.FF 1 c.lines:=by
 simp only[newG,afZ]at h;split at h
 ·rename_i hi;cases h;exact⟨hi,rfl⟩
 ·cases h
theorem aa6(hc:R.BD c):R.Wf (newG c):=by
 have aa:=hc;unfold R.BD at aa;refine⟨hc,by simp[newG];omega,fun i x hx=>?_,by simp[newG],fun f hf=>by simp[newG]at hf,by simp[newG],fun s hs=>by simp[newG]at hs,by simp[newG],by simp[newG],by simp[newG],fun u hu=>by simp[newG]at hu⟩;obtain⟨_,rfl⟩:=ER hx;refine⟨by simp[R.FF,newG];omega,by simp[R.FF],fun u hu=>by simp[R.FF]at hu,fun k l hl=>?_⟩;simp only[R.FF,afZ]at hl;split at hl
 ·cases hl;exact⟨by simp[R.JC],fun q=>by simp[R.JC]at q⟩
 ·cases hl
theorem LY{r:R.Sn}(h:(List.replicate 9 R.Cs)[i]?=some r):r.seq=0:=by
 rw[afZ]at h;split at h
 ·cases h;rfl
 ·cases h
theorem aa7(hc:R.BD c):R.Md (newG c).c (newG c).Aj (newG c).seen (newG c).jobs:=R.ws0 c hc
theorem LW.made(hc:R.BD c)(h:NI w c A n s x nm jc c.Ad.toNat cb lb bm K w'):
  ∃p F,p.x=x/\LW p F (newG c) w'/\∀k,F k->w.heap.size<=k:=by
 have ad:=hc;unfold R.BD at ad;rcases h.row.2 with ⟨_,h0⟩|⟨g,cap,ac,rfl,_,hg,ae,_,ah,ag⟩
 ·omega
 ·have aa:(newG c).Ad.length=c.Ad.toNat:=by simp[newG]
  have lo:=h.lo;refine⟨⟨x,n,s,g,cap,nm,cb,lb,bm,sp0 jc⟩,fun k=>w.heap.size<=k/\k<w'.heap.size,rfl,⟨aa6 hc,aa7 hc,?_,?_,?_,?_,?_,fun i y hy=>?_,fun i y hy=>?_,fun i y hy=>?_,?_,fun i hi=>?_,fun i j hi hj af=>?_,fun k hk=>hk.2⟩,fun k hk=>hk.1⟩
  ·rw[aa];exact h.cx
  ·refine⟨ac,hg,fun i hi=>?_⟩;rw[aa]at hi;have e1:ac.toList[i]?=(cbs cb c.Ad.toNat)[i]?:=by
    rw[<-ag,af7,if_pos (by omega)]
   simp only[Array.getElem?_toList]at e1;rw[e1];simp[cbs,hi]
  ·exact⟨_,h.cn,World.ownsRow_nil _ _ _ _,fun j hj=>by cases hj⟩
  ·refine⟨h.cs,rfl,World.ownsRow_nil _ _ _ _,fun z hz=>by simp[sp0]at hz,fun i j z y hz=>by simp[sp0]at hz,fun i j z y hz=>by simp[sp0]at hz,fun i r hr ab=>?_,fun i j r r' hr ai ab=>?_,⟨0,0,h.cj⟩,⟨lo.2.2.1,lt_of_block h.cs⟩,⟨lo.2.2.2.2.2,(afR.1 h.cj).1⟩,fun j hj=>by cases hj⟩
   ·exact absurd (LY hr) ab
   ·exact absurd (LY hr) ab
  ·exact h.names.congr (fun a=>by simp[AF,R.BI,newG])
  ·obtain⟨hi,rfl⟩:=ER hy;have:=(h.each i hi).2.1;simpa [Jn,R.FF,newG] using this
  ·obtain⟨hi,rfl⟩:=ER hy;refine⟨_,(h.each i hi).2.2.1,⟨by simp[R.FF],fun k l z hl hz=>?_⟩,fun k l z hl hz=>?_⟩;simp only[R.FF,afZ]at hl hz;by_cases hk:k<c.lines.toNat
   ·rw[if_pos hk]at hl hz;cases hl;cases hz;exact⟨rfl,rfl,fun _=>rfl,fun q=>by simp[R.JC]at q,fun q=>by simp[R.JC]at q⟩
   ·rw[if_neg hk]at hl;cases hl
   simp only[R.FF,afZ]at hl hz;by_cases hk:k<c.lines.toNat
   ·rw[if_pos hk]at hl hz;cases hl;cases hz;exact BF.nil _ _
   ·rw[if_neg hk]at hl;cases hl
  ·obtain⟨hi,rfl⟩:=ER hy;have:=(h.each i hi).2.2.2.1;exact this.congr (fun a=>by simp[BL,R.FF])
  ·exact⟨⟨lo.2.2.2.1,lt_of_block h.cx⟩,⟨lo.2.1,lt_of_block h.cn⟩,⟨h.kb g rfl,lt_of_block hg⟩,⟨lo.2.2.2.2.1,h.names.lt⟩⟩
  ·rw[aa]at hi;obtain⟨⟨a1,a2,a3⟩,b1,b2,b3,b4⟩:=h.each i hi;exact⟨⟨a1,lt_of_block b1⟩,⟨a2,lt_of_block b2⟩,⟨a3,b3.lt⟩,b4⟩
  ·rw[aa]at hi hj;exact h.inj i j hi hj af
theorem aa8(w:World)(c:R.Cf)(hc:R.BD c):
  Calls Tryz.prog 24 #[UK c.Ad c.lines c.Ay c.tries c.table] w fun e w'=>∃p F,e=.returned (.tuple #[ptr p.x,.int .i64 0])/\LW p F (newG c) w'/\(∀k,F k->w.heap.size<=k)/\Below w.heap.size w w':=by
 refine(YU w c hc).mono ?_;rintro e w' ⟨A,n,s,x,nm,jc,cb,lb,bm,K,rfl,h⟩;obtain⟨p,F,rfl,h1,h2⟩:=LW.made hc h;exact⟨p,F,rfl,h1,h2,h.below⟩
end Go.Proofs.YtblomippkddgiabGreatDoor
