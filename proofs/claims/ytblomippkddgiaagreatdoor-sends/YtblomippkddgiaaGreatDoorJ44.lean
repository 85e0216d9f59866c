import Derived.Test.YtblomippkddgiaaGreatDoorJ43
import Derived.Conc.SmallLaws
set_option maxRecDepth 100000
set_option maxHeartbeats 1000000
namespace Go.Proofs.YtblomippkddgiaaGreatDoor
open Go.RowKit
abbrev XJ(a b c d e:Int):Value:=.agg #[.int .i64 a,.int .i64 b,.int .i64 c,.int .i64 d,.int .i64 e]
def Zg:Dl:=⟨0,0,.slice none 0 0,0,0,[],0,[],0,0⟩
theorem Od(n:Nat)(hn:1<=n/\n<=3)(W:World):(Instr.makeSlice 132 (.int .i64 (n:Int)) (.int .i64 (n:Int))).run Tryz.prog W=.ok (.slice (some ⟨W.heap.size,0,none⟩) n n) (W.alloc (.cells (tab Dl.cells (List.replicate n Zg)).toArray 139)):=by
 have h3:n=1\/n=2\/n=3:=by omega
 rcases h3 with rfl|rfl|rfl
 ·show _=_;kernel_rfl
 ·show _=_;kernel_rfl
 ·show _=_;kernel_rfl
structure Nb(w w':World)(k:Nat)(Ax:Int)(n nb:Nat)(rt tr:Int)(cb lb bm:Nat):Prop where
 below:Below w.heap.size w w'
 c0:w.heap.size<=cb
 l0:w.heap.size<=lb
 b0:w.heap.size<=bm
 cell:w'.heap[cb]?=some (.cells #[.int .i64 (k:Int),.int .i64 Ax,.map (some bm),.slice (some ⟨lb,0,none⟩) n n,.int .i64 rt,.int .i64 tr,ptr nb] 134 (0,0))
 lines:w'.heap[lb]?=some (.cells (tab Dl.cells (List.replicate n Zg)).toArray 139 (0,0))
 map:Mp w' 3 bm KY (fun _=>none) 0
theorem Dr(w:World)(o:Obj){n:Nat}(h:w.heap.size=n):(w.alloc o).heap[n]?=some o:=by
 subst h;exact heap_alloc_new w o
theorem Mp.above{α:Type}{w w':World}{k:TypeId}{b:Nat}{lit:α->Lit}{g:α->Option Int}{n:Nat}(h:Mp w k b lit g n)(hb:Below w.heap.size w w'):Mp w' k b lit g n:=h.keep (Ae.Aq hb (fun _=>False)) (fun e=>e)
theorem Zr{w BX:World}{k n nb:Nat}{rt tr:Int}{TL:Array Value}(hb:Below w.heap.size w BX)(hT:TL=(tab Dl.cells (List.replicate n Zg)).toArray):
  Nb w (((BX.alloc (.map #[] 0)).alloc (.cells TL 139)).alloc (.cells #[.int .i64 (k:Int),.int .i64 1,.map (some BX.heap.size),.slice (some ⟨BX.heap.size+1,0,none⟩) n n,.int .i64 rt,.int .i64 tr,ptr nb] 134)).drew k 1 n nb rt tr (BX.heap.size+1+1) (BX.heap.size+1) BX.heap.size:=by
 have s0:=hb.size;have e1:(BX.alloc (.map #[] 0)).heap.size=BX.heap.size+1:=by simp
 have e2:((BX.alloc (.map #[] 0)).alloc (.cells TL 139)).heap.size=BX.heap.size+1+1:=by simp
 refine⟨?_,by omega,by omega,by omega,?_,?_,?_⟩
 ·exact(((hb.alloc s0 _).alloc (by omega) _).alloc (by omega) _).drew
 ·rw[Gy];exact Dr _ _ e2
 ·rw[Gy,Below.heap_alloc _ _ _ (by omega),<-hT];exact Dr _ _ e1
 ·exact(Mp.made BX 3 KY).above (((((Below.refl _ _).alloc (Nat.le_refl _) _).alloc (by omega) _)).drew)
theorem Zs{w BX:World}{k n nb:Nat}{rt tr:Int}{TL:Array Value}(hb:Below w.heap.size w BX)(hT:TL=(tab Dl.cells (List.replicate n Zg)).toArray):
  Nb w (((BX.alloc (.cells TL 139)).alloc (.map #[] 0)).alloc (.cells #[.int .i64 (k:Int),.int .i64 1,.map (some (BX.heap.size+1)),.slice (some ⟨BX.heap.size,0,none⟩) n n,.int .i64 rt,.int .i64 tr,ptr nb] 134)).drew k 1 n nb rt tr (BX.heap.size+1+1) BX.heap.size (BX.heap.size+1):=by
 have s0:=hb.size;have e1:(BX.alloc (.cells TL 139)).heap.size=BX.heap.size+1:=by simp
 have e2:((BX.alloc (.cells TL 139)).alloc (.map #[] 0)).heap.size=BX.heap.size+1+1:=by simp
 refine⟨?_,by omega,by omega,by omega,?_,?_,?_⟩
 ·exact(((hb.alloc s0 _).alloc (by omega) _).alloc (by omega) _).drew
 ·rw[Gy];exact Dr _ _ e2
 ·rw[Gy,Below.heap_alloc _ _ _ (by omega),Below.heap_alloc _ _ _ (by omega),<-hT];exact Dr _ _ rfl
 ·have h0:=Mp.made (BX.alloc (.cells TL 139)) 3 KY;rw[e1]at h0;exact h0.above (((Below.refl _ _).alloc (by omega) _).drew)
theorem NG(w:World)(k n nb:Nat)(a rt tr tb:Int)(hn:1<=n/\n<=3):
  Calls Tryz.prog 59 #[.int .i64 (k:Int),XJ a (n:Int) rt tr tb,ptr nb] w fun e w'=>∃cb lb bm,e=.returned (ptr cb)/\Nb w w' k 1 n nb rt tr cb lb bm:=by
 have hms:=Od n hn;have hmm:=@run_makeMap Tryz.prog;obtain⟨TL,hTL⟩:∃TL,TL=(tab Dl.cells (List.replicate n Zg)).toArray:=⟨_,rfl⟩;rw[<-hTL]at hms;have HTL:=Ab hTL;clear hTL;obtain⟨BX,hBX⟩:∃BX,w.alloc (.cells #[.int .i64 a,.int .i64 (n:Int),.int .i64 rt,.int .i64 tr,.int .i64 tb] 26)=BX:=⟨_,rfl⟩;have HB:Hid (Below w.heap.size w BX):=by
  rw[<-hBX];exact(Below.refl _ _).alloc (Nat.le_refl _) _
 have hbx:BX.heap[w.heap.size]?=some (.cells #[.int .i64 a,.int .i64 (n:Int),.int .i64 rt,.int .i64 tr,.int .i64 tb] 26 (0,0)):=by
  rw[<-hBX];exact heap_alloc_new w _
 have hs:BX.heap.size=w.heap.size+1:=by rw[<-hBX];simp
 have c1:BX.cell? ⟨w.heap.size,1,none⟩=some (.int .i64 (n:Int)):=cell_of hbx 1 _ rfl;have c2:BX.cell? ⟨w.heap.size,2,none⟩=some (.int .i64 rt):=cell_of hbx 2 _ rfl;have c3:BX.cell? ⟨w.heap.size,3,none⟩=some (.int .i64 tr):=cell_of hbx 3 _ rfl;have m0:w.heap.size<BX.heap.size:=by omega
 have HBX:=Ab hBX;have HS:=Ab hs;have HKP:Hid (∀o1 o2 o3,(((BX.alloc o1).alloc o2).alloc o3).drew.cell? ⟨w.heap.size,1,none⟩=some (.int .i64 (n:Int))/\(((BX.alloc o1).alloc o2).alloc o3).drew.cell? ⟨w.heap.size,2,none⟩=some (.int .i64 rt)/\(((BX.alloc o1).alloc o2).alloc o3).drew.cell? ⟨w.heap.size,3,none⟩=some (.int .i64 tr)):=fun o1 o2 o3=>by
  have hb:Below BX.heap.size BX (((BX.alloc o1).alloc o2).alloc o3).drew:=((((Below.refl _ _).alloc (Nat.le_refl _) _).alloc (by simp) _).alloc (by simp;omega) _).drew;exact⟨(hb.cell (p:=⟨w.heap.size,1,none⟩) m0).trans c1,(hb.cell (p:=⟨w.heap.size,2,none⟩) m0).trans c2,(hb.cell (p:=⟨w.heap.size,3,none⟩) m0).trans c3⟩
 clear hBX hbx hs;go_enter Tryz.func59,Tryz.ntmps59;go_wp2_with fail
 rw[Aa HBX];go_region_held3 (fun w'=>w'.cell? ⟨w.heap.size,1,none⟩=some (.int .i64 (n:Int))/\w'.cell? ⟨w.heap.size,2,none⟩=some (.int .i64 rt)/\w'.cell? ⟨w.heap.size,3,none⟩=some (.int .i64 tr)) (first|exact(Aa HKP) _ _ _|go_keep) (fail)
 all_goals
  go_wp2;go_returns
 ·exact⟨_,_,_,rfl,Zr (Aa HB) (Aa HTL)⟩
 ·exact⟨_,_,_,rfl,Zs (Aa HB) (Aa HTL)⟩
theorem Ym:(Tryz.prog.info? 89).map (fun i=>(i.zero,i.size,i.bytes))=some (some (.pointer none),1,8):=by kernel_rfl
def XI(cb:Nat->Nat)(k:Nat):List Value:=(List.range k).map fun i=>ptr (cb i)
def upd(f:Nat->Nat)(k v:Nat):Nat->Nat:=fun j=>if j=k then v else f j
theorem upd_same(f:Nat->Nat)(k v:Nat):upd f k v k=v:=by simp[upd]
theorem Ep(f:Nat->Nat){k v j:Nat}(h:j≠k):upd f k v j=f j:=by simp[upd,h]
theorem V6(cb:Nat->Nat)(k v:Nat):XI (upd cb k v) (k+1)=XI cb k++[ptr v]:=by
 unfold XI;rw[List.range_succ,List.map_append,List.map_singleton,upd_same];congr 1;apply List.map_congr_left;intro i hi;rw[Ep _ (by have:=List.mem_range.1 hi;omega)]
def YT(jc:Nat):SP:=⟨.slice none 0 0,[],fun _=>0,jc⟩
structure NI(w:World)(c:R.Cf)(A n s x nm jc:Nat)(k:Nat)(cb lb bm:Nat->Nat)(K:Value)(wr:World):Prop where
 below:Below w.heap.size w wr
 cA:wr.heap[A]?=some (.cells #[.int .i64 c.Ad,.int .i64 c.lines,.int .i64 c.Al,.int .i64 c.tries,.int .i64 c.table] 26 (0,0))
 cx:wr.heap[x]?=some (.cells #[ptr n,ptr s,K] 84 (0,0))
 row:wr.ownsRow 0 89 1 K k (XI cb k)
 cn:wr.heap[n]?=some (.cells #[.slice none 0 0] 113 (0,0))
 cs:wr.heap[s]?=some (.cells (EQ n nm (YT jc) c [0,0,0] (List.replicate 9 R.Ef)).toArray 167 (0,0))
 cj:wr.heap[jc]?=some (.chan c.table.toNat #[] false 0 0 false)
 names:Mp wr 9 nm G9 (fun _=>none) 0
 lo:w.heap.size<=A/\w.heap.size<=n/\w.heap.size<=s/\w.heap.size<=x/\w.heap.size<=nm/\w.heap.size<=jc
 kb:∀j,K.ownBlock=some j->w.heap.size<=j
 each:∀i,i<k->(w.heap.size<=cb i/\w.heap.size<=lb i/\w.heap.size<=bm i)/\wr.heap[cb i]?=some (.cells #[.int .i64 (i:Int),.int .i64 1,.map (some (bm i)),.slice (some ⟨lb i,0,none⟩) c.lines.toNat c.lines.toNat,.int .i64 c.Al,.int .i64 c.tries,ptr n] 134 (0,0)) /\
  wr.heap[lb i]?=some (.cells (tab Dl.cells (List.replicate c.lines.toNat Zg)).toArray 139 (0,0))/\Mp wr 3 (bm i) KY (fun _=>none) 0/\bm i≠nm
 inj:∀i j,i<k->j<k->i≠j->lb i≠lb j/\bm i≠bm j/\cb i≠cb j
theorem RU{w:World}{B:Nat}{e:TypeId}{size n:Nat}{v:Value}{xs:List Value}(h:w.ownsRow B e size v n xs){b off:Nat}(hne:v.ownBlock≠some b)(u:Value):(w.setCell ⟨b,off,none⟩ u).ownsRow B e size v n xs:=
 Dv h (fun g hg=>Below.heap_setCell _ _ _ _ (fun e=>hne (by rw[hg];exact congrArg some e)))
theorem NI.more{w:World}{c:R.Cf}{A n s x nm jc k:Nat}{cb lb bm:Nat->Nat}{K:Value}{wr w1 wz:World}(h:NI w c A n s x nm jc k cb lb bm K wr){cb' lb' bm':Nat}(hn:Nb wr w1 k 1 c.lines.toNat n c.Al c.tries cb' lb' bm'){K':Value}(hown:wz.ownsRow 0 89 1 K' (k+1) (XI cb k++[ptr cb']))(hg:(w1.alloc (.cells #[ptr cb'] 89)).grownBy wz K.ownBlock)(hat:K'.ownBlock=K.ownBlock\/K'.ownBlock=some (w1.heap.size+1)):
  NI w c A n s x nm jc (k+1) (upd cb k cb') (upd lb k lb') (upd bm k bm') K' (wz.setCell ⟨x,2,none⟩ K'):=by
 have s0:=h.below.size;have s1:=hn.below.size;have hK:Ae (fun q=>K.ownBlock=some q\/q=x) wr (wz.setCell ⟨x,2,none⟩ K'):=
  Ae.setCell (F:=fun q=>K.ownBlock=some q\/q=x) (((Ae.Aq hn.below _).alloc _).grown hg (fun q hq=>Or.inl (Or.inl hq))) (p:=⟨x,2,none⟩) (Or.inl (Or.inr rfl)) _
 have hK1:Ae (fun q=>K.ownBlock=some q\/q=x) w1 (wz.setCell ⟨x,2,none⟩ K'):=
  Ae.setCell (F:=fun q=>K.ownBlock=some q\/q=x) (((Ae.refl _ _).alloc _).grown hg (fun q hq=>Or.inl (Or.inl hq))) (p:=⟨x,2,none⟩) (Or.inl (Or.inr rfl)) _
 have hKx:K.ownBlock≠some x:=Fh h.row h.cx (by decide);have hlx:=lt_of_block h.cx;have at':∀{b:Nat} {ys:Array Value} {t:TypeId} {f:Nat×Nat},wr.heap[b]?=some (.cells ys t f)->t≠84->t≠89->(wz.setCell ⟨x,2,none⟩ K').heap[b]?=some (.cells ys t f):=fun hb h1 h2=>hK.at hb (by
  rintro (e|e)
  ·exact Fh h.row hb (fun q=>h2 q.symm) e
  ·exact AO hb h.cx h1 e)
 have map':∀{α:Type} {t:TypeId} {b:Nat} {lit:α->Lit} {g:α->Option Int} {m:Nat},Mp wr t b lit g m->Mp (wz.setCell ⟨x,2,none⟩ K') t b lit g m:=fun hm=>by
  obtain⟨es,q,hq⟩:=hm.block;refine hm.keep hK ?_;rintro (e|e)
  ·exact EK h.row hq e
  ·exact(FG h.cx hq) e.symm
 have kolt:∀q,K.ownBlock=some q->q<wr.heap.size:=fun q hq=>(World.ownsRow.lt h.row q hq).2
 have new':∀{b:Nat} {o:Obj},w1.heap[b]?=some o->wr.heap.size<=b->(wz.setCell ⟨x,2,none⟩ K').heap[b]?=some o:=fun hb hl=>hK1.at hb (by
  rintro (e|e)
  ·have:=kolt _ e;omega
  ·omega)
 have hne':K'.ownBlock≠some x:=by
  rcases hat with e|e
  ·rw[e];exact hKx
  ·rw[e];intro q;simp at q;omega
 have hcj:¬(K.ownBlock=some jc\/jc=x):=by
  rintro (e|e)
  ·rcases id h.row.2 with ⟨q,_⟩|⟨g,cap,cur',q,_,hg',_⟩
   ·rw[q]at e;cases e
   ·rw[q]at e;cases e;have:=h.cj;rw[hg']at this;cases this
  ·have:=h.cj;rw[e,h.cx]at this;cases this
 refine⟨?_,at' h.cA (by decide) (by decide),?_,?_,at' h.cn (by decide) (by decide),at' h.cs (by decide) (by decide),hK.at h.cj hcj,map' h.names,h.lo,fun j hj=>?_,fun i hi=>?_,fun i j hi hj hij=>?_⟩
 ·exact h.below.trans (hK.below s0 (fun q hq=>by
   rcases hq with hq|rfl
   ·exact h.kb q hq
   ·exact h.lo.2.2.2.1))
 ·have hgx:wz.heap[x]?=some (.cells #[ptr n,ptr s,K] 84 (0,0)):=(hg.block x (by simp;omega) (fun e=>hKx e.symm)).trans ((Below.heap_alloc _ _ _ (by omega)).trans ((hn.below.block x hlx).trans h.cx));exact Ap (cs:=[ptr n,ptr s,K]) (off:=2) hgx K'
 ·rw[V6];exact RU hown hne' _
 ·rcases hat with e|e
  ·exact h.kb j (e ▸ hj)
  ·rw[e]at hj;simp at hj;omega
 ·by_cases hik:i=k
  ·subst hik;simp only[upd_same];obtain⟨es,q,hq⟩:=hn.map.block;refine⟨⟨by have:=hn.c0;omega,by have:=hn.l0;omega,by have:=hn.b0;omega⟩,new' hn.cell hn.c0,new' hn.lines hn.l0,hn.map.keep hK1 ?_,?_⟩
   ·rintro (e|e)
    ·have:=kolt _ e;have:=hn.b0;omega
    ·have:=hn.b0;omega
   ·have:=h.names.lt;have:=hn.b0;omega
  ·obtain⟨a1,a2,a3,a4,a5⟩:=h.each i (by omega);simp only[Ep _ hik];exact⟨a1,at' a2 (by decide) (by decide),at' a3 (by decide) (by decide),map' a4,a5⟩
 ·by_cases hik:i=k
  ·subst hik;have hjk:j≠i:=fun e=>hij e.symm
   obtain⟨_,a2,a3,a4,_⟩:=h.each j (by omega);have l0:=lt_of_block a2;have l1:=lt_of_block a3;have:=hn.c0;have l2:=a4.lt;simp only[upd_same,Ep _ hjk];have:=hn.l0;have:=hn.b0;omega
  ·by_cases hjk:j=k
   ·subst hjk;obtain⟨_,a2,a3,a4,_⟩:=h.each i (by omega);have l0:=lt_of_block a2;have l1:=lt_of_block a3;have:=hn.c0;have l2:=a4.lt;simp only[upd_same,Ep _ hik];have:=hn.l0;have:=hn.b0;omega
   ·simp only[Ep _ hik,Ep _ hjk];exact h.inj i j (by omega) (by omega) hij
theorem Me(c:R.Cf)(hc:R.Cj c)(w:World):Calls Tryz.prog 57 #[XJ c.Ad c.lines c.Al c.tries c.table] w fun e w'=>e=.returned (.bool true)/\Below w.heap.size w w':=by
 obtain⟨a,b,r,t,e⟩:=c;obtain⟨⟨h1,h2⟩,⟨h3,h4⟩,⟨h5,h6⟩,⟨h7,h8⟩,h9,h10⟩:=hc;simp only at h1 h2 h3 h4 h5 h6 h7 h8 h9 h10 ⊢;go_enter Tryz.func57,Tryz.ntmps57;go_wp2_with (first|(go_at_call 104;go_in))
 go_returns;exact⟨rfl,(Below.refl _ _).alloc (Nat.le_refl _) _⟩
def Yq(jc:Nat):Value:=.agg #[.int .i64 0,.int .i64 0,.int .i64 0,.pointer none,.pointer none,.pointer none,.pointer none,.pointer none,.pointer none,.pointer none,.pointer none,.pointer none,.chan (some jc)]
theorem WG:(Tryz.prog.info? 145).map (fun i=>i.bytes)=some 40:=by kernel_rfl
theorem QQ(n:Nat)(hn:n<=9)(W:World):(Instr.makeChan 163 (.int .i64 (n:Int))).run Tryz.prog W=.ok (.chan (some W.heap.size)) (W.alloc (.chan n #[] false 0 0 false)):=by
 have h:=WG;cases hi:Tryz.prog.info? 145 with
 |none=>rw[hi]at h;cases h
 |some i=>
  rw[hi]at h;simp only[Option.map_some,Option.some.injEq]at h;exact Go.Conc.run_makeChan Tryz.underlying163 hi .i64 n (by omega) (by rw[h];omega)
theorem WO(w:World)(n:Nat)(hn:n<=9):Calls Tryz.prog 105 #[.int .i64 (n:Int)] w fun e w'=>e=.returned (Yq (w.heap.size+1))/\Below w.heap.size w w'/\w'.heap.size=w.heap.size+1+1/\w'.heap[w.heap.size+1]?=some (.chan n #[] false 0 0 false):=by
 have hmc:=QQ n hn;unfold Yq;go_enter Tryz.func105,Tryz.ntmps105;go_wp2;go_returns;refine⟨rfl,((Below.refl _ _).alloc (Nat.le_refl _) _).alloc (by simp) _,by simp,?_⟩;exact Dr _ _ (by simp)
structure Ti(w w':World)(n:Nat)(c:R.Cf)(s nm jc:Nat):Prop where
 below:Below w.heap.size w w'
 s0:w.heap.size<=s
 n0:w.heap.size<=nm
 j0:w.heap.size<=jc
 cell:w'.heap[s]?=some (.cells (EQ n nm (YT jc) c [0,0,0] (List.replicate 9 R.Ef)).toArray 167 (0,0))
 chan:w'.heap[jc]?=some (.chan c.table.toNat #[] false 0 0 false)
 map:Mp w' 9 nm G9 (fun _=>none) 0
abbrev OZ(a b rt tr tb:Int)(nm jc nb:Nat):Array Value:=#[.int .i64 a,.int .i64 b,.int .i64 rt,.int .i64 tr,.int .i64 tb,.map (some nm),.slice none 0 0,.int .i64 0,.int .i64 0,.int .i64 0,.pointer none,.pointer none,.pointer none,.pointer none,.pointer none,.pointer none,.pointer none,.pointer none,.pointer none,.chan (some jc),ptr nb]
theorem Km(a b rt tr tb:Int)(nm jc nb:Nat):(EQ nb nm (YT jc) ⟨a,b,rt,tr,tb⟩ [0,0,0] (List.replicate 9 R.Ef)).toArray=OZ a b rt tr tb nm jc nb:=rfl
theorem ZM{w V w1:World}{a b rt tr:Int}{tb nb:Nat}(hV:Below w.heap.size w V)(hb:Below (V.alloc (.map #[] 0)).heap.size (V.alloc (.map #[] 0)) w1)(hs:w1.heap.size=(V.alloc (.map #[] 0)).heap.size+1+1)(hj:w1.heap[(V.alloc (.map #[] 0)).heap.size+1]?=some (.chan tb #[] false 0 0 false)){o:Obj}(ho:o=.cells (OZ a b rt tr tb V.heap.size (V.heap.size+1+1) nb) 167 (0,0)):Ti w (w1.alloc o) nb ⟨a,b,rt,tr,tb⟩ w1.heap.size V.heap.size (V.heap.size+1+1):=by
 subst ho;have s0:=hV.size;have e1:(V.alloc (.map #[] 0)).heap.size=V.heap.size+1:=by simp
 have hb':Below w.heap.size w w1:=(hV.alloc s0 _).trans (hb.mono (by omega));refine⟨hb'.alloc (by omega) _,by omega,by omega,by omega,?_,?_,?_⟩
 ·rw[Km];exact Dr _ _ rfl
 ·rw[Below.heap_alloc _ _ _ (by omega),<-e1];exact hj
 ·exact((Mp.made V 9 G9).above hb).above ((Below.refl _ _).alloc (Nat.le_refl _) _)
theorem ZN{w V w1:World}{a b rt tr:Int}{tb nb:Nat}(hV:Below w.heap.size w V)(hb:Below V.heap.size V w1)(hs:w1.heap.size=V.heap.size+1+1)(hj:w1.heap[V.heap.size+1]?=some (.chan tb #[] false 0 0 false)){o:Obj}(ho:o=.cells (OZ a b rt tr tb w1.heap.size (V.heap.size+1) nb) 167 (0,0)):Ti w ((w1.alloc (.map #[] 0)).alloc o) nb ⟨a,b,rt,tr,tb⟩ (w1.heap.size+1) w1.heap.size (V.heap.size+1):=by
 subst ho;have s0:=hV.size;have e1:(w1.alloc (.map #[] 0)).heap.size=w1.heap.size+1:=by simp
 have hb':Below w.heap.size w w1:=hV.trans (hb.mono (by omega));refine⟨(hb'.alloc (by omega) _).alloc (by omega) _,by omega,by omega,by omega,?_,?_,?_⟩
 ·rw[Km];exact Dr _ _ e1
 ·rw[Below.heap_alloc _ _ _ (by omega),Below.heap_alloc _ _ _ (by omega)];exact hj
 ·exact(Mp.made w1 9 G9).above ((Below.refl _ _).alloc (Nat.le_refl _) _)
theorem Zm:∀args w,(callFunc 105 args).run Tryz.prog w=.ok (.enter 105 args) w:=fun _ _=>rfl
theorem O8(w:World)(nb tb:Nat)(a b rt tr:Int)(ht:tb<=9):Calls Tryz.prog 58 #[XJ a b rt tr (tb:Int),ptr nb] w fun e w'=>∃s nm jc,e=.returned (ptr s)/\Ti w w' nb ⟨a,b,rt,tr,tb⟩ s nm jc:=by
 have hmm:=@run_makeMap Tryz.prog;obtain⟨BX,hBX⟩:∃BX,w.alloc (.cells #[.int .i64 a,.int .i64 b,.int .i64 rt,.int .i64 tr,.int .i64 (tb:Int)] 26)=BX:=⟨_,rfl⟩;have HB:Hid (Below w.heap.size w BX):=by
  rw[<-hBX];exact(Below.refl _ _).alloc (Nat.le_refl _) _
 have hbx:BX.heap[w.heap.size]?=some (.cells #[.int .i64 a,.int .i64 b,.int .i64 rt,.int .i64 tr,.int .i64 (tb:Int)] 26 (0,0)):=by
  rw[<-hBX];exact heap_alloc_new w _
 have c0:BX.cell? ⟨w.heap.size,0,none⟩=some (.int .i64 a):=cell_of hbx 0 _ rfl;have c1:BX.cell? ⟨w.heap.size,1,none⟩=some (.int .i64 b):=cell_of hbx 1 _ rfl;have c2:BX.cell? ⟨w.heap.size,2,none⟩=some (.int .i64 rt):=cell_of hbx 2 _ rfl;have c3:BX.cell? ⟨w.heap.size,3,none⟩=some (.int .i64 tr):=cell_of hbx 3 _ rfl;have c4:BX.cell? ⟨w.heap.size,4,none⟩=some (.int .i64 (tb:Int)):=cell_of hbx 4 _ rfl;have m0:=lt_of_block hbx;have HBX:=Ab hBX;have HM:=Ab (fun w=>WO w tb ht);simp only[Yq]at HM;clear hBX hbx;go_enter Tryz.func58,Tryz.ntmps58;go_wp2_with fail
 rw[Aa HBX];go_region_law (first
  |(refine CV rfl 105 #[.tmp 8] #[3] rfl Zm #[.int .i64 (tb:Int)] rfl _ ((Aa HM) _) ?_;rintro e w1 ⟨rfl,hb1,hs1,hj1⟩;have hbA:Below BX.heap.size BX w1:=(by first|exact Ez hb1|exact(((Below.refl BX.heap.size BX).alloc (Nat.le_refl _) _).drew).trans (hb1.mono (by simp)));have g0:w1.cell? ⟨w.heap.size,0,none⟩=some (.int .i64 a):=(hbA.cell (p:=⟨w.heap.size,0,none⟩) m0).trans c0;have g1:w1.cell? ⟨w.heap.size,1,none⟩=some (.int .i64 b):=(hbA.cell (p:=⟨w.heap.size,1,none⟩) m0).trans c1;have g2:w1.cell? ⟨w.heap.size,2,none⟩=some (.int .i64 rt):=(hbA.cell (p:=⟨w.heap.size,2,none⟩) m0).trans c2;have g3:w1.cell? ⟨w.heap.size,3,none⟩=some (.int .i64 tr):=(hbA.cell (p:=⟨w.heap.size,3,none⟩) m0).trans c3;have g4:w1.cell? ⟨w.heap.size,4,none⟩=some (.int .i64 (tb:Int)):=(hbA.cell (p:=⟨w.heap.size,4,none⟩) m0).trans c4;have l1:w.heap.size<w1.heap.size:=Nat.lt_of_lt_of_le m0 hbA.size;have HS1:=Ab hs1;have HB1:=Ab hb1;have HJ1:=Ab hj1;clear hbA hb1 hs1 hj1;refine⟨_,rfl,?_⟩))
 all_goals
  go_wp2;go_returns;first
   |exact⟨_,_,_,rfl,ZM (V:=BX) (Aa HB) (Ez (Aa HB1)) (Aa HS1) (Aa HJ1) rfl⟩
   |exact⟨_,_,_,rfl,ZN (V:=BX) (Aa HB) (Ez (Aa HB1)) (Aa HS1) (Aa HJ1) rfl⟩
theorem LW.export{p:Pl}{F:Ag}{G:R.Wd}{w:World}(h:LW p F G w)(name:List UInt8)(kind:Int):
  Calls Tryz.prog 60 #[ptr p.x,.string (str name),.int .i64 kind] w fun e w'=>e=.returned (.tuple #[.int .i64 (R.AJ G name kind).1.1,.int .i64 (R.AJ G name kind).1.2])/\XE p F w (R.AJ G name kind).2 w':=
 LV w p.x p.n p.s p.cs _ _ (str name) kind _ _ (XE p F w (R.AJ G name kind).2) h.bx (Ab (h.Xn name kind))
theorem Oa(a b r t e:Int)(h:¬R.Cj ⟨a,b,r,t,e⟩)(w:World):Calls Tryz.prog 57 #[XJ a b r t e] w fun e w'=>e=.returned (.bool false)/\Below w.heap.size w w':=by
 by_cases hk0:1<=a/\a<=3
 ·obtain⟨ha0,hz0⟩:=hk0;by_cases hk1:1<=b/\b<=3
  ·obtain⟨ha1,hz1⟩:=hk1;by_cases hk2:1<=r/\r<=8
   ·obtain⟨ha2,hz2⟩:=hk2;by_cases hk3:1<=t/\t<=6
    ·obtain⟨ha3,hz3⟩:=hk3;have hx:¬(1<=e/\e<=9):=fun q=>h ⟨⟨ha0,hz0⟩,⟨ha1,hz1⟩,⟨ha2,hz2⟩,⟨ha3,hz3⟩,q⟩
     clear h;rcases(show e<1\/(1<=e/\9<e) by omega) with q4|⟨q4,q4'⟩;all_goals
      try have nq:¬e<=9:=(by omega)
      go_enter Tryz.func57,Tryz.ntmps57;go_wp2_with (first|(go_at_call 104;go_in))
      go_returns;exact⟨rfl,(Below.refl _ _).alloc (Nat.le_refl _) _⟩
    ·clear h;rcases(show t<1\/(1<=t/\6<t) by omega) with q3|⟨q3,q3'⟩;all_goals
      try have nq:¬t<=6:=(by omega)
      go_enter Tryz.func57,Tryz.ntmps57;go_wp2_with (first|(go_at_call 104;go_in))
      go_returns;exact⟨rfl,(Below.refl _ _).alloc (Nat.le_refl _) _⟩
   ·clear h;rcases(show r<1\/(1<=r/\8<r) by omega) with q2|⟨q2,q2'⟩;all_goals
     try have nq:¬r<=8:=(by omega)
     go_enter Tryz.func57,Tryz.ntmps57;go_wp2_with (first|(go_at_call 104;go_in))
     go_returns;exact⟨rfl,(Below.refl _ _).alloc (Nat.le_refl _) _⟩
  ·clear h;rcases(show b<1\/(1<=b/\3<b) by omega) with q1|⟨q1,q1'⟩;all_goals
    try have nq:¬b<=3:=(by omega)
    go_enter Tryz.func57,Tryz.ntmps57;go_wp2_with (first|(go_at_call 104;go_in))
    go_returns;exact⟨rfl,(Below.refl _ _).alloc (Nat.le_refl _) _⟩
 ·clear h;rcases(show a<1\/(1<=a/\3<a) by omega) with q0|⟨q0,q0'⟩;all_goals
   try have nq:¬a<=3:=(by omega)
   go_enter Tryz.func57,Tryz.ntmps57;go_wp2_with (first|(go_at_call 104;go_in))
   go_returns;exact⟨rfl,(Below.refl _ _).alloc (Nat.le_refl _) _⟩
theorem Yt(a b r t e:Int)(h:¬R.Cj ⟨a,b,r,t,e⟩)(w:World):Calls Tryz.prog 27 #[XJ a b r t e] w fun e w'=>e=.returned (.tuple #[.pointer none,.int .i64 8])/\Below w.heap.size w w':=by
 obtain⟨W,hW⟩:∃W,w.alloc (.cells #[.int .i64 a,.int .i64 b,.int .i64 r,.int .i64 t,.int .i64 e] 26)=W:=⟨_,rfl⟩;have hb:Below w.heap.size w W:=by rw[<-hW];exact(Below.refl _ _).alloc (Nat.le_refl _) _
 have HC:=Ab (Oa a b r t e h W);have HW:=Ab hW;have HB:=Ab hb;clear h hW hb;go_enter Tryz.func27,Tryz.ntmps27;go_wp2_with fail
 rw[Aa HW];refine(Aa HC).mono ?_;rintro e w1 ⟨rfl,hb1⟩;have HB1:=Ab ((Aa HB).trans (hb1.mono (Aa HB).size));clear hb1;go_wp2_with fail
 go_returns;exact⟨rfl,Aa HB1⟩
end Go.Proofs.YtblomippkddgiaaGreatDoor
