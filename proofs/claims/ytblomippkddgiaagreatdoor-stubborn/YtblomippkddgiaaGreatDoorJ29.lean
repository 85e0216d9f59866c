import Derived.Test.YtblomippkddgiaaGreatDoorJ28
import Derived.Conc.SmallLaws
set_option maxRecDepth 100000
set_option maxHeartbeats 2000000
namespace Go.Proofs.YtblomippkddgiaaGreatDoor
open Go.RowKit
abbrev cfv(a b c d e:Int):Value:=.agg #[.int .i64 a,.int .i64 b,.int .i64 c,.int .i64 d,.int .i64 e]
def zln:LLn:=⟨0,0,.slice none 0 0,0,0,[],0,[],0,0⟩
theorem ai7(n:Nat)(hn:1≤n∧n≤3)(W:World):(Instr.makeSlice 132 (.int .i64 (n:Int)) (.int .i64 (n:Int))).run Tryz.prog W=.ok (.slice (some ⟨W.heap.size,0,none⟩) n n) (W.alloc (.cells (tab LLn.cells (List.replicate n zln)).toArray 139)):=by
 have h3:n=1∨n=2∨n=3:=by omega
 rcases h3 with rfl|rfl|rfl
 ·show _=_
  kernel_rfl
 ·show _=_
  kernel_rfl
 ·show _=_
  kernel_rfl
structure Cnew(w w':World)(k:Nat)(life:Int)(n nb:Nat)(rt tr:Int)(cb lb bm:Nat):Prop where
 below:Below w.heap.size w w'
 c0:w.heap.size≤cb
 l0:w.heap.size≤lb
 b0:w.heap.size≤bm
 cell:w'.heap[cb]?=some (.cells #[.int .i64 (k:Int),.int .i64 life,.map (some bm),.slice (some ⟨lb,0,none⟩) n n,.int .i64 rt,.int .i64 tr,ptr nb] 134 (0,0))
 lines:w'.heap[lb]?=some (.cells (tab LLn.cells (List.replicate n zln)).toArray 139 (0,0))
 map:Mp w' 3 bm alW (fun _=>none) 0
theorem aaR(w:World)(o:Obj){n:Nat}(h:w.heap.size=n):(w.alloc o).heap[n]?=some o:=by
 subst h
 exact heap_alloc_new w o
theorem Mp.above{α:Type}{w w':World}{k:TypeId}{b:Nat}{lit:α→Lit}{g:α→Option Int}{n:Nat}(h:Mp w k b lit g n)(hb:Below w.heap.size w w'):Mp w' k b lit g n:=h.keep (Keeps.ofBelow hb (fun _=>False)) (fun e=>e)
theorem aqT{w BX:World}{k n nb:Nat}{rt tr:Int}{TL:Array Value}(hb:Below w.heap.size w BX)(hT:TL=(tab LLn.cells (List.replicate n zln)).toArray) :
  Cnew w (((BX.alloc (.map #[] 0)).alloc (.cells TL 139)).alloc (.cells #[.int .i64 (k:Int),.int .i64 1,.map (some BX.heap.size),.slice (some ⟨BX.heap.size+1,0,none⟩) n n,.int .i64 rt,.int .i64 tr,ptr nb] 134)).drew k 1 n nb rt tr (BX.heap.size+1+1) (BX.heap.size+1) BX.heap.size:=by
 have s0:=hb.size
 have e1:(BX.alloc (.map #[] 0)).heap.size=BX.heap.size+1:=by simp
 have e2:((BX.alloc (.map #[] 0)).alloc (.cells TL 139)).heap.size=BX.heap.size+1+1:=by simp
 refine⟨?_,by omega,by omega,by omega,?_,?_,?_⟩
 ·exact(((hb.alloc s0 _).alloc (by omega) _).alloc (by omega) _).drew
 ·rw[abS]
  exact aaR _ _ e2
 ·rw[abS,Below.heap_alloc _ _ _ (by omega),←hT]
  exact aaR _ _ e1
 ·exact(Mp.made BX 3 alW).above (((((Below.refl _ _).alloc (Nat.le_refl _) _).alloc (by omega) _)).drew)
theorem aqS{w BX:World}{k n nb:Nat}{rt tr:Int}{TL:Array Value}(hb:Below w.heap.size w BX)(hT:TL=(tab LLn.cells (List.replicate n zln)).toArray) :
  Cnew w (((BX.alloc (.cells TL 139)).alloc (.map #[] 0)).alloc (.cells #[.int .i64 (k:Int),.int .i64 1,.map (some (BX.heap.size+1)),.slice (some ⟨BX.heap.size,0,none⟩) n n,.int .i64 rt,.int .i64 tr,ptr nb] 134)).drew k 1 n nb rt tr (BX.heap.size+1+1) BX.heap.size (BX.heap.size+1):=by
 have s0:=hb.size
 have e1:(BX.alloc (.cells TL 139)).heap.size=BX.heap.size+1:=by simp
 have e2:((BX.alloc (.cells TL 139)).alloc (.map #[] 0)).heap.size=BX.heap.size+1+1:=by simp
 refine⟨?_,by omega,by omega,by omega,?_,?_,?_⟩
 ·exact(((hb.alloc s0 _).alloc (by omega) _).alloc (by omega) _).drew
 ·rw[abS]
  exact aaR _ _ e2
 ·rw[abS,Below.heap_alloc _ _ _ (by omega),Below.heap_alloc _ _ _ (by omega),←hT]
  exact aaR _ _ rfl
 ·have h0:=Mp.made (BX.alloc (.cells TL 139)) 3 alW
  rw[e1]at h0
  exact h0.above (((Below.refl _ _).alloc (by omega) _).drew)
theorem ajy(w:World)(k n nb:Nat)(a rt tr tb:Int)(hn:1≤n∧n≤3) :
  Calls Tryz.prog 59 #[.int .i64 (k:Int),cfv a (n:Int) rt tr tb,ptr nb] w fun e w'=>∃cb lb bm,e=.returned (ptr cb)∧Cnew w w' k 1 n nb rt tr cb lb bm:=by
 have hms:=ai7 n hn
 have hmm:=@run_makeMap Tryz.prog
 obtain⟨TL,hTL⟩:∃TL,TL=(tab LLn.cells (List.replicate n zln)).toArray:=⟨_,rfl⟩
 rw[←hTL]at hms
 have HTL:=aab hTL
 clear hTL
 obtain⟨BX,hBX⟩:∃BX,w.alloc (.cells #[.int .i64 a,.int .i64 (n:Int),.int .i64 rt,.int .i64 tr,.int .i64 tb] 26)=BX:=⟨_,rfl⟩
 have HB:Hid (Below w.heap.size w BX):=by
  rw[←hBX]
  exact(Below.refl _ _).alloc (Nat.le_refl _) _
 have hbx:BX.heap[w.heap.size]?=some (.cells #[.int .i64 a,.int .i64 (n:Int),.int .i64 rt,.int .i64 tr,.int .i64 tb] 26 (0,0)):=by
  rw[←hBX]
  exact heap_alloc_new w _
 have hs:BX.heap.size=w.heap.size+1:=by rw[←hBX];simp
 have c1:BX.cell? ⟨w.heap.size,1,none⟩=some (.int .i64 (n:Int)):=aaa hbx 1 _ rfl
 have c2:BX.cell? ⟨w.heap.size,2,none⟩=some (.int .i64 rt):=aaa hbx 2 _ rfl
 have c3:BX.cell? ⟨w.heap.size,3,none⟩=some (.int .i64 tr):=aaa hbx 3 _ rfl
 have m0:w.heap.size<BX.heap.size:=by omega
 have HBX:=aab hBX
 have HS:=aab hs
 have HKP:Hid (∀o1 o2 o3,(((BX.alloc o1).alloc o2).alloc o3).drew.cell? ⟨w.heap.size,1,none⟩=some (.int .i64 (n:Int))∧(((BX.alloc o1).alloc o2).alloc o3).drew.cell? ⟨w.heap.size,2,none⟩=some (.int .i64 rt)∧(((BX.alloc o1).alloc o2).alloc o3).drew.cell? ⟨w.heap.size,3,none⟩=some (.int .i64 tr)):=fun o1 o2 o3=>by
  have hb:Below BX.heap.size BX (((BX.alloc o1).alloc o2).alloc o3).drew:=((((Below.refl _ _).alloc (Nat.le_refl _) _).alloc (by simp) _).alloc (by simp;omega) _).drew
  exact⟨(hb.cell (p:=⟨w.heap.size,1,none⟩) m0).trans c1,(hb.cell (p:=⟨w.heap.size,2,none⟩) m0).trans c2,(hb.cell (p:=⟨w.heap.size,3,none⟩) m0).trans c3⟩
 clear hBX hbx hs
 go_enter Tryz.func59,Tryz.ntmps59
 go_wp2_with fail
 rw[unhide HBX]
 go_region_held3 (fun w'=>w'.cell? ⟨w.heap.size,1,none⟩=some (.int .i64 (n:Int))∧w'.cell? ⟨w.heap.size,2,none⟩=some (.int .i64 rt)∧w'.cell? ⟨w.heap.size,3,none⟩=some (.int .i64 tr)) (first|exact(unhide HKP) _ _ _|go_keep) (fail)
 all_goals
  go_wp2
  go_returns
 ·exact⟨_,_,_,rfl,aqT (unhide HB) (unhide HTL)⟩
 ·exact⟨_,_,_,rfl,aqS (unhide HB) (unhide HTL)⟩
theorem ap1:(Tryz.prog.info? 89).map (fun i=>(i.zero,i.size,i.bytes))=some (some (.pointer none),1,8):=by kernel_rfl
def cbs(cb:Nat→Nat)(k:Nat):List Value:=(List.range k).map fun i=>ptr (cb i)
def upd(f:Nat→Nat)(k v:Nat):Nat→Nat:=fun j=>if j=k then v else f j
theorem adE(f:Nat→Nat)(k v:Nat):upd f k v k=v:=by simp[upd]
theorem abH(f:Nat→Nat){k v j:Nat}(h:j≠k):upd f k v j=f j:=by simp[upd,h]
theorem apd(cb:Nat→Nat)(k v:Nat):cbs (upd cb k v) (k+1)=cbs cb k++[ptr v]:=by
 unfold cbs
 rw[List.range_succ,List.map_append,List.map_singleton,adE]
 congr 1
 apply List.map_congr_left
 intro i hi
 rw[abH _ (by have:=List.mem_range.1 hi;omega)]
def sp0(jc:Nat):SP:=⟨.slice none 0 0,[],fun _=>0,jc⟩
structure NI(w:World)(c:R.Cf)(A n s x nm jc:Nat)(k:Nat)(cb lb bm:Nat→Nat)(K:Value)(wr:World):Prop where
 below:Below w.heap.size w wr
 cA:wr.heap[A]?=some (.cells #[.int .i64 c.clients,.int .i64 c.lines,.int .i64 c.retry,.int .i64 c.tries,.int .i64 c.table] 26 (0,0))
 cx:wr.heap[x]?=some (.cells #[ptr n,ptr s,K] 84 (0,0))
 row:wr.ownsRow 0 89 1 K k (cbs cb k)
 cn:wr.heap[n]?=some (.cells #[.slice none 0 0] 113 (0,0))
 cs:wr.heap[s]?=some (.cells (aaS n nm (sp0 jc) c [0,0,0] (List.replicate 9 R.sn0)).toArray 167 (0,0))
 cj:wr.heap[jc]?=some (.chan c.table.toNat #[] false 0 0 false)
 names:Mp wr 9 nm ann (fun _=>none) 0
 lo:w.heap.size≤A∧w.heap.size≤n∧w.heap.size≤s∧w.heap.size≤x∧w.heap.size≤nm∧w.heap.size≤jc
 kb:∀j,K.ownBlock=some j→w.heap.size≤j
 each:∀i,i<k→(w.heap.size≤cb i∧w.heap.size≤lb i∧w.heap.size≤bm i)∧wr.heap[cb i]?=some (.cells #[.int .i64 (i:Int),.int .i64 1,.map (some (bm i)),.slice (some ⟨lb i,0,none⟩) c.lines.toNat c.lines.toNat,.int .i64 c.retry,.int .i64 c.tries,ptr n] 134 (0,0)) ∧
  wr.heap[lb i]?=some (.cells (tab LLn.cells (List.replicate c.lines.toNat zln)).toArray 139 (0,0))∧Mp wr 3 (bm i) alW (fun _=>none) 0∧bm i≠nm
 inj:∀i j,i<k→j<k→i≠j→lb i≠lb j∧bm i≠bm j∧cb i≠cb j
theorem aam{w:World}{B:Nat}{e:TypeId}{size n:Nat}{v:Value}{xs:List Value}(h:w.ownsRow B e size v n xs){b off:Nat}(hne:v.ownBlock≠some b)(u:Value):(w.setCell ⟨b,off,none⟩ u).ownsRow B e size v n xs:=
 acj h (fun g hg=>Below.heap_setCell _ _ _ _ (fun e=>hne (by rw[hg];exact congrArg some e)))
theorem NI.more{w:World}{c:R.Cf}{A n s x nm jc k:Nat}{cb lb bm:Nat→Nat}{K:Value}{wr w1 wz:World}(h:NI w c A n s x nm jc k cb lb bm K wr){cb' lb' bm':Nat}(hn:Cnew wr w1 k 1 c.lines.toNat n c.retry c.tries cb' lb' bm'){K':Value}(hown:wz.ownsRow 0 89 1 K' (k+1) (cbs cb k++[ptr cb']))(hg:(w1.alloc (.cells #[ptr cb'] 89)).grownBy wz K.ownBlock)(hat:K'.ownBlock=K.ownBlock∨K'.ownBlock=some (w1.heap.size+1)) :
  NI w c A n s x nm jc (k+1) (upd cb k cb') (upd lb k lb') (upd bm k bm') K' (wz.setCell ⟨x,2,none⟩ K'):=by
 have s0:=h.below.size
 have s1:=hn.below.size
 have hK:Keeps (fun q=>K.ownBlock=some q∨q=x) wr (wz.setCell ⟨x,2,none⟩ K'):=
  Keeps.setCell (F:=fun q=>K.ownBlock=some q∨q=x) (((Keeps.ofBelow hn.below _).alloc _).grown hg (fun q hq=>Or.inl (Or.inl hq))) (p:=⟨x,2,none⟩) (Or.inl (Or.inr rfl)) _
 have hK1:Keeps (fun q=>K.ownBlock=some q∨q=x) w1 (wz.setCell ⟨x,2,none⟩ K'):=
  Keeps.setCell (F:=fun q=>K.ownBlock=some q∨q=x) (((Keeps.refl _ _).alloc _).grown hg (fun q hq=>Or.inl (Or.inl hq))) (p:=⟨x,2,none⟩) (Or.inl (Or.inr rfl)) _
 have hKx:K.ownBlock≠some x:=aao h.row h.cx (by decide)
 have hlx:=lt_of_block h.cx
 have at':∀{b:Nat} {ys:Array Value} {t:TypeId} {f:Nat×Nat},wr.heap[b]?=some (.cells ys t f)→t≠84→t≠89→(wz.setCell ⟨x,2,none⟩ K').heap[b]?=some (.cells ys t f):=fun hb h1 h2=>hK.at hb (by
  rintro (e|e)
  ·exact aao h.row hb (fun q=>h2 q.symm) e
  ·exact ne_tag hb h.cx h1 e)
 have map':∀{α:Type} {t:TypeId} {b:Nat} {lit:α→Lit} {g:α→Option Int} {m:Nat},Mp wr t b lit g m→Mp (wz.setCell ⟨x,2,none⟩ K') t b lit g m:=fun hm=>by
  obtain⟨es,q,hq⟩:=hm.block
  refine hm.keep hK ?_
  rintro (e|e)
  ·exact abR h.row hq e
  ·exact(ado h.cx hq) e.symm
 have kolt:∀q,K.ownBlock=some q→q<wr.heap.size:=fun q hq=>(World.ownsRow.lt h.row q hq).2
 have new':∀{b:Nat} {o:Obj},w1.heap[b]?=some o→wr.heap.size≤b→(wz.setCell ⟨x,2,none⟩ K').heap[b]?=some o:=fun hb hl=>hK1.at hb (by
  rintro (e|e)
  ·have:=kolt _ e
   omega
  ·omega)
 have hne':K'.ownBlock≠some x:=by
  rcases hat with e|e
  ·rw[e];exact hKx
  ·rw[e]
   intro q
   simp at q
   omega
 have hcj:¬(K.ownBlock=some jc∨jc=x):=by
  rintro (e|e)
  ·rcases id h.row.2 with ⟨q,_⟩|⟨g,cap,cur',q,_,hg',_⟩
   ·rw[q]at e;cases e
   ·rw[q]at e
    cases e
    have:=h.cj
    rw[hg']at this
    cases this
  ·have:=h.cj
   rw[e,h.cx]at this
   cases this
 refine⟨?_,at' h.cA (by decide) (by decide),?_,?_,at' h.cn (by decide) (by decide),at' h.cs (by decide) (by decide),hK.at h.cj hcj,map' h.names,h.lo,fun j hj=>?_,fun i hi=>?_,fun i j hi hj hij=>?_⟩
 ·exact h.below.trans (hK.below s0 (fun q hq=>by
   rcases hq with hq|rfl
   ·exact h.kb q hq
   ·exact h.lo.2.2.2.1))
 ·have hgx:wz.heap[x]?=some (.cells #[ptr n,ptr s,K] 84 (0,0)):=(hg.block x (by simp;omega) (fun e=>hKx e.symm)).trans ((Below.heap_alloc _ _ _ (by omega)).trans ((hn.below.block x hlx).trans h.cx))
  exact aad (cs:=[ptr n,ptr s,K]) (off:=2) hgx K'
 ·rw[apd]
  exact aam hown hne' _
 ·rcases hat with e|e
  ·exact h.kb j (e ▸ hj)
  ·rw[e]at hj
   simp at hj
   omega
 ·by_cases hik:i=k
  ·subst hik
   simp only[adE]
   obtain⟨es,q,hq⟩:=hn.map.block
   refine⟨⟨by have:=hn.c0;omega,by have:=hn.l0;omega,by have:=hn.b0;omega⟩,new' hn.cell hn.c0,new' hn.lines hn.l0,hn.map.keep hK1 ?_,?_⟩
   ·rintro (e|e)
    ·have:=kolt _ e
     have:=hn.b0
     omega
    ·have:=hn.b0
     omega
   ·have:=h.names.lt
    have:=hn.b0
    omega
  ·obtain⟨a1,a2,a3,a4,a5⟩:=h.each i (by omega)
   simp only[abH _ hik]
   exact⟨a1,at' a2 (by decide) (by decide),at' a3 (by decide) (by decide),map' a4,a5⟩
 ·by_cases hik:i=k
  ·subst hik
   have hjk:j≠i:=fun e=>hij e.symm
   obtain⟨_,a2,a3,a4,_⟩:=h.each j (by omega)
   have l0:=lt_of_block a2
   have l1:=lt_of_block a3
   have:=hn.c0
   have l2:=a4.lt
   simp only[adE,abH _ hjk]
   have:=hn.l0
   have:=hn.b0
   omega
  ·by_cases hjk:j=k
   ·subst hjk
    obtain⟨_,a2,a3,a4,_⟩:=h.each i (by omega)
    have l0:=lt_of_block a2
    have l1:=lt_of_block a3
    have:=hn.c0
    have l2:=a4.lt
    simp only[adE,abH _ hik]
    have:=hn.l0
    have:=hn.b0
    omega
   ·simp only[abH _ hik,abH _ hjk]
    exact h.inj i j (by omega) (by omega) hij
theorem ahe(c:R.Cf)(hc:R.okCf c)(w:World):Calls Tryz.prog 57 #[cfv c.clients c.lines c.retry c.tries c.table] w fun e w'=>e=.returned (.bool true)∧Below w.heap.size w w':=by
 obtain⟨a,b,r,t,e⟩:=c
 obtain⟨⟨h1,h2⟩,⟨h3,h4⟩,⟨h5,h6⟩,⟨h7,h8⟩,h9,h10⟩:=hc
 simp only at h1 h2 h3 h4 h5 h6 h7 h8 h9 h10 ⊢
 go_enter Tryz.func57,Tryz.ntmps57
 go_wp2_with (first|(go_at_call 104;go_in))
 go_returns
 exact⟨rfl,(Below.refl _ _).alloc (Nat.le_refl _) _⟩
def aqD(jc:Nat):Value:=.agg #[.int .i64 0,.int .i64 0,.int .i64 0,.pointer none,.pointer none,.pointer none,.pointer none,.pointer none,.pointer none,.pointer none,.pointer none,.pointer none,.chan (some jc)]
theorem aoN:(Tryz.prog.info? 145).map (fun i=>i.bytes)=some 40:=by kernel_rfl
theorem alv(n:Nat)(hn:n≤9)(W:World):(Instr.makeChan 163 (.int .i64 (n:Int))).run Tryz.prog W=.ok (.chan (some W.heap.size)) (W.alloc (.chan n #[] false 0 0 false)):=by
 have h:=aoN
 cases hi:Tryz.prog.info? 145 with
 |none=>rw[hi]at h;cases h
 |some i=>
  rw[hi]at h
  simp only[Option.map_some,Option.some.injEq]at h
  exact Go.Conc.run_makeChan Tryz.underlying163 hi .i64 n (by omega) (by rw[h];omega)
theorem aoE(w:World)(n:Nat)(hn:n≤9):Calls Tryz.prog 105 #[.int .i64 (n:Int)] w fun e w'=>e=.returned (aqD (w.heap.size+1))∧Below w.heap.size w w'∧w'.heap.size=w.heap.size+1+1∧w'.heap[w.heap.size+1]?=some (.chan n #[] false 0 0 false):=by
 have hmc:=alv n hn
 unfold aqD
 go_enter Tryz.func105,Tryz.ntmps105
 go_wp2
 go_returns
 refine⟨rfl,((Below.refl _ _).alloc (Nat.le_refl _) _).alloc (by simp) _,by simp,?_⟩
 exact aaR _ _ (by simp)
structure Snew(w w':World)(n:Nat)(c:R.Cf)(s nm jc:Nat):Prop where
 below:Below w.heap.size w w'
 s0:w.heap.size≤s
 n0:w.heap.size≤nm
 j0:w.heap.size≤jc
 cell:w'.heap[s]?=some (.cells (aaS n nm (sp0 jc) c [0,0,0] (List.replicate 9 R.sn0)).toArray 167 (0,0))
 chan:w'.heap[jc]?=some (.chan c.table.toNat #[] false 0 0 false)
 map:Mp w' 9 nm ann (fun _=>none) 0
abbrev akg(a b rt tr tb:Int)(nm jc nb:Nat):Array Value:=#[.int .i64 a,.int .i64 b,.int .i64 rt,.int .i64 tr,.int .i64 tb,.map (some nm),.slice none 0 0,.int .i64 0,.int .i64 0,.int .i64 0,.pointer none,.pointer none,.pointer none,.pointer none,.pointer none,.pointer none,.pointer none,.pointer none,.pointer none,.chan (some jc),ptr nb]
theorem afU(a b rt tr tb:Int)(nm jc nb:Nat):(aaS nb nm (sp0 jc) ⟨a,b,rt,tr,tb⟩ [0,0,0] (List.replicate 9 R.sn0)).toArray=akg a b rt tr tb nm jc nb:=rfl
theorem aqs{w V w1:World}{a b rt tr:Int}{tb nb:Nat}(hV:Below w.heap.size w V)(hb:Below (V.alloc (.map #[] 0)).heap.size (V.alloc (.map #[] 0)) w1)(hs:w1.heap.size=(V.alloc (.map #[] 0)).heap.size+1+1)(hj:w1.heap[(V.alloc (.map #[] 0)).heap.size+1]?=some (.chan tb #[] false 0 0 false)){o:Obj}(ho:o=.cells (akg a b rt tr tb V.heap.size (V.heap.size+1+1) nb) 167 (0,0)):Snew w (w1.alloc o) nb ⟨a,b,rt,tr,tb⟩ w1.heap.size V.heap.size (V.heap.size+1+1):=by
 subst ho
 have s0:=hV.size
 have e1:(V.alloc (.map #[] 0)).heap.size=V.heap.size+1:=by simp
 have hb':Below w.heap.size w w1:=(hV.alloc s0 _).trans (hb.mono (by omega))
 refine⟨hb'.alloc (by omega) _,by omega,by omega,by omega,?_,?_,?_⟩
 ·rw[afU]
  exact aaR _ _ rfl
 ·rw[Below.heap_alloc _ _ _ (by omega),←e1]
  exact hj
 ·exact((Mp.made V 9 ann).above hb).above ((Below.refl _ _).alloc (Nat.le_refl _) _)
theorem aqr{w V w1:World}{a b rt tr:Int}{tb nb:Nat}(hV:Below w.heap.size w V)(hb:Below V.heap.size V w1)(hs:w1.heap.size=V.heap.size+1+1)(hj:w1.heap[V.heap.size+1]?=some (.chan tb #[] false 0 0 false)){o:Obj}(ho:o=.cells (akg a b rt tr tb w1.heap.size (V.heap.size+1) nb) 167 (0,0)):Snew w ((w1.alloc (.map #[] 0)).alloc o) nb ⟨a,b,rt,tr,tb⟩ (w1.heap.size+1) w1.heap.size (V.heap.size+1):=by
 subst ho
 have s0:=hV.size
 have e1:(w1.alloc (.map #[] 0)).heap.size=w1.heap.size+1:=by simp
 have hb':Below w.heap.size w w1:=hV.trans (hb.mono (by omega))
 refine⟨(hb'.alloc (by omega) _).alloc (by omega) _,by omega,by omega,by omega,?_,?_,?_⟩
 ·rw[afU]
  exact aaR _ _ e1
 ·rw[Below.heap_alloc _ _ _ (by omega),Below.heap_alloc _ _ _ (by omega)]
  exact hj
 ·exact(Mp.made w1 9 ann).above ((Below.refl _ _).alloc (Nat.le_refl _) _)
theorem aqZ:∀args w,(callFunc 105 args).run Tryz.prog w=.ok (.enter 105 args) w:=fun _ _=>rfl
theorem aiL(w:World)(nb tb:Nat)(a b rt tr:Int)(ht:tb≤9):Calls Tryz.prog 58 #[cfv a b rt tr (tb:Int),ptr nb] w fun e w'=>∃s nm jc,e=.returned (ptr s)∧Snew w w' nb ⟨a,b,rt,tr,tb⟩ s nm jc:=by
 have hmm:=@run_makeMap Tryz.prog
 obtain⟨BX,hBX⟩:∃BX,w.alloc (.cells #[.int .i64 a,.int .i64 b,.int .i64 rt,.int .i64 tr,.int .i64 (tb:Int)] 26)=BX:=⟨_,rfl⟩
 have HB:Hid (Below w.heap.size w BX):=by
  rw[←hBX]
  exact(Below.refl _ _).alloc (Nat.le_refl _) _
 have hbx:BX.heap[w.heap.size]?=some (.cells #[.int .i64 a,.int .i64 b,.int .i64 rt,.int .i64 tr,.int .i64 (tb:Int)] 26 (0,0)):=by
  rw[←hBX]
  exact heap_alloc_new w _
 have c0:BX.cell? ⟨w.heap.size,0,none⟩=some (.int .i64 a):=aaa hbx 0 _ rfl
 have c1:BX.cell? ⟨w.heap.size,1,none⟩=some (.int .i64 b):=aaa hbx 1 _ rfl
 have c2:BX.cell? ⟨w.heap.size,2,none⟩=some (.int .i64 rt):=aaa hbx 2 _ rfl
 have c3:BX.cell? ⟨w.heap.size,3,none⟩=some (.int .i64 tr):=aaa hbx 3 _ rfl
 have c4:BX.cell? ⟨w.heap.size,4,none⟩=some (.int .i64 (tb:Int)):=aaa hbx 4 _ rfl
 have m0:=lt_of_block hbx
 have HBX:=aab hBX
 have HM:=aab (fun w=>aoE w tb ht)
 simp only[aqD]at HM
 clear hBX hbx
 go_enter Tryz.func58,Tryz.ntmps58
 go_wp2_with fail
 rw[unhide HBX]
 go_region_law (first
  |(refine aak rfl 105 #[.tmp 8] #[3] rfl aqZ #[.int .i64 (tb:Int)] rfl _ ((unhide HM) _) ?_;rintro e w1 ⟨rfl,hb1,hs1,hj1⟩;have hbA:Below BX.heap.size BX w1:=(by first|exact undrew hb1|exact(((Below.refl BX.heap.size BX).alloc (Nat.le_refl _) _).drew).trans (hb1.mono (by simp)));have g0:w1.cell? ⟨w.heap.size,0,none⟩=some (.int .i64 a):=(hbA.cell (p:=⟨w.heap.size,0,none⟩) m0).trans c0;have g1:w1.cell? ⟨w.heap.size,1,none⟩=some (.int .i64 b):=(hbA.cell (p:=⟨w.heap.size,1,none⟩) m0).trans c1;have g2:w1.cell? ⟨w.heap.size,2,none⟩=some (.int .i64 rt):=(hbA.cell (p:=⟨w.heap.size,2,none⟩) m0).trans c2;have g3:w1.cell? ⟨w.heap.size,3,none⟩=some (.int .i64 tr):=(hbA.cell (p:=⟨w.heap.size,3,none⟩) m0).trans c3;have g4:w1.cell? ⟨w.heap.size,4,none⟩=some (.int .i64 (tb:Int)):=(hbA.cell (p:=⟨w.heap.size,4,none⟩) m0).trans c4;have l1:w.heap.size<w1.heap.size:=Nat.lt_of_lt_of_le m0 hbA.size;have HS1:=aab hs1;have HB1:=aab hb1;have HJ1:=aab hj1;clear hbA hb1 hs1 hj1;refine⟨_,rfl,?_⟩))
 all_goals
  go_wp2
  go_returns
  first
   |exact⟨_,_,_,rfl,aqs (V:=BX) (unhide HB) (undrew (unhide HB1)) (unhide HS1) (unhide HJ1) rfl⟩
   |exact⟨_,_,_,rfl,aqr (V:=BX) (unhide HB) (undrew (unhide HB1)) (unhide HS1) (unhide HJ1) rfl⟩
theorem arp:∀args w,(callFunc 59 args).run Tryz.prog w=.ok (.enter 59 args) w:=fun _ _=>rfl
theorem aov(w:World)(cb:Nat)(j:Nat)(u:Value)(h:([ptr cb]:List Value)[j]?=some u):(w.alloc (.cells #[ptr cb] 89)).cell? ((⟨w.heap.size,0,none⟩:Addr).add j)=some u:=by
 rw[Addr.add_lit,Nat.zero_add,World.cell?_alloc_new w _ _ j,←List.getElem?_toArray]at *
 exact h
theorem Cnew.undrew{w w':World}{k n nb:Nat}{life rt tr:Int}{cb lb bm:Nat}(h:Cnew w.drew w' k life n nb rt tr cb lb bm):Cnew w w' k life n nb rt tr cb lb bm:=⟨YtblomippkddgiaaGreatDoor.undrew h.below,h.c0,h.l0,h.b0,h.cell,h.lines,h.map⟩
theorem amY{w w1 w2:World}{c:R.Cf}{A s nm jc:Nat}(hb:Below w.heap.size w w1)(hA:w.heap.size≤A)(hcA:w1.heap[A]?=some (.cells #[.int .i64 c.clients,.int .i64 c.lines,.int .i64 c.retry,.int .i64 c.tries,.int .i64 c.table] 26 (0,0)))(hs:Snew (w1.alloc (.cells #[.slice none 0 0] 113)) w2 w1.heap.size c s nm jc) :
  NI w c A w1.heap.size s w2.heap.size nm jc 0 id id id (.slice none 0 0) (w2.alloc (.cells #[ptr w1.heap.size,ptr s,.slice none 0 0] 84)):=by
 have s0:=hb.size
 have hl:=lt_of_block hcA
 have e1:(w1.alloc (.cells #[.slice none 0 0] 113)).heap.size=w1.heap.size+1:=by simp
 have hb1:Below w.heap.size w (w1.alloc (.cells #[.slice none 0 0] 113)):=hb.alloc s0 _
 have sb:=hs.below.size
 have hb2:Below w.heap.size w w2:=hb1.trans (hs.below.mono (by omega))
 have up:∀{b:Nat} {o:Obj},w2.heap[b]?=some o→(w2.alloc (.cells #[ptr w1.heap.size,ptr s,.slice none 0 0] 84)).heap[b]?=some o:=fun hb=>by
  rw[Below.heap_alloc _ _ _ (Array.getElem?_eq_some_iff.1 hb).1]
  exact hb
 have q1:=hs.s0
 have q2:=hs.n0
 have q3:=hs.j0
 refine⟨hb2.alloc (by omega) _,up ?_,aaR _ _ rfl,World.ownsRow_nil _ _ _ _,up ?_,up hs.cell,up hs.chan,?_,⟨hA,by omega,by omega,by omega,by omega,by omega⟩,(fun j hj=>by cases hj),(fun i hi=>by omega),(fun i j hi=>by omega)⟩
 ·rw[hs.below.block A (by omega),Below.heap_alloc _ _ _ hl]
  exact hcA
 ·rw[hs.below.block _ (by omega)]
  exact aaR _ _ rfl
 ·exact hs.map.above ((Below.refl _ _).alloc (Nat.le_refl _) _)
theorem am0(w:World)(c:R.Cf)(hc:R.okCf c) :
  Calls Tryz.prog 27 #[cfv c.clients c.lines c.retry c.tries c.table] w fun e w'=>∃A n s x nm jc cb lb bm K,e=.returned (.tuple #[ptr x,.int .i64 0])∧NI w c A n s x nm jc c.clients.toNat cb lb bm K w':=by
 have HR:=aab (ahe c hc)
 obtain⟨a,b,r,t,tb⟩:=c
 obtain⟨⟨h1,h2⟩,⟨h3,h4⟩,⟨h5,h6⟩,⟨h7,h8⟩,h9,h10⟩:=hc
 simp only at h1 h2 h3 h4 h5 h6 h7 h8 h9 h10 HR ⊢
 have hmm:=@run_makeMap Tryz.prog
 obtain⟨N,hN⟩:∃N:Nat,a=(N:Int):=⟨a.toNat,by omega⟩
 obtain⟨L,hL⟩:∃L:Nat,b=(L:Int):=⟨b.toNat,by omega⟩
 obtain⟨T,hT⟩:∃T:Nat,tb=(T:Int):=⟨tb.toNat,by omega⟩
 subst hN hL hT
 obtain⟨BX,hBX⟩:∃BX,w.alloc (.cells #[.int .i64 (N:Int),.int .i64 (L:Int),.int .i64 r,.int .i64 t,.int .i64 (T:Int)] 26)=BX:=⟨_,rfl⟩
 have HB:Hid (Below w.heap.size w BX):=by
  rw[←hBX]
  exact(Below.refl _ _).alloc (Nat.le_refl _) _
 have hbx:BX.heap[w.heap.size]?=some (.cells #[.int .i64 (N:Int),.int .i64 (L:Int),.int .i64 r,.int .i64 t,.int .i64 (T:Int)] 26 (0,0)):=by
  rw[←hBX]
  exact heap_alloc_new w _
 have c0:BX.cell? ⟨w.heap.size,0,none⟩=some (.int .i64 (N:Int)):=aaa hbx 0 _ rfl
 have c1:BX.cell? ⟨w.heap.size,1,none⟩=some (.int .i64 (L:Int)):=aaa hbx 1 _ rfl
 have c2:BX.cell? ⟨w.heap.size,2,none⟩=some (.int .i64 r):=aaa hbx 2 _ rfl
 have c3:BX.cell? ⟨w.heap.size,3,none⟩=some (.int .i64 t):=aaa hbx 3 _ rfl
 have c4:BX.cell? ⟨w.heap.size,4,none⟩=some (.int .i64 (T:Int)):=aaa hbx 4 _ rfl
 have hlx:=lt_of_block hbx
 have HBX:=aab hBX
 have HCB:=aab hbx
 have HCN:=aab (fun w k nb=>ajy w k L nb (N:Int) r t (T:Int) (by omega))
 obtain⟨i0,hi,hz0,hz1,hz2⟩:=info_parts ap1
 clear hBX hbx
 go_enter Tryz.func27,Tryz.ntmps27
 go_wp2_with fail
 rw[unhide HBX]
 refine((unhide HR) _).mono ?_
 rintro e w1 ⟨rfl,hb1⟩
 have HNS:=aab (fun (w2:World) (s nm jc:Nat) (hs:Snew (w1.alloc (.cells #[.slice none 0 0] 113)) w2 w1.heap.size ⟨(N:Int),(L:Int),r,t,(T:Int)⟩ s nm jc)=>amY (w:=w) (A:=w.heap.size) (c:=⟨(N:Int),(L:Int),r,t,(T:Int)⟩) ((unhide HB).trans (hb1.mono (unhide HB).size)) (Nat.le_refl _) ((hb1.block _ hlx).trans (unhide HCB)) hs)
 have hl1:w.heap.size<w1.heap.size:=Nat.lt_of_lt_of_le hlx hb1.size
 have d0:w1.cell? ⟨w.heap.size,0,none⟩=some (.int .i64 (N:Int)):=(hb1.cell (p:=⟨w.heap.size,0,none⟩) hlx).trans c0
 have d1:w1.cell? ⟨w.heap.size,1,none⟩=some (.int .i64 (L:Int)):=(hb1.cell (p:=⟨w.heap.size,1,none⟩) hlx).trans c1
 have d2:w1.cell? ⟨w.heap.size,2,none⟩=some (.int .i64 r):=(hb1.cell (p:=⟨w.heap.size,2,none⟩) hlx).trans c2
 have d3:w1.cell? ⟨w.heap.size,3,none⟩=some (.int .i64 t):=(hb1.cell (p:=⟨w.heap.size,3,none⟩) hlx).trans c3
 have d4:w1.cell? ⟨w.heap.size,4,none⟩=some (.int .i64 (T:Int)):=(hb1.cell (p:=⟨w.heap.size,4,none⟩) hlx).trans c4
 have HSN:=aab (fun w nb=>aiL w nb T (N:Int) (L:Int) r t (by omega))
 clear hb1 c0 c1 c2 c3 c4
 go_wp2_with fail
 refine((unhide HSN) _ _).mono ?_
 rintro e w2 ⟨s,nm,jc,rfl,hs⟩
 have HNI:=aab ((unhide HNS) w2 s nm jc hs)
 have f0:(w2.alloc (.cells #[ptr w1.heap.size,ptr s,.slice none 0 0] 84)).cell? ⟨w.heap.size,0,none⟩=some (.int .i64 (N:Int)):=aaa (unhide HNI).cA 0 _ rfl
 clear hs HNS d0 d1 d2 d3 d4
 go_wp2
 go_loopw [20] (fun iv wr=>∃(k:Nat) (cb lb bm:Nat→Nat) (K:Value),k≤N∧iv=.int .i64 k∧NI w ⟨(N:Int),(L:Int),r,t,(T:Int)⟩ w.heap.size w1.heap.size s w2.heap.size nm jc k cb lb bm K wr) (fun iv _=>N-(intOf iv).toNat)
 case atStart=>exact⟨0,id,id,id,_,Nat.zero_le _,rfl,unhide HNI⟩
 case round=>
  obtain⟨k,cb,lb,bm,K,hk,rfl,hni⟩:=hrel
  by_cases hlt:k<N
  ·have hn1:=hni.cx
   have a2:wr.cell? ⟨w2.heap.size,2,none⟩=some K:=aaa hn1 2 _ rfl
   have a0:wr.cell? ⟨w2.heap.size,0,none⟩=some (ptr w1.heap.size):=aaa hn1 0 _ rfl
   have f2:wr.frozen? ⟨w2.heap.size,2,none⟩=false:=aac hn1
   have b0:wr.cell? ⟨w.heap.size,0,none⟩=some (.int .i64 (N:Int)):=aaa hni.cA 0 _ rfl
   have b1:wr.cell? ⟨w.heap.size,1,none⟩=some (.int .i64 (L:Int)):=aaa hni.cA 1 _ rfl
   have b2:wr.cell? ⟨w.heap.size,2,none⟩=some (.int .i64 r):=aaa hni.cA 2 _ rfl
   have b3:wr.cell? ⟨w.heap.size,3,none⟩=some (.int .i64 t):=aaa hni.cA 3 _ rfl
   have b4:wr.cell? ⟨w.heap.size,4,none⟩=some (.int .i64 (T:Int)):=aaa hni.cA 4 _ rfl
   have hlr:=lt_of_block hn1
   have HNR:=aab hni
   obtain⟨ka,kc,hKs⟩:=aas hni.row
   subst hKs
   have hKx:=aao hni.row hni.cx (by decide)
   have HKX:=aab hKx
   clear hni hn1 hKx
   go_wp2
   go_region_law (first
    |(refine aak rfl 59 #[.tmp 28,.tmp 29,.tmp 30] #[3,26,80] rfl arp #[.int .i64 (k:Int),cfv (N:Int) (L:Int) r t (T:Int),ptr w1.heap.size] rfl _ ((unhide HCN) _ k w1.heap.size) ?_;rintro e w3 ⟨cb',lb',bm',rfl,hnew⟩;have hb2:=undrew hnew.below;have s2:=hb2.size;have e2:w3.cell? ⟨w2.heap.size,2,none⟩=some (.slice ka k kc):=(hb2.cell (p:=⟨w2.heap.size,2,none⟩) hlr).trans a2;have e2z:w3.frozen? ⟨w2.heap.size,2,none⟩=false:=(hb2.frozen (p:=⟨w2.heap.size,2,none⟩) hlr).trans f2;have HW3:=aab hnew;have HB3:=aab hb2;have hlw:w2.heap.size<w3.heap.size:=Nat.lt_of_lt_of_le hlr s2;clear hb2 hnew;refine⟨_,rfl,?_⟩)
    |(refine aau rfl (.tmp 27) (.tmp 32) 82 rfl 0 89 i0 (.pointer none) 1 8 Tryz.underlying82 hi hz0 hz1 hz2 rfl (by decide) (.slice ka k kc) k (cbs cb k) rfl (by exact(aav (unhide HNR).row (unhide HB3)).alloc _) ⟨w3.heap.size,0,none⟩ 1 1 [ptr cb'] rfl rfl (by exact aov w3 cb') (by simp[Value.oneCell']) (by unfold maxLen;omega) (by omega) (by omega) ?_;intro v' wz hownz hgrow hat;obtain⟨va,vn,vc,hvs⟩:=aae hownz;subst hvs;have hgn:wz.heap[w2.heap.size]?=w3.heap[w2.heap.size]?:=(hgrow.block _ (by simp;omega) (fun e=>(unhide HKX) e.symm)).trans (Below.heap_alloc _ _ _ hlw);have gz:wz.frozen? ⟨w2.heap.size,2,none⟩=false:=(World.frozen?_of_block hgn).trans e2z;have gn:wz.cell? ⟨w2.heap.size,2,none⟩=some (.slice ka k kc):=(World.cell?_of_block hgn).trans e2;have HOZ:=aab hownz;have HGZ:=aab hgrow;have HAT:=aab hat;clear hownz hgrow hat hgn))
   all_goals
    have HM:=aab ((unhide HNR).more (unhide HW3).undrew (unhide HOZ) (unhide HGZ) (by have:=unhide HAT;simpa using this))
    clear HOZ HGZ HAT HW3 HNR
    go_wp2
    go_roundw
    case rel=>exact⟨k+1,_,_,_,_,by omega,by go_num,unhide HM⟩
    case measure=>simp[intOf];omega
  ·obtain rfl:k=N:=by omega
   go_wp2
   go_returns
   exact⟨_,_,_,_,_,_,cb,lb,bm,K,rfl,hni⟩
end Go.Proofs.YtblomippkddgiaaGreatDoor
