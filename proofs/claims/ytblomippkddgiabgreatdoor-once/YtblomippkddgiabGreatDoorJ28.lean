import Derived.Test.YtblomippkddgiabGreatDoorJ27
set_option maxRecDepth 100000
set_option maxHeartbeats 1000000
namespace Go.Proofs.YtblomippkddgiabGreatDoor
open Go.RowKit
variable {E E' F:Aq}{n:Int}{xs:List Value}{b size:Nat}{o:Obj}{p:Pl}{c:R.Cf}{G:R.Wd}{t:SP}{e:TypeId}{V v:Value}{w w' w0 wz:World}
def ints(l:List Int):List Value:=l.map fun n=>Value.int .i64 n
theorem Ew{l:List Int}{k:Nat}(h:l[k]?=some n):(ints l)[k]?=some (.int .i64 n):=by simp[ints,h]
theorem ints_set(l:List Int)(k:Nat)(n:Int):(ints l).set k (.int .i64 n)=ints (l.set k n):=by simp[ints,List.map_set]
structure Mk where
 client:Int
 Ae:Int
 line:Int
 seq:Int
 uid:Int
 proc:Int
 arg:List R.It
def DX(z:Mk×Value):List Value:=[.int .i64 z.1.client,.int .i64 z.1.Ae,.int .i64 z.1.line,.int .i64 z.1.seq,.int .i64 z.1.uid,.int .i64 z.1.proc,z.2]
theorem QW(z:Mk×Value):(DX z).length=7:=rfl
theorem Oo(l:List Int)(n:Int):ints (l++[n])=ints l++[.int .i64 n]:=by simp[ints]
structure RP where
 r:Nat
 x:Nat
 lf:Nat
 sq:Nat
 ud:Nat
structure RS where
 Ae:List Int
 seq:List Int
 uid:List Int
 nu:Int
 M:Value
 D:Value
 K:Value
 made:List (Mk×Value)
 dead:List Int
 kinds:List Int
abbrev Gc(q:RP)(c:R.Cf)(s:RS):Array Value:=#[ptr q.x,.int .i64 c.Ad,.int .i64 c.lines,.int .i64 c.Ay,.int .i64 c.tries,.int .i64 c.table,.slice (some ⟨q.lf,0,none⟩) s.Ae.length s.Ae.length,.slice (some ⟨q.sq,0,none⟩) s.seq.length s.seq.length,.slice (some ⟨q.ud,0,none⟩) s.uid.length s.uid.length,s.M,.int .i64 s.nu,s.D,s.K]
structure RI(q:RP)(c:R.Cf)(s:RS)(E:Aq)(w:World):Prop where
 cell:w.heap[q.r]?=some (.cells (Gc q c s) 32 (0,0))
 lf:w.heap[q.lf]?=some (.cells (ints s.Ae).toArray 3 (0,0))
 sq:w.heap[q.sq]?=some (.cells (ints s.seq).toArray 3 (0,0))
 ud:w.heap[q.ud]?=some (.cells (ints s.uid).toArray 3 (0,0))
 M:w.ownsRow 0 62 7 s.M s.made.length (tab DX s.made)
 D:w.ownsRow 0 3 1 s.D s.dead.length (ints s.dead)
 K:w.ownsRow 0 3 1 s.K s.kinds.length (ints s.kinds)
 args:∀z∈s.made,BF w E z.2 z.1.arg
 BP:E q.r/\E q.lf/\E q.sq/\E q.ud
 rows:∀j,(s.M.ownBlock=some j\/s.D.ownBlock=some j\/s.K.ownBlock=some j)->E j
 ne:q.lf≠q.sq/\q.lf≠q.ud/\q.sq≠q.ud
 nD:s.D.ownBlock≠some q.lf/\s.D.ownBlock≠some q.sq/\s.D.ownBlock≠some q.ud
 nK:s.K.ownBlock≠some q.lf/\s.K.ownBlock≠some q.sq/\s.K.ownBlock≠some q.ud
 Xu:∀j,s.D.ownBlock=some j->s.K.ownBlock≠some j
 lt:∀k,E k->k<w.heap.size
theorem RI.elsewhere{q:RP}{s:RS}{G:Aq}(h:RI q c s E w)(hk:Af G w w')(ha:∀k,E k->¬G k):RI q c s E w':=by
 obtain⟨f1,f2,f3,f4⟩:=h.BP;refine⟨hk.at h.cell (ha _ f1),hk.at h.lf (ha _ f2),hk.at h.sq (ha _ f3),hk.at h.ud (ha _ f4),hk.row h.M (fun j hj=>ha j (h.rows j (Or.inl hj))),hk.row h.D (fun j hj=>ha j (h.rows j (Or.inr (Or.inl hj)))),hk.row h.K (fun j hj=>ha j (h.rows j (Or.inr (Or.inr hj)))),fun z hz=>(h.args z hz).keep hk (fun b _ hb _=>ha b hb) (fun _ q=>q),h.BP,h.rows,h.ne,h.nD,h.nK,h.Xu,fun k hf=>Nat.lt_of_lt_of_le (h.lt k hf) hk.size⟩
theorem RI.below{q:RP}{s:RS}(h:RI q c s E w)(hb:Below w.heap.size w w'):RI q c s E w':=h.elsewhere (Af.Al hb (fun _=>False)) (fun _ _ h=>h)
structure Au(w0:World)(q:RP)(p:Pl)(c:R.Cf)(s:RS)(G:R.Wd)(w:World):Prop where
 run:∃t E F,RI q c s E w/\LW {p with t:=t} F G w/\(∀k,E k->¬F k)/\(∀k,E k\/F k->w0.heap.size<=k)
 x:q.x=p.x
 t0:Ec w
 below:Below w0.heap.size w0 w
 pos:0<w0.heap.size
theorem Au.world{q:RP}{s:RS}{G':R.Wd}{F':Aq}(h:Au w0 q p c s G w)(hr:RI q c s E w)(hd:∀k,E k->¬F k)(ab:∀k,E k\/F k->w0.heap.size<=k)(ac:LW {p with t:=t} F' G' w')(aa:Ap F F' w w'):Au w0 q p c s G' w':=by
 have hb:=aa.keeps.below (B:=w0.heap.size) h.below.size (fun k hk=>ab k (Or.inr hk));refine⟨⟨t,E,F',hr.elsewhere aa.keeps hd,ac,fun k he hf=>?_,fun k hk=>?_⟩,h.x,h.t0.keeps aa.keeps (fun h0=>by have:=ab 0 (Or.inr h0);have:=h.pos;omega),h.below.trans hb,h.pos⟩
 ·rcases aa.fresh k hf with f|f
  ·exact hd k he f
  ·have:=hr.lt k he;omega
 ·rcases hk with hk|hk
  ·exact ab k (Or.inl hk)
  ·rcases aa.fresh k hk with f|f
   ·exact ab k (Or.inr f)
   ·have:=h.below.size;omega
theorem Au.still{q:RP}{s:RS}(h:Au w0 q p c s G w)(hb:Below w.heap.size w w'):Au w0 q p c s G w':=by
 obtain⟨tp,E,F,hr,hw,hd,aa⟩:=h.run;exact h.world hr hd aa (hw.below hb) (Ap.Al F hb)
theorem Au.own{q:RP}{s s':RS}(h:Au w0 q p c s G w)(hw:LW {p with t:=t} F G w)(hd:∀k,E k->¬F k)(ab:∀k,E k\/F k->w0.heap.size<=k)(ac:RI q c s' E' w')(aa:Ap E E' w w'):Au w0 q p c s' G w':=by
 have hb:=aa.keeps.below (B:=w0.heap.size) h.below.size (fun k hk=>ab k (Or.inl hk));refine⟨⟨t,E',F,ac,hw.elsewhere aa.keeps (fun k hf he=>hd k he hf),fun k he hf=>?_,fun k hk=>?_⟩,h.x,h.t0.keeps aa.keeps (fun h0=>by have:=ab 0 (Or.inl h0);have:=h.pos;omega),h.below.trans hb,h.pos⟩
 ·rcases aa.fresh k he with f|f
  ·exact hd k f hf
  ·have:=hw.lt k hf;omega
 ·rcases hk with hk|hk
  ·rcases aa.fresh k hk with f|f
   ·exact ab k (Or.inl f)
   ·have:=h.below.size;omega
  ·exact ab k (Or.inr hk)
theorem MW{o:Nat}(hb:E b)(v:Value):Af E w (w.setCell ⟨b,o,none⟩ v):=Af.setCell (F:=E) (Af.refl _ w) (p:=⟨b,o,none⟩) (Or.inl hb) v
theorem EL{off:Nat}{cs:Array Value}{t:TypeId}{fz:Nat×Nat}{l:List (Mk×Value)}(h:∀z∈l,BF w E z.2 z.1.arg)(hb:w.heap[b]?=some (.cells cs t fz))(ht:t≠73)(v:Value):∀z∈l,BF (w.setCell ⟨b,off,none⟩ v) E z.2 z.1.arg:=fun z hz=>
 (h z hz).keep (E:=fun k=>k=b) (Ah v) (fun _ _ _ hc e=>AZ hc hb (fun q=>ht q.symm) e) (fun _ q=>q)
theorem Au.Lp{q:RP}{s:RS}(h:Au w0 q p c s G w)(v:Int):Au w0 q p c {s with nu:=v} G (w.setCell ⟨q.r,10,none⟩ (.int .i64 v)):=by
 obtain⟨tp,E,F,hr,hw,hd,ab⟩:=h.run;have sz:(w.setCell ⟨q.r,10,none⟩ (.int .i64 v)).heap.size=w.heap.size:=by simp[World.setCell]
 have aa:∀{b:Nat} {ys:Array Value} {t:TypeId},w.heap[b]?=some (.cells ys t (0,0))->t≠32->(w.setCell ⟨q.r,10,none⟩ (.int .i64 v)).heap[b]?=some (.cells ys t (0,0)):=fun hb ht=>by
  rw[Below.heap_setCell _ _ _ _ (AZ hb hr.cell ht)];exact hb
 refine h.own (s':={s with nu:=v}) hw hd ab (E':=E) ⟨?_,aa hr.lf (by decide),aa hr.sq (by decide),aa hr.ud (by decide),?_,?_,?_,?_,hr.BP,hr.rows,hr.ne,hr.nD,hr.nK,hr.Xu,fun k hk=>by rw[sz];exact hr.lt k hk⟩ ⟨MW hr.BP.1 _,fun _ e=>Or.inl e⟩
 ·exact Ai (cs:=(Gc q c s).toList) (off:=10) hr.cell _
 ·exact A7 hr.M (AV hr.M hr.cell (by decide)) _
 ·exact A7 hr.D (AV hr.D hr.cell (by decide)) _
 ·exact A7 hr.K (AV hr.K hr.cell (by decide)) _
 ·exact EL hr.args hr.cell (by decide) _
theorem Au.acB{q:RP}{s:RS}(h:Au w0 q p c s G w)(k:Nat)(v:Int):Au w0 q p c {s with uid:=s.uid.set k v} G (w.setCell ⟨q.ud,k,none⟩ (.int .i64 v)):=by
 obtain⟨tp,E,F,hr,hw,hd,ab⟩:=h.run;have sz:(w.setCell ⟨q.ud,k,none⟩ (.int .i64 v)).heap.size=w.heap.size:=by simp[World.setCell]
 have aa:∀{b:Nat} {o:Obj},w.heap[b]?=some o->b≠q.ud->(w.setCell ⟨q.ud,k,none⟩ (.int .i64 v)).heap[b]?=some o:=fun hb ht=>by
  rw[Below.heap_setCell _ _ _ _ ht];exact hb
 refine h.own (s':={s with uid:=s.uid.set k v}) hw hd ab (E':=E) ⟨?_,aa hr.lf hr.ne.2.1,aa hr.sq hr.ne.2.2,?_,?_,?_,?_,?_,hr.BP,hr.rows,hr.ne,hr.nD,hr.nK,hr.Xu,fun k hk=>by rw[sz];exact hr.lt k hk⟩ ⟨MW hr.BP.2.2.2 _,fun _ e=>Or.inl e⟩
 ·have:=aa hr.cell (AZ hr.cell hr.ud (by decide));simpa [Gc] using this
 ·rw[Ai hr.ud,ints_set]
 ·exact A7 hr.M (AV hr.M hr.ud (by decide)) _
 ·exact A7 hr.D hr.nD.2.2 _
 ·exact A7 hr.K hr.nK.2.2 _
 ·exact EL hr.args hr.ud (by decide) _
theorem Au.acA{q:RP}{s:RS}(h:Au w0 q p c s G w)(k:Nat)(v:Int):Au w0 q p c {s with seq:=s.seq.set k v} G (w.setCell ⟨q.sq,k,none⟩ (.int .i64 v)):=by
 obtain⟨tp,E,F,hr,hw,hd,ab⟩:=h.run;have sz:(w.setCell ⟨q.sq,k,none⟩ (.int .i64 v)).heap.size=w.heap.size:=by simp[World.setCell]
 have aa:∀{b:Nat} {o:Obj},w.heap[b]?=some o->b≠q.sq->(w.setCell ⟨q.sq,k,none⟩ (.int .i64 v)).heap[b]?=some o:=fun hb ht=>by
  rw[Below.heap_setCell _ _ _ _ ht];exact hb
 refine h.own (s':={s with seq:=s.seq.set k v}) hw hd ab (E':=E) ⟨?_,aa hr.lf hr.ne.1,?_,aa hr.ud hr.ne.2.2.symm,?_,?_,?_,?_,hr.BP,hr.rows,hr.ne,hr.nD,hr.nK,hr.Xu,fun k hk=>by rw[sz];exact hr.lt k hk⟩ ⟨MW hr.BP.2.2.1 _,fun _ e=>Or.inl e⟩
 ·have:=aa hr.cell (AZ hr.cell hr.sq (by decide));simpa [Gc] using this
 ·rw[Ai hr.sq,ints_set]
 ·exact A7 hr.M (AV hr.M hr.sq (by decide)) _
 ·exact A7 hr.D hr.nD.2.1 _
 ·exact A7 hr.K hr.nK.2.1 _
 ·exact EL hr.args hr.sq (by decide) _
theorem Au.ad6{q:RP}{s:RS}(h:Au w0 q p c s G w)(k:Nat)(v:Int):Au w0 q p c {s with Ae:=s.Ae.set k v} G (w.setCell ⟨q.lf,k,none⟩ (.int .i64 v)):=by
 obtain⟨tp,E,F,hr,hw,hd,ab⟩:=h.run;have sz:(w.setCell ⟨q.lf,k,none⟩ (.int .i64 v)).heap.size=w.heap.size:=by simp[World.setCell]
 have aa:∀{b:Nat} {o:Obj},w.heap[b]?=some o->b≠q.lf->(w.setCell ⟨q.lf,k,none⟩ (.int .i64 v)).heap[b]?=some o:=fun hb ht=>by
  rw[Below.heap_setCell _ _ _ _ ht];exact hb
 refine h.own (s':={s with Ae:=s.Ae.set k v}) hw hd ab (E':=E) ⟨?_,?_,aa hr.sq hr.ne.1.symm,aa hr.ud hr.ne.2.1.symm,?_,?_,?_,?_,hr.BP,hr.rows,hr.ne,hr.nD,hr.nK,hr.Xu,fun k hk=>by rw[sz];exact hr.lt k hk⟩ ⟨MW hr.BP.2.1 _,fun _ e=>Or.inl e⟩
 ·have:=aa hr.cell (AZ hr.cell hr.lf (by decide));simpa [Gc] using this
 ·rw[Ai hr.lf,ints_set]
 ·exact A7 hr.M (AV hr.M hr.lf (by decide)) _
 ·exact A7 hr.D hr.nD.1 _
 ·exact A7 hr.K hr.nK.1 _
 ·exact EL hr.args hr.lf (by decide) _
theorem DW(hg:(w.alloc o).grownBy wz V.ownBlock){x:Obj}(hb:w.heap[b]?=some x)(aa:V.ownBlock≠some b):wz.heap[b]?=some x:=by
 have hl:=(Array.getElem?_eq_some_iff.1 hb).1;exact(hg.block b (by simp;omega) (fun e=>aa e.symm)).trans ((Below.heap_alloc _ _ _ hl).trans hb)
theorem Ik(hg:(w.alloc o).grownBy wz V.ownBlock){B:Nat}{n:Nat}(h:w.ownsRow B e size v n xs)(ac:∀j,v.ownBlock=some j->V.ownBlock≠some j):wz.ownsRow B e size v n xs:=by
 obtain⟨hl,hx⟩:=h;refine⟨hl,?_⟩;rcases hx with hx|⟨g,cap,aa,rfl,hb,ab,r⟩
 ·exact Or.inl hx
 ·exact Or.inr ⟨g,cap,aa,rfl,hb,DW hg ab (ac g rfl),r⟩
theorem Kx{n:Nat}{l:List (Mk×Value)}(hg:(w.alloc o).grownBy wz V.ownBlock)(hV:w.ownsRow 0 e size V n xs)(he:e≠73)(h:∀z∈l,BF w E z.2 z.1.arg)(hE:∀k,E k->E' k):∀z∈l,BF wz E' z.2 z.1.arg:=fun z hz=>
 (h z hz).keep (E:=fun k=>V.ownBlock=some k) (((Af.refl _ w).alloc o).grown hg (fun _ hk=>Or.inl hk)) (fun _ _ _ hc e=>AV hV hc he e) hE
def Hu(s:Value)(w:World)(v:Value):Prop:=v.ownBlock=s.ownBlock\/∃j,v.ownBlock=some j/\w.heap.size<=j
theorem Hu.at{s:Value}(h:Hu s w v){j:Nat}(hj:v.ownBlock=some j):s.ownBlock=some j\/w.heap.size<=j:=by
 rcases h with e|⟨i,e,hi⟩
 ·exact Or.inl (e ▸ hj)
 ·rw[e]at hj;cases hj;exact Or.inr hi
theorem Hu.ne{s:Value}(h:Hu s w v)(hb:b<w.heap.size)(hs:s.ownBlock≠some b):v.ownBlock≠some b:=fun e=>by
 rcases h.at e with f|f
 ·exact hs f
 ·omega
theorem Au.Zk{q:RP}{s:RS}(h:Au w0 q p c s G w){D':Value}(ac:wz.ownsRow 0 3 1 D' (s.dead.length+1) (ints s.dead++[.int .i64 n]))(hg:(w.alloc o).grownBy wz s.D.ownBlock)(aa:Hu s.D w D'):Au w0 q p c {s with D:=D',dead:=s.dead++[n]} G (wz.setCell ⟨q.r,11,none⟩ D'):=by
 obtain⟨tp,E,F,hr,hw,hd,ah⟩:=h.run;have ad:=AV hr.D hr.cell (by decide);have ab:=aa.ne (lt_of_block hr.cell) ad;have hK:Af E w (wz.setCell ⟨q.r,11,none⟩ D'):=Af.setCell (F:=E) (((Af.refl _ w).alloc o).grown hg (fun k hk=>Or.inl (hr.rows k (Or.inr (Or.inl hk))))) (p:=⟨q.r,11,none⟩) (Or.inl hr.BP.1) _;have sz:=hK.size;have nb:∀{b:Nat} {x:Obj},w.heap[b]?=some x->s.D.ownBlock≠some b->b≠q.r->(wz.setCell ⟨q.r,11,none⟩ D').heap[b]?=some x:=fun hb h1 h2=>by
  rw[Below.heap_setCell _ _ _ _ h2];exact DW hg hb h1
 have ae:=DW hg hr.cell ad;have af:∀j,s.M.ownBlock=some j->s.D.ownBlock≠some j:=fun j hj e=>by
  rcases hr.D.2 with ⟨hv,_⟩|⟨g,cap,ai,hv,_,ag,_⟩
  ·rw[hv]at e;cases e
  ·rw[hv]at e;cases e;exact AV hr.M ag (by decide) hj
 refine h.own (s':={s with D:=D',dead:=s.dead++[n]}) hw hd ah (E':=fun k=>E k\/(w.heap.size<=k/\k<(wz.setCell ⟨q.r,11,none⟩ D').heap.size)) ⟨?_,nb hr.lf hr.nD.1 (AZ hr.lf hr.cell (by decide)),nb hr.sq hr.nD.2.1 (AZ hr.sq hr.cell (by decide)),nb hr.ud hr.nD.2.2 (AZ hr.ud hr.cell (by decide)),?_,?_,?_,?_,⟨Or.inl hr.BP.1,Or.inl hr.BP.2.1,Or.inl hr.BP.2.2.1,Or.inl hr.BP.2.2.2⟩,?_,hr.ne,?_,hr.nK,?_,?_⟩ ⟨hK,?_⟩
 ·exact Ai (cs:=(Gc q c s).toList) (off:=11) ae _
 ·exact A7 (Ik hg hr.M af) (AV hr.M hr.cell (by decide)) _
 ·have:=A7 ac ab D' (off:=11);simpa [Oo] using this
 ·exact A7 (Ik hg hr.K (fun j hj e=>hr.Xu j e hj)) (AV hr.K hr.cell (by decide)) _
 ·exact EL (Kx hg hr.D (by decide) hr.args (fun _ q=>Or.inl q)) ae (by decide) _
 ·rintro j (e|e|e)
  ·exact Or.inl (hr.rows j (Or.inl e))
  ·rcases aa.at e with f|f
   ·exact Or.inl (hr.rows j (Or.inr (Or.inl f)))
   ·exact Or.inr ⟨f,(World.ownsRow.lt (A7 ac ab D' (off:=11)) j e).2⟩
  ·exact Or.inl (hr.rows j (Or.inr (Or.inr e)))
 ·exact⟨aa.ne (lt_of_block hr.lf) hr.nD.1,aa.ne (lt_of_block hr.sq) hr.nD.2.1,aa.ne (lt_of_block hr.ud) hr.nD.2.2⟩
 ·intro j hj e;rcases aa.at hj with f|f
  ·exact hr.Xu j f e
  ·have:=hr.lt _ (hr.rows j (Or.inr (Or.inr e)));omega
 ·rintro k (e|e)
  ·exact Nat.lt_of_lt_of_le (hr.lt k e) sz
  ·exact e.2
 ·rintro k (e|e)
  ·exact Or.inl e
  ·exact Or.inr e.1
theorem Au.Zl{q:RP}{s:RS}(h:Au w0 q p c s G w){K':Value}(ac:wz.ownsRow 0 3 1 K' (s.kinds.length+1) (ints s.kinds++[.int .i64 n]))(hg:(w.alloc o).grownBy wz s.K.ownBlock)(aa:Hu s.K w K'):Au w0 q p c {s with K:=K',kinds:=s.kinds++[n]} G (wz.setCell ⟨q.r,12,none⟩ K'):=by
 obtain⟨tp,E,F,hr,hw,hd,ah⟩:=h.run;have ad:=AV hr.K hr.cell (by decide);have ab:=aa.ne (lt_of_block hr.cell) ad;have hK:Af E w (wz.setCell ⟨q.r,12,none⟩ K'):=Af.setCell (F:=E) (((Af.refl _ w).alloc o).grown hg (fun k hk=>Or.inl (hr.rows k (Or.inr (Or.inr hk))))) (p:=⟨q.r,12,none⟩) (Or.inl hr.BP.1) _;have sz:=hK.size;have nb:∀{b:Nat} {x:Obj},w.heap[b]?=some x->s.K.ownBlock≠some b->b≠q.r->(wz.setCell ⟨q.r,12,none⟩ K').heap[b]?=some x:=fun hb h1 h2=>by
  rw[Below.heap_setCell _ _ _ _ h2];exact DW hg hb h1
 have ae:=DW hg hr.cell ad;have af:∀j,s.M.ownBlock=some j->s.K.ownBlock≠some j:=fun j hj e=>by
  rcases hr.K.2 with ⟨hv,_⟩|⟨g,cap,ai,hv,_,ag,_⟩
  ·rw[hv]at e;cases e
  ·rw[hv]at e;cases e;exact AV hr.M ag (by decide) hj
 refine h.own (s':={s with K:=K',kinds:=s.kinds++[n]}) hw hd ah (E':=fun k=>E k\/(w.heap.size<=k/\k<(wz.setCell ⟨q.r,12,none⟩ K').heap.size)) ⟨?_,nb hr.lf hr.nK.1 (AZ hr.lf hr.cell (by decide)),nb hr.sq hr.nK.2.1 (AZ hr.sq hr.cell (by decide)),nb hr.ud hr.nK.2.2 (AZ hr.ud hr.cell (by decide)),?_,?_,?_,?_,⟨Or.inl hr.BP.1,Or.inl hr.BP.2.1,Or.inl hr.BP.2.2.1,Or.inl hr.BP.2.2.2⟩,?_,hr.ne,hr.nD,?_,?_,?_⟩ ⟨hK,?_⟩
 ·exact Ai (cs:=(Gc q c s).toList) (off:=12) ae _
 ·exact A7 (Ik hg hr.M af) (AV hr.M hr.cell (by decide)) _
 ·exact A7 (Ik hg hr.D (fun j hj e=>hr.Xu j hj e)) (AV hr.D hr.cell (by decide)) _
 ·have:=A7 ac ab K' (off:=12);simpa [Oo] using this
 ·exact EL (Kx hg hr.K (by decide) hr.args (fun _ q=>Or.inl q)) ae (by decide) _
 ·rintro j (e|e|e)
  ·exact Or.inl (hr.rows j (Or.inl e))
  ·exact Or.inl (hr.rows j (Or.inr (Or.inl e)))
  ·rcases aa.at e with f|f
   ·exact Or.inl (hr.rows j (Or.inr (Or.inr f)))
   ·exact Or.inr ⟨f,(World.ownsRow.lt (A7 ac ab K' (off:=12)) j e).2⟩
 ·exact⟨aa.ne (lt_of_block hr.lf) hr.nK.1,aa.ne (lt_of_block hr.sq) hr.nK.2.1,aa.ne (lt_of_block hr.ud) hr.nK.2.2⟩
 ·intro j hj e;rcases aa.at e with f|f
  ·exact hr.Xu j hj f
  ·have:=hr.lt _ (hr.rows j (Or.inr (Or.inl hj)));omega
 ·rintro k (e|e)
  ·exact Nat.lt_of_lt_of_le (hr.lt k e) sz
  ·exact e.2
 ·rintro k (e|e)
  ·exact Or.inl e
  ·exact Or.inr e.1
theorem Au.abP{q:RP}{s:RS}{wB:World}(h:Au w0 q p c s G wB)(hb:Below wB.heap.size wB w){M' X:Value}{m:Mk}(hX:BF w (fun k=>wB.heap.size<=k) X m.arg)(ab:wz.ownsRow 0 62 7 M' (s.made.length+1) (tab DX s.made++DX (m,X)))(hg:(w.alloc o).grownBy wz s.M.ownBlock)(af:Hu s.M w M'):Au w0 q p c {s with M:=M',made:=s.made++[(m,X)]} G (wz.setCell ⟨q.r,9,none⟩ M'):=by
 obtain⟨tp,E,F,al,ah,hd,ad⟩:=h.run;have hr:=al.below hb;have hw:=ah.below hb;have h':=h.still hb;have am:=hb.size;have ac:∀{b:Nat} {ys:Array Value} {t:TypeId} {f:Nat×Nat},w.heap[b]?=some (.cells ys t f)->t≠62->s.M.ownBlock≠some b:=fun hb ht=>AV hr.M hb (fun e=>ht e.symm)
 have aa:=af.ne (lt_of_block hr.cell) (ac hr.cell (by decide));have hK:Af E w (wz.setCell ⟨q.r,9,none⟩ M'):=Af.setCell (F:=E) (((Af.refl _ w).alloc o).grown hg (fun k hk=>Or.inl (hr.rows k (Or.inl hk)))) (p:=⟨q.r,9,none⟩) (Or.inl hr.BP.1) _;have sz:=hK.size;have ag:=DW hg hr.cell (ac hr.cell (by decide));have nb:∀{b:Nat} {ys:Array Value} {t:TypeId} {f:Nat×Nat},w.heap[b]?=some (.cells ys t f)->t≠62->t≠32->(wz.setCell ⟨q.r,9,none⟩ M').heap[b]?=some (.cells ys t f):=fun hb h1 h2=>by
  rw[Below.heap_setCell _ _ _ _ (AZ hb hr.cell h2)];exact DW hg hb (ac hb h1)
 have rows':∀{v:Value} {n:Nat} {xs:List Value},w.ownsRow 0 3 1 v n xs->(wz.setCell ⟨q.r,9,none⟩ M').ownsRow 0 3 1 v n xs:=fun hx=>by
  refine A7 (Ik hg hx (fun j hj e=>?_)) (AV hx hr.cell (by decide)) _;rcases hx.2 with ⟨hv,_⟩|⟨g,cap,ae,hv,_,aj,_⟩
  ·rw[hv]at hj;cases hj
  ·rw[hv]at hj;cases hj;exact ac aj (by decide) e
 have ai:=hK.below (B:=w0.heap.size) h'.below.size (fun k hk=>ad k (Or.inl hk));refine⟨⟨tp,fun k=>E k\/(wB.heap.size<=k/\k<(wz.setCell ⟨q.r,9,none⟩ M').heap.size),F,⟨?_,nb hr.lf (by decide) (by decide),nb hr.sq (by decide) (by decide),nb hr.ud (by decide) (by decide),?_,rows' hr.D,rows' hr.K,?_,⟨Or.inl hr.BP.1,Or.inl hr.BP.2.1,Or.inl hr.BP.2.2.1,Or.inl hr.BP.2.2.2⟩,?_,hr.ne,hr.nD,hr.nK,hr.Xu,?_⟩,hw.elsewhere hK (fun k hf he=>hd k he hf),?_,?_⟩,h.x,h'.t0.keeps hK (fun h0=>by have:=ad 0 (Or.inl h0);have:=h.pos;omega),h'.below.trans ai,h.pos⟩
 ·exact Ai (cs:=(Gc q c s).toList) (off:=9) ag _
 ·have:=A7 ab aa M' (off:=9);simpa [EV] using this
 ·refine EL ?_ ag (by decide) _;intro z hz;rcases List.mem_append.1 hz with hz|hz
  ·exact Kx hg hr.M (by decide) hr.args (fun _ q=>Or.inl q) z hz
  ·obtain rfl:z=(m,X):=by simpa using hz
   have ak:BF w (fun k=>wB.heap.size<=k/\k<w.heap.size) X m.arg:=by
    rcases hX with hX|⟨b,off,cap,ae,q0,q1,q2,q3,q4,q5⟩
    ·exact Or.inl hX
    ·exact Or.inr ⟨b,off,cap,ae,q0,q1,q2,⟨q3,lt_of_block q4⟩,q4,q5⟩
   exact ak.keep (E:=fun k=>s.M.ownBlock=some k) (((Af.refl _ w).alloc o).grown hg (fun k hk=>Or.inl hk)) (fun k ae _ hc e=>AV hr.M hc (by decide) e) (fun k hk=>Or.inr ⟨hk.1,Nat.lt_of_lt_of_le hk.2 sz⟩)
 ·rintro j (e|e|e)
  ·rcases af.at e with f|f
   ·exact Or.inl (hr.rows j (Or.inl f))
   ·exact Or.inr ⟨by omega,(World.ownsRow.lt (A7 ab aa M' (off:=9)) j e).2⟩
  ·exact Or.inl (hr.rows j (Or.inr (Or.inl e)))
  ·exact Or.inl (hr.rows j (Or.inr (Or.inr e)))
 ·rintro k (e|e)
  ·exact Nat.lt_of_lt_of_le (hr.lt k e) sz
  ·exact e.2
 ·rintro k (e|e) hf
  ·exact hd k e hf
  ·have:=ah.lt k hf;omega
 ·rintro k ((e|e)|e)
  ·exact ad k (Or.inl e)
  ·have:=h.below.size;omega
  ·exact ad k (Or.inr e)
theorem Yk:(Tryz.prog.info? 3).map (fun i=>(i.zero,i.size,i.bytes))=some (some (.int .i64 0),1,8):=by kernel_rfl
theorem one_num(w:World)(n:Int)(j:Nat)(u:Value)(h:([.int .i64 n]:List Value)[j]?=some u):(w.alloc (.cells #[.int .i64 n] 3)).cell? ((⟨w.heap.size,0,none⟩:Addr).add j)=some u:=by
 rw[Addr.add_lit,Nat.zero_add,World.cell?_alloc_new w _ _ j,<-List.getElem?_toArray]at *;exact h
theorem Ju(w:World)(n:Int){m:Nat}(hm:w.heap.size=m)(j:Nat)(u:Value)(h:([.int .i64 n]:List Value)[j]?=some u):(w.alloc (.cells #[.int .i64 n] 3)).cell? ((⟨m,0,none⟩:Addr).add j)=some u:=by
 subst hm;exact one_num w n j u h
theorem Ij(h:v.ownBlock=V.ownBlock\/v.ownBlock=some (w.heap.size+1)):Hu V w v:=by
 rcases h with h|h
 ·exact Or.inl h
 ·exact Or.inr ⟨_,h,by omega⟩
structure ade(q:RP)(s:RS)(w:World):Prop where
 a0:w.cell? ⟨q.r,0,none⟩=some (ptr q.x)
 a6:w.cell? ⟨q.r,6,none⟩=some (.slice (some ⟨q.lf,0,none⟩) s.Ae.length s.Ae.length)
 a7:w.cell? ⟨q.r,7,none⟩=some (.slice (some ⟨q.sq,0,none⟩) s.seq.length s.seq.length)
 a8:w.cell? ⟨q.r,8,none⟩=some (.slice (some ⟨q.ud,0,none⟩) s.uid.length s.uid.length)
 a9:w.cell? ⟨q.r,9,none⟩=some s.M
 JB:w.cell? ⟨q.r,10,none⟩=some (.int .i64 s.nu)
 NP:w.cell? ⟨q.r,11,none⟩=some s.D
 a12:w.cell? ⟨q.r,12,none⟩=some s.K
 z:∀o,w.frozen? ⟨q.r,o,none⟩=false
 zu:∀o,w.frozen? ⟨q.ud,o,none⟩=false
 zs:∀o,w.frozen? ⟨q.sq,o,none⟩=false
 zl:∀o,w.frozen? ⟨q.lf,o,none⟩=false
 u:∀k v,s.uid[k]?=some v->w.cell? ⟨q.ud,k,none⟩=some (.int .i64 v)
 sq:∀k v,s.seq[k]?=some v->w.cell? ⟨q.sq,k,none⟩=some (.int .i64 v)
 lf:∀k v,s.Ae[k]?=some v->w.cell? ⟨q.lf,k,none⟩=some (.int .i64 v)
 nur:¬q.ud=q.r
 nsr:¬q.sq=q.r
 EA:q.r<w.heap.size
 Yy:q.ud<w.heap.size
theorem Au.cells{q:RP}{s:RS}(h:Au w0 q p c s G w):ade q s w:=by
 obtain⟨tp,E,F,hr,_⟩:=h.run;have hx:=hr.cell;exact⟨cell_of hx 0 _ rfl,cell_of hx 6 _ rfl,cell_of hx 7 _ rfl,cell_of hx 8 _ rfl,cell_of hx 9 _ rfl,cell_of hx 10 _ rfl,cell_of hx 11 _ rfl,cell_of hx 12 _ rfl,fun o=>open_list hx,fun o=>open_list hr.ud,fun o=>open_list hr.sq,fun o=>open_list hr.lf,fun k v hv=>AP hr.ud (Ew hv),fun k v hv=>AP hr.sq (Ew hv),fun k v hv=>AP hr.lf (Ew hv),AZ hr.ud hx (by decide),AZ hr.sq hx (by decide),lt_of_block hx,lt_of_block hr.ud⟩
theorem XT:∀args w,(callFunc 49 args).run Tryz.prog w=.ok (.enter 49 args) w:=fun _ _=>rfl
theorem aao:∀args w,(callFunc 48 args).run Tryz.prog w=.ok (.enter 48 args) w:=fun _ _=>rfl
theorem QF(w0:World)(q:RP)(p:Pl)(c:R.Cf)(s:RS)(G:R.Wd)(w:World)(k:Nat)(hk:k<3)(h:Au w0 q p c s G w)(b6:s.uid.length=3)(hu:s.uid[k]?=some 0)(aM:s.nu=(G.Ab.length:Int))(hn:¬A6 k∈G.names)(h6:G.names.length<6)(aD:G.Ab.length<200)(b4:s.dead.length<=255)(b5:s.kinds.length<=255):
  Calls Tryz.prog 25 #[ptr q.r,.int .i64 (k:Int)] w fun e w'=>e=.returned (.bool true)/\∃D K,Au w0 q p c ⟨s.Ae,s.seq,s.uid.set k (s.nu+1),s.nu+1,s.M,D,K,s.made,s.dead++[-1],s.kinds++[(k:Int)]⟩ (BJ G (A6 k) k) w':=by
 obtain⟨a0,a6,a7,a8,a9,JB,NP,a12,z,zu,zs,zl,fu,fs,fl,nur,nsr,EA,Yy⟩:=h.cells;have b1:=fu k 0 hu;have b3:(k:Int)<(s.uid.length:Int):=by omega
 have aR:(s.nu==255)=false:=by simp;omega
 have aJ:=Ac (Iq k hk);have b7:IntKind.i64.wrap (s.nu+1)=s.nu+1:=by rw[IntKind.wrap_i64];omega
 have aH:Hid (Calls Tryz.prog 48 #[ptr q.x,.string (str (A6 k)),.int .i64 (k:Int)] w.drew fun e w'=>e=.returned (.tuple #[.int .i64 (s.nu+1),.int .i64 0])/\Au w0 q p c s (BJ G (A6 k) k) w'):=by
  have hd:=h.still (Below.refl w.heap.size w).drew;obtain⟨tp,E,F,hr,hw,aV,aW⟩:=hd.run;rw[h.x,aM];refine(Lb w.drew p.x p.n p.s p.cs G.Ad.length p.cap (str (A6 k)) k ((G.Ab.length:Int)+1) 0 _ hw.bx (hw.exported (M8 k) (by omega) hn h6 (by omega))).mono ?_;rintro e w' ⟨rfl,t',F',q1,q2⟩;exact⟨rfl,hd.world (t:=t') hr aV aW q1 q2⟩
 generalize str (A6 k)=SN at *;obtain⟨i0,hi,aO,aP,aQ⟩:=info_parts Yk;clear hn h6 aD h a6 a7 a9 NP a12 z zu zs zl fu fs fl aM;go_enter Tryz.func25,Tryz.ntmps25;go_wp2;go_region_law (first
  |(refine Av rfl 49 #[.tmp 78] #[3] rfl XT #[.int .i64 (k:Int)] rfl _ ((Aa aJ) _) ?_;rintro e w1 ⟨rfl,aN⟩;rw[aN];clear aN;refine⟨_,rfl,?_⟩)
  |(refine Av rfl 48 #[.tmp 77,.tmp 79,.tmp 80] #[28,9,3] rfl aao #[ptr q.x,.string SN,.int .i64 (k:Int)] rfl _ (Aa aH) ?_;rintro e w2 ⟨rfl,hB⟩;have ay:=Ac hB;clear hB;refine⟨_,rfl,?_⟩))
 all_goals
  clear a0 a8 JB b1 EA Yy aH aJ;have ar:=(Aa ay).cells;have aZ:=ar.JB;have aG:=ar.z 10;have y0:=ar.EA;have ax:=Ac ((Aa ay).Lp (s.nu+1));clear ar ay;go_wp2;generalize w2.setCell ⟨q.r,10,none⟩ (.int .i64 (s.nu+1))=W2 at *;have af:=(Aa ax).cells;have x8:=af.a8;have an:=af.JB;have xk:=af.zu k;have xu:=af.u k 0 (by assumption);simp only at x8 an;have xl:=af.Yy;have ag:=Ac (((Aa ax).acB k (s.nu+1)).still (Below.refl _ _).drew);clear af ax aZ aG y0
  go_region
  all_goals
   generalize (W2.setCell ⟨q.ud,k,none⟩ (.int .i64 (s.nu+1))).drew=W3 at *;clear x8 an xk xu xl;have au:=(Aa ag).cells;have ac:=(Aa ag).run;obtain⟨tp,E,F,hr,ai⟩:=ac;have al:=hr.D;have aE:=AX al;obtain⟨da,dc,hD⟩:=aE;have av:=au.NP;have ao:=au.z 11;have xr:=au.EA;simp only at hD al av;rw[hD]at av al;have aA:=Ac al;have HD:=Ac hD;clear au hr ai al hD;go_wp2_with (at_builtin;go_must (refine wpList_append_own_at _ rfl (.tmp 105) (.tmp 106) 29 rfl 0 3 i0 (.int .i64 0) 1 8 Tryz.underlying29 hi aO aP aQ rfl (by decide) (.slice da s.dead.length dc) s.dead.length (ints s.dead) rfl (by exact(Aa aA).alloc _) ⟨W3.heap.size,0,none⟩ 1 1 [.int .i64 (-1)] rfl rfl (by exact one_num W3 (-1)) (by simp[Value.oneCell']) (by unfold maxLen;omega) (by omega) (by omega) ?_))
   intro v' wz ab aa _ aj;obtain⟨va,vn,vc,aF⟩:=Ar ab;subst aF;have ah:=Ac ((Aa ag).Zk (o:=.cells #[.int .i64 (-1)] 3) (n:=-1) (D':=.slice va vn vc) ab (by rw[Aa HD];exact aa) (by rw[Aa HD];exact Ij (by simpa using aj)));have ae:wz.heap[q.r]?=W3.heap[q.r]?:=by
    refine(aa.block q.r (by simp;omega) (fun e=>?_)).trans (Below.heap_alloc _ _ _ xr);have ac:=(Aa ag).run;obtain⟨tp,E,F,hr,ai⟩:=ac;have ad:=hr.cell;exact AV (Aa aA) ad (by decide) e.symm
   have aK:wz.cell? ⟨q.r,11,none⟩=some (.slice da s.dead.length dc):=(World.cell?_of_block ae).trans av;have aC:wz.frozen? ⟨q.r,11,none⟩=false:=(World.frozen?_of_block ae).trans ao;have aU:q.r<wz.heap.size:=lt_of_cell aK;clear ab aa aj ae av ao aA HD ag;have ak:=(Aa ah).cells;have ac:=(Aa ah).run;obtain⟨tp,E,F,hr,ai⟩:=ac;have am:=hr.K;have aE:=AX am;obtain⟨ka,kc,aq⟩:=aE;have aw:=ak.a12;have ap:=ak.z 12;have an:=ak.JB;have aY:=ak.EA;simp only at aq am aw an;rw[aq]at aw am;have aB:=Ac am;have az:=Ac aq;clear ak hr ai am aq;go_wp2_with (at_builtin;go_must (refine wpList_append_own_at _ rfl (.tmp 114) (.tmp 116) 29 rfl 0 3 i0 (.int .i64 0) 1 8 Tryz.underlying29 hi aO aP aQ rfl (by decide) (.slice ka s.kinds.length kc) s.kinds.length (ints s.kinds) rfl (by exact(Aa aB).alloc _) ⟨wz.heap.size,0,none⟩ 1 1 [.int .i64 (k:Int)] rfl rfl (by exact Ju _ (k:Int) (by simp)) (by simp[Value.oneCell']) (by unfold maxLen;omega) (by omega) (by omega) ?_))
   intro v2 wy ab aa _ aj;obtain⟨ua,un,uc,aF⟩:=Ar ab;subst aF;have aI:=Ac ((Aa ah).Zl (o:=.cells #[.int .i64 (k:Int)] 3) (n:=(k:Int)) (K':=.slice ua un uc) ab (by rw[Aa az];exact aa) (by rw[Aa az];exact Ij (by simpa using aj)));generalize wz.setCell ⟨q.r,11,none⟩ (.slice va vn vc)=W4 at *;have ae:wy.heap[q.r]?=W4.heap[q.r]?:=by
    refine(aa.block q.r (by simp;omega) (fun e=>?_)).trans (Below.heap_alloc _ _ _ aY);have ac:=(Aa ah).run;obtain⟨tp,E,F,hr,ai⟩:=ac;have ad:=hr.cell;exact AV (Aa aB) ad (by decide) e.symm
   have aS:wy.cell? ⟨q.r,12,none⟩=some (.slice ka s.kinds.length kc):=(World.cell?_of_block ae).trans aw;have aT:wy.frozen? ⟨q.r,12,none⟩=false:=(World.frozen?_of_block ae).trans ap;have b2:q.r<wy.heap.size:=lt_of_cell aS;have aL:=(Aa aI).cells;have aX:=aL.JB;simp only at aX;clear ab aa aj ae aw ap an aB az ah aK aC aU aL;go_wp2;go_returns;exact⟨rfl,_,_,Aa aI⟩
def BQ(G:R.Wd)(i:Nat)(u:List Int):Nat->R.Wd
 |0=>G
 |k+1=>A1 (BQ G i u k) i ((u[k]?).getD 0)
theorem Eh(G:R.Wd)(i:Nat)(u:List Int)(n:List UInt8):∀k,AF (BQ G i u k) n=AF G n
 |0=>rfl
 |k+1=>Eh G i u n k
theorem GH(G:R.Wd)(i:Nat)(u:List Int)(n:Int):∀k,kindOf (BQ G i u k) n=kindOf G n
 |0=>rfl
 |k+1=>GH G i u n k
theorem E9(G:R.Wd)(i:Nat)(u:List Int):∀k,(BQ G i u k).Ad.length=G.Ad.length
 |0=>rfl
 |k+1=>by
  show (A1 (BQ G i u k) i _).Ad.length=_;rw[<-E9 G i u k];simp[A1]
theorem aet:∀args w,(callFunc 50 args).run Tryz.prog w=.ok (.enter 50 args) w:=fun _ _=>rfl
theorem Mh(w0:World)(q:RP)(p:Pl)(c:R.Cf)(s:RS)(G:R.Wd)(w:World)(i:Nat)(h:Au w0 q p c s G w)(hi:i<G.Ad.length)(ao:s.uid.length=3)(ac:∀k,k<3->∃u,s.uid[k]?=some u/\AF G (A6 k)=some u/\kindOf G u=(k:Int)):
  Calls Tryz.prog 26 #[ptr q.r,.int .i64 (i:Int)] w fun e w'=>e=.returned (.bool true)/\Au w0 q p c s (BQ G i s.uid 3) w':=by
 have HH:=Ac h;have ah:Hid (∀k,k<3->∃u,s.uid[k]?=some u/\AF G (A6 k)=some u/\kindOf G u=(k:Int)):=ac;have ae:Hid (∀k wr u,k<3->Au w0 q p c s (BQ G i s.uid k) wr->s.uid[k]?=some u->AF G (A6 k)=some u->kindOf G u=(k:Int)->Calls Tryz.prog 50 #[ptr q.x,.int .i64 (i:Int),.string (str (A6 k))] wr.drew fun e w'=>e=.returned (.tuple #[.int .i64 u,.int .i64 (k:Int),.int .i64 0])/\Au w0 q p c s (BQ G i s.uid (k+1)) w'):=fun k wr u hk hB h1 h2 h3=>by
  have hd:=hB.still (Below.refl wr.heap.size wr).drew;obtain⟨tp,E,F,hr,hw,ai,ak⟩:=hd.run;rw[hB.x];have aa:i<(BQ G i s.uid k).Ad.length:=by rw[E9];exact hi
  have:=hw.import (name:=A6 k) (uid:=u) (List.getElem?_eq_getElem aa) (by have:=YI k;omega) (by rw[Eh];exact h2);rw[GH,h3]at this;refine this.mono ?_;rintro e w' ⟨rfl,q1,q2⟩;refine⟨rfl,?_⟩;show Au w0 q p c s (A1 (BQ G i s.uid k) i ((s.uid[k]?).getD 0)) w';rw[h1];exact hd.world hr ai ak q1 q2
 have al:=h.cells.a0;clear h ac;go_enter Tryz.func26,Tryz.ntmps26;go_wp2;go_loopw [5] (fun kv wr=>∃k:Nat,k<=3/\kv=.int .i64 k/\Au w0 q p c s (BQ G i s.uid k) wr) (fun kv _=>3-(intOf kv).toNat)
 case atStart=>exact⟨0,by omega,rfl,Aa HH⟩
 case round=>
  obtain⟨k,hk,rfl,hB⟩:=hrel;by_cases aa:k<3
  ·obtain⟨u,u1,u2,u3⟩:=(Aa ah) k aa;have HC:=Ac ((Aa ae) k wr u aa hB u1 u2 u3);have ag:=Ac (Iq k aa);have b0:=hB.cells.a0;have an:=hB.cells.EA;have am:(k:Int)<(s.uid.length:Int):=by omega
   have aj:k<s.uid.length:=by omega
   have U1:=Ac u1;clear hB u1 u2 u3 al;generalize str (A6 k)=SN at *;go_wp2;go_region_law (first
    |(refine Av rfl 49 #[.tmp 19] #[3] rfl XT #[.int .i64 (k:Int)] rfl _ ((Aa ag) _) ?_;rintro e w1 ⟨rfl,ad⟩;rw[ad];clear ad;refine⟨_,rfl,?_⟩)
    |(refine Av rfl 50 #[.tmp 17,.tmp 18,.tmp 20] #[28,3,9] rfl aet #[ptr q.x,.int .i64 (i:Int),.string SN] rfl _ (Aa HC) ?_;rintro e w2 ⟨rfl,ab⟩;have af:=Ac ab;have c8:=ab.cells.a8;have cu:=ab.cells.u k u (Aa U1);clear ab;refine⟨_,rfl,?_⟩))
   all_goals
    go_wp2;go_roundw
    case rel=>exact⟨k+1,by omega,by go_num,Aa af⟩
    case measure=>simp[intOf];omega
  ·obtain rfl:k=3:=by omega
   go_wp2;go_returns;exact⟨rfl,hB⟩
end Go.Proofs.YtblomippkddgiabGreatDoor
