import Derived.Test.YtblomippkddgiaaGreatDoorK27
set_option maxRecDepth 100000
set_option maxHeartbeats 1000000
namespace Go.Proofs.YtblomippkddgiaaGreatDoor
open Go.RowKit
def ints(l:List Int):List Value:=l.map fun n=>Value.int .i64 n
theorem EB{l:List Int}{k:Nat}{n:Int}(h:l[k]?=some n):(ints l)[k]?=some (.int .i64 n):=by simp[ints,h]
theorem ints_set(l:List Int)(k:Nat)(n:Int):(ints l).set k (.int .i64 n)=ints (l.set k n):=by simp[ints,List.map_set]
structure Mk where
 client:Int
 Ag:Int
 line:Int
 seq:Int
 uid:Int
 proc:Int
 arg:List R.It
def DF(z:Mk×Value):List Value:=[.int .i64 z.1.client,.int .i64 z.1.Ag,.int .i64 z.1.line,.int .i64 z.1.seq,.int .i64 z.1.uid,.int .i64 z.1.proc,z.2]
theorem PH(z:Mk×Value):(DF z).length=7:=rfl
theorem MZ(l:List Int)(n:Int):ints (l++[n])=ints l++[.int .i64 n]:=by simp[ints]
structure RP where
 r:Nat
 x:Nat
 lf:Nat
 sq:Nat
 ud:Nat
structure RS where
 Ag:List Int
 seq:List Int
 uid:List Int
 nu:Int
 M:Value
 D:Value
 K:Value
 made:List (Mk×Value)
 dead:List Int
 kinds:List Int
abbrev FG(q:RP)(c:R.Cf)(s:RS):Array Value:=#[ptr q.x,.int .i64 c.Ad,.int .i64 c.lines,.int .i64 c.Be,.int .i64 c.tries,.int .i64 c.table,.slice (some ⟨q.lf,0,none⟩) s.Ag.length s.Ag.length,.slice (some ⟨q.sq,0,none⟩) s.seq.length s.seq.length,.slice (some ⟨q.ud,0,none⟩) s.uid.length s.uid.length,s.M,.int .i64 s.nu,s.D,s.K]
structure RI(q:RP)(c:R.Cf)(s:RS)(E:Aq)(w:World):Prop where
 cell:w.heap[q.r]?=some (.cells (FG q c s) 38 (0,0))
 lf:w.heap[q.lf]?=some (.cells (ints s.Ag).toArray 3 (0,0))
 sq:w.heap[q.sq]?=some (.cells (ints s.seq).toArray 3 (0,0))
 ud:w.heap[q.ud]?=some (.cells (ints s.uid).toArray 3 (0,0))
 M:w.ownsRow 0 55 7 s.M s.made.length (tab DF s.made)
 D:w.ownsRow 0 3 1 s.D s.dead.length (ints s.dead)
 K:w.ownsRow 0 3 1 s.K s.kinds.length (ints s.kinds)
 args:∀z∈s.made,BD w E z.2 z.1.arg
 BM:E q.r/\E q.lf/\E q.sq/\E q.ud
 rows:∀j,(s.M.ownBlock=some j\/s.D.ownBlock=some j\/s.K.ownBlock=some j)->E j
 ne:q.lf≠q.sq/\q.lf≠q.ud/\q.sq≠q.ud
 nD:s.D.ownBlock≠some q.lf/\s.D.ownBlock≠some q.sq/\s.D.ownBlock≠some q.ud
 nK:s.K.ownBlock≠some q.lf/\s.K.ownBlock≠some q.sq/\s.K.ownBlock≠some q.ud
 YB:∀j,s.D.ownBlock=some j->s.K.ownBlock≠some j
 lt:∀k,E k->k<w.heap.size
theorem RI.elsewhere{q:RP}{c:R.Cf}{s:RS}{E G:Aq}{w w':World}(h:RI q c s E w)(hk:Af G w w')(ha:∀k,E k->¬G k):RI q c s E w':=by
 obtain⟨f1,f2,f3,f4⟩:=h.BM;refine⟨hk.at h.cell (ha _ f1),hk.at h.lf (ha _ f2),hk.at h.sq (ha _ f3),hk.at h.ud (ha _ f4),hk.row h.M (fun j hj=>ha j (h.rows j (Or.inl hj))),hk.row h.D (fun j hj=>ha j (h.rows j (Or.inr (Or.inl hj)))),hk.row h.K (fun j hj=>ha j (h.rows j (Or.inr (Or.inr hj)))),fun z hz=>(h.args z hz).keep hk (fun b _ hb _=>ha b hb) (fun _ q=>q),h.BM,h.rows,h.ne,h.nD,h.nK,h.YB,fun k hf=>Nat.lt_of_lt_of_le (h.lt k hf) hk.size⟩
theorem RI.below{q:RP}{c:R.Cf}{s:RS}{E:Aq}{w w':World}(h:RI q c s E w)(hb:Below w.heap.size w w'):RI q c s E w':=h.elsewhere (Af.Aj hb (fun _=>False)) (fun _ _ h=>h)
structure A9(w0:World)(q:RP)(p:Pl)(c:R.Cf)(s:RS)(G:R.Wd)(w:World):Prop where
 run:∃t E F,RI q c s E w/\LW {p with t:=t} F G w/\(∀k,E k->¬F k)/\(∀k,E k\/F k->w0.heap.size<=k)
 x:q.x=p.x
 t0:DU w
 below:Below w0.heap.size w0 w
 pos:0<w0.heap.size
theorem A9.world{w0:World}{q:RP}{p:Pl}{c:R.Cf}{s:RS}{G G':R.Wd}{w w':World}{E F F':Aq}{t:SP}(h:A9 w0 q p c s G w)(hr:RI q c s E w)(hd:∀k,E k->¬F k)(hlo:∀k,E k\/F k->w0.heap.size<=k)(hw':LW {p with t:=t} F' G' w')(hwt:Ay F F' w w'):A9 w0 q p c s G' w':=by
 have hb:=hwt.keeps.below (B:=w0.heap.size) h.below.size (fun k hk=>hlo k (Or.inr hk));refine⟨⟨t,E,F',hr.elsewhere hwt.keeps hd,hw',fun k he hf=>?_,fun k hk=>?_⟩,h.x,h.t0.keeps hwt.keeps (fun h0=>by have:=hlo 0 (Or.inr h0);have:=h.pos;omega),h.below.trans hb,h.pos⟩
 ·rcases hwt.fresh k hf with f|f
  ·exact hd k he f
  ·have:=hr.lt k he;omega
 ·rcases hk with hk|hk
  ·exact hlo k (Or.inl hk)
  ·rcases hwt.fresh k hk with f|f
   ·exact hlo k (Or.inr f)
   ·have:=h.below.size;omega
theorem A9.still{w0:World}{q:RP}{p:Pl}{c:R.Cf}{s:RS}{G:R.Wd}{w w':World}(h:A9 w0 q p c s G w)(hb:Below w.heap.size w w'):A9 w0 q p c s G w':=by
 obtain⟨tp,E,F,hr,hw,hd,hlo⟩:=h.run;exact h.world hr hd hlo (hw.below hb) (Ay.Aj F hb)
theorem A9.own{w0:World}{q:RP}{p:Pl}{c:R.Cf}{s s':RS}{G:R.Wd}{w w':World}{E E' F:Aq}{t:SP}(h:A9 w0 q p c s G w)(hw:LW {p with t:=t} F G w)(hd:∀k,E k->¬F k)(hlo:∀k,E k\/F k->w0.heap.size<=k)(hr':RI q c s' E' w')(hwt:Ay E E' w w'):A9 w0 q p c s' G w':=by
 have hb:=hwt.keeps.below (B:=w0.heap.size) h.below.size (fun k hk=>hlo k (Or.inl hk));refine⟨⟨t,E',F,hr',hw.elsewhere hwt.keeps (fun k hf he=>hd k he hf),fun k he hf=>?_,fun k hk=>?_⟩,h.x,h.t0.keeps hwt.keeps (fun h0=>by have:=hlo 0 (Or.inl h0);have:=h.pos;omega),h.below.trans hb,h.pos⟩
 ·rcases hwt.fresh k he with f|f
  ·exact hd k f hf
  ·have:=hw.lt k hf;omega
 ·rcases hk with hk|hk
  ·rcases hwt.fresh k hk with f|f
   ·exact hlo k (Or.inl f)
   ·have:=h.below.size;omega
  ·exact hlo k (Or.inr hk)
theorem NZ{E:Aq}{w:World}{b o:Nat}(hb:E b)(v:Value):Af E w (w.setCell ⟨b,o,none⟩ v):=Af.setCell (F:=E) (Af.refl _ w) (p:=⟨b,o,none⟩) (Or.inl hb) v
theorem EW{E:Aq}{w:World}{b off:Nat}{cs:Array Value}{t:TypeId}{fz:Nat×Nat}{l:List (Mk×Value)}(h:∀z∈l,BD w E z.2 z.1.arg)(hb:w.heap[b]?=some (.cells cs t fz))(ht:t≠106)(v:Value):∀z∈l,BD (w.setCell ⟨b,off,none⟩ v) E z.2 z.1.arg:=fun z hz=>
 (h z hz).keep (E:=fun k=>k=b) (Am v) (fun _ _ _ hc e=>Bi hc hb (fun q=>ht q.symm) e) (fun _ q=>q)
theorem A9.M7{w0:World}{q:RP}{p:Pl}{c:R.Cf}{s:RS}{G:R.Wd}{w:World}(h:A9 w0 q p c s G w)(v:Int):A9 w0 q p c {s with nu:=v} G (w.setCell ⟨q.r,10,none⟩ (.int .i64 v)):=by
 obtain⟨tp,E,F,hr,hw,hd,hlo⟩:=h.run;have sz:(w.setCell ⟨q.r,10,none⟩ (.int .i64 v)).heap.size=w.heap.size:=by simp[World.setCell]
 have ne3:∀{b:Nat} {ys:Array Value} {t:TypeId},w.heap[b]?=some (.cells ys t (0,0))->t≠38->(w.setCell ⟨q.r,10,none⟩ (.int .i64 v)).heap[b]?=some (.cells ys t (0,0)):=fun hb ht=>by
  rw[Below.heap_setCell _ _ _ _ (Bi hb hr.cell ht)];exact hb
 refine h.own (s':={s with nu:=v}) hw hd hlo (E':=E) ⟨?_,ne3 hr.lf (by decide),ne3 hr.sq (by decide),ne3 hr.ud (by decide),?_,?_,?_,?_,hr.BM,hr.rows,hr.ne,hr.nD,hr.nK,hr.YB,fun k hk=>by rw[sz];exact hr.lt k hk⟩ ⟨NZ hr.BM.1 _,fun _ e=>Or.inl e⟩
 ·exact Ak (cs:=(FG q c s).toList) (off:=10) hr.cell _
 ·exact A8 hr.M (A6 hr.M hr.cell (by decide)) _
 ·exact A8 hr.D (A6 hr.D hr.cell (by decide)) _
 ·exact A8 hr.K (A6 hr.K hr.cell (by decide)) _
 ·exact EW hr.args hr.cell (by decide) _
theorem A9.acQ{w0:World}{q:RP}{p:Pl}{c:R.Cf}{s:RS}{G:R.Wd}{w:World}(h:A9 w0 q p c s G w)(k:Nat)(v:Int):A9 w0 q p c {s with uid:=s.uid.set k v} G (w.setCell ⟨q.ud,k,none⟩ (.int .i64 v)):=by
 obtain⟨tp,E,F,hr,hw,hd,hlo⟩:=h.run;have sz:(w.setCell ⟨q.ud,k,none⟩ (.int .i64 v)).heap.size=w.heap.size:=by simp[World.setCell]
 have oth:∀{b:Nat} {o:Obj},w.heap[b]?=some o->b≠q.ud->(w.setCell ⟨q.ud,k,none⟩ (.int .i64 v)).heap[b]?=some o:=fun hb ht=>by
  rw[Below.heap_setCell _ _ _ _ ht];exact hb
 refine h.own (s':={s with uid:=s.uid.set k v}) hw hd hlo (E':=E) ⟨?_,oth hr.lf hr.ne.2.1,oth hr.sq hr.ne.2.2,?_,?_,?_,?_,?_,hr.BM,hr.rows,hr.ne,hr.nD,hr.nK,hr.YB,fun k hk=>by rw[sz];exact hr.lt k hk⟩ ⟨NZ hr.BM.2.2.2 _,fun _ e=>Or.inl e⟩
 ·have:=oth hr.cell (Bi hr.cell hr.ud (by decide));simpa [FG] using this
 ·rw[Ak hr.ud,ints_set]
 ·exact A8 hr.M (A6 hr.M hr.ud (by decide)) _
 ·exact A8 hr.D hr.nD.2.2 _
 ·exact A8 hr.K hr.nK.2.2 _
 ·exact EW hr.args hr.ud (by decide) _
theorem A9.acP{w0:World}{q:RP}{p:Pl}{c:R.Cf}{s:RS}{G:R.Wd}{w:World}(h:A9 w0 q p c s G w)(k:Nat)(v:Int):A9 w0 q p c {s with Ag:=s.Ag.set k v} G (w.setCell ⟨q.lf,k,none⟩ (.int .i64 v)):=by
 obtain⟨tp,E,F,hr,hw,hd,hlo⟩:=h.run;have sz:(w.setCell ⟨q.lf,k,none⟩ (.int .i64 v)).heap.size=w.heap.size:=by simp[World.setCell]
 have oth:∀{b:Nat} {o:Obj},w.heap[b]?=some o->b≠q.lf->(w.setCell ⟨q.lf,k,none⟩ (.int .i64 v)).heap[b]?=some o:=fun hb ht=>by
  rw[Below.heap_setCell _ _ _ _ ht];exact hb
 refine h.own (s':={s with Ag:=s.Ag.set k v}) hw hd hlo (E':=E) ⟨?_,?_,oth hr.sq hr.ne.1.symm,oth hr.ud hr.ne.2.1.symm,?_,?_,?_,?_,hr.BM,hr.rows,hr.ne,hr.nD,hr.nK,hr.YB,fun k hk=>by rw[sz];exact hr.lt k hk⟩ ⟨NZ hr.BM.2.1 _,fun _ e=>Or.inl e⟩
 ·have:=oth hr.cell (Bi hr.cell hr.lf (by decide));simpa [FG] using this
 ·rw[Ak hr.lf,ints_set]
 ·exact A8 hr.M (A6 hr.M hr.lf (by decide)) _
 ·exact A8 hr.D hr.nD.1 _
 ·exact A8 hr.K hr.nK.1 _
 ·exact EW hr.args hr.lf (by decide) _
theorem DC{w wz:World}{o:Obj}{V:Value}(hg:(w.alloc o).grownBy wz V.ownBlock){b:Nat}{x:Obj}(hb:w.heap[b]?=some x)(hne:V.ownBlock≠some b):wz.heap[b]?=some x:=by
 have hl:=(Array.getElem?_eq_some_iff.1 hb).1;exact(hg.block b (by simp;omega) (fun e=>hne e.symm)).trans ((Below.heap_alloc _ _ _ hl).trans hb)
theorem Hg{w wz:World}{o:Obj}{V:Value}(hg:(w.alloc o).grownBy wz V.ownBlock){B:Nat}{e:TypeId}{size n:Nat}{v:Value}{xs:List Value}(h:w.ownsRow B e size v n xs)(hne:∀j,v.ownBlock=some j->V.ownBlock≠some j):wz.ownsRow B e size v n xs:=by
 obtain⟨hl,hx⟩:=h;refine⟨hl,?_⟩;rcases hx with hx|⟨g,cap,cur,rfl,hb,hgb,r⟩
 ·exact Or.inl hx
 ·exact Or.inr ⟨g,cap,cur,rfl,hb,DC hg hgb (hne g rfl),r⟩
theorem JO{E E':Aq}{w wz:World}{o:Obj}{V:Value}{e:TypeId}{size n:Nat}{xs:List Value}{l:List (Mk×Value)}(hg:(w.alloc o).grownBy wz V.ownBlock)(hV:w.ownsRow 0 e size V n xs)(he:e≠106)(h:∀z∈l,BD w E z.2 z.1.arg)(hE:∀k,E k->E' k):∀z∈l,BD wz E' z.2 z.1.arg:=fun z hz=>
 (h z hz).keep (E:=fun k=>V.ownBlock=some k) (((Af.refl _ w).alloc o).grown hg (fun _ hk=>Or.inl hk)) (fun _ _ _ hc e=>A6 hV hc he e) hE
def GY(s:Value)(w:World)(v:Value):Prop:=v.ownBlock=s.ownBlock\/∃j,v.ownBlock=some j/\w.heap.size<=j
theorem GY.at{s v:Value}{w:World}(h:GY s w v){j:Nat}(hj:v.ownBlock=some j):s.ownBlock=some j\/w.heap.size<=j:=by
 rcases h with e|⟨i,e,hi⟩
 ·exact Or.inl (e ▸ hj)
 ·rw[e]at hj;cases hj;exact Or.inr hi
theorem GY.ne{s v:Value}{w:World}(h:GY s w v){b:Nat}(hb:b<w.heap.size)(hs:s.ownBlock≠some b):v.ownBlock≠some b:=fun e=>by
 rcases h.at e with f|f
 ·exact hs f
 ·omega
theorem A9.acg{w0:World}{q:RP}{p:Pl}{c:R.Cf}{s:RS}{G:R.Wd}{w wz:World}{o:Obj}(h:A9 w0 q p c s G w){D':Value}{n:Int}(hown:wz.ownsRow 0 3 1 D' (s.dead.length+1) (ints s.dead++[.int .i64 n]))(hg:(w.alloc o).grownBy wz s.D.ownBlock)(hat:GY s.D w D'):A9 w0 q p c {s with D:=D',dead:=s.dead++[n]} G (wz.setCell ⟨q.r,11,none⟩ D'):=by
 obtain⟨tp,E,F,hr,hw,hd,hlo⟩:=h.run;have hDr:=A6 hr.D hr.cell (by decide);have hD'r:=hat.ne (lt_of_block hr.cell) hDr;have hK:Af E w (wz.setCell ⟨q.r,11,none⟩ D'):=Af.setCell (F:=E) (((Af.refl _ w).alloc o).grown hg (fun k hk=>Or.inl (hr.rows k (Or.inr (Or.inl hk))))) (p:=⟨q.r,11,none⟩) (Or.inl hr.BM.1) _;have sz:=hK.size;have nb:∀{b:Nat} {x:Obj},w.heap[b]?=some x->s.D.ownBlock≠some b->b≠q.r->(wz.setCell ⟨q.r,11,none⟩ D').heap[b]?=some x:=fun hb h1 h2=>by
  rw[Below.heap_setCell _ _ _ _ h2];exact DC hg hb h1
 have hcz:=DC hg hr.cell hDr;have hMD:∀j,s.M.ownBlock=some j->s.D.ownBlock≠some j:=fun j hj e=>by
  rcases hr.D.2 with ⟨hv,_⟩|⟨g,cap,cur,hv,_,hgb,_⟩
  ·rw[hv]at e;cases e
  ·rw[hv]at e;cases e;exact A6 hr.M hgb (by decide) hj
 refine h.own (s':={s with D:=D',dead:=s.dead++[n]}) hw hd hlo (E':=fun k=>E k\/(w.heap.size<=k/\k<(wz.setCell ⟨q.r,11,none⟩ D').heap.size)) ⟨?_,nb hr.lf hr.nD.1 (Bi hr.lf hr.cell (by decide)),nb hr.sq hr.nD.2.1 (Bi hr.sq hr.cell (by decide)),nb hr.ud hr.nD.2.2 (Bi hr.ud hr.cell (by decide)),?_,?_,?_,?_,⟨Or.inl hr.BM.1,Or.inl hr.BM.2.1,Or.inl hr.BM.2.2.1,Or.inl hr.BM.2.2.2⟩,?_,hr.ne,?_,hr.nK,?_,?_⟩ ⟨hK,?_⟩
 ·exact Ak (cs:=(FG q c s).toList) (off:=11) hcz _
 ·exact A8 (Hg hg hr.M hMD) (A6 hr.M hr.cell (by decide)) _
 ·have:=A8 hown hD'r D' (off:=11);simpa [MZ] using this
 ·exact A8 (Hg hg hr.K (fun j hj e=>hr.YB j e hj)) (A6 hr.K hr.cell (by decide)) _
 ·exact EW (JO hg hr.D (by decide) hr.args (fun _ q=>Or.inl q)) hcz (by decide) _
 ·rintro j (e|e|e)
  ·exact Or.inl (hr.rows j (Or.inl e))
  ·rcases hat.at e with f|f
   ·exact Or.inl (hr.rows j (Or.inr (Or.inl f)))
   ·exact Or.inr ⟨f,(World.ownsRow.lt (A8 hown hD'r D' (off:=11)) j e).2⟩
  ·exact Or.inl (hr.rows j (Or.inr (Or.inr e)))
 ·exact⟨hat.ne (lt_of_block hr.lf) hr.nD.1,hat.ne (lt_of_block hr.sq) hr.nD.2.1,hat.ne (lt_of_block hr.ud) hr.nD.2.2⟩
 ·intro j hj e;rcases hat.at hj with f|f
  ·exact hr.YB j f e
  ·have:=hr.lt _ (hr.rows j (Or.inr (Or.inr e)));omega
 ·rintro k (e|e)
  ·exact Nat.lt_of_lt_of_le (hr.lt k e) sz
  ·exact e.2
 ·rintro k (e|e)
  ·exact Or.inl e
  ·exact Or.inr e.1
theorem A9.ach{w0:World}{q:RP}{p:Pl}{c:R.Cf}{s:RS}{G:R.Wd}{w wz:World}{o:Obj}(h:A9 w0 q p c s G w){K':Value}{n:Int}(hown:wz.ownsRow 0 3 1 K' (s.kinds.length+1) (ints s.kinds++[.int .i64 n]))(hg:(w.alloc o).grownBy wz s.K.ownBlock)(hat:GY s.K w K'):A9 w0 q p c {s with K:=K',kinds:=s.kinds++[n]} G (wz.setCell ⟨q.r,12,none⟩ K'):=by
 obtain⟨tp,E,F,hr,hw,hd,hlo⟩:=h.run;have hKr:=A6 hr.K hr.cell (by decide);have hK'r:=hat.ne (lt_of_block hr.cell) hKr;have hK:Af E w (wz.setCell ⟨q.r,12,none⟩ K'):=Af.setCell (F:=E) (((Af.refl _ w).alloc o).grown hg (fun k hk=>Or.inl (hr.rows k (Or.inr (Or.inr hk))))) (p:=⟨q.r,12,none⟩) (Or.inl hr.BM.1) _;have sz:=hK.size;have nb:∀{b:Nat} {x:Obj},w.heap[b]?=some x->s.K.ownBlock≠some b->b≠q.r->(wz.setCell ⟨q.r,12,none⟩ K').heap[b]?=some x:=fun hb h1 h2=>by
  rw[Below.heap_setCell _ _ _ _ h2];exact DC hg hb h1
 have hcz:=DC hg hr.cell hKr;have hMK:∀j,s.M.ownBlock=some j->s.K.ownBlock≠some j:=fun j hj e=>by
  rcases hr.K.2 with ⟨hv,_⟩|⟨g,cap,cur,hv,_,hgb,_⟩
  ·rw[hv]at e;cases e
  ·rw[hv]at e;cases e;exact A6 hr.M hgb (by decide) hj
 refine h.own (s':={s with K:=K',kinds:=s.kinds++[n]}) hw hd hlo (E':=fun k=>E k\/(w.heap.size<=k/\k<(wz.setCell ⟨q.r,12,none⟩ K').heap.size)) ⟨?_,nb hr.lf hr.nK.1 (Bi hr.lf hr.cell (by decide)),nb hr.sq hr.nK.2.1 (Bi hr.sq hr.cell (by decide)),nb hr.ud hr.nK.2.2 (Bi hr.ud hr.cell (by decide)),?_,?_,?_,?_,⟨Or.inl hr.BM.1,Or.inl hr.BM.2.1,Or.inl hr.BM.2.2.1,Or.inl hr.BM.2.2.2⟩,?_,hr.ne,hr.nD,?_,?_,?_⟩ ⟨hK,?_⟩
 ·exact Ak (cs:=(FG q c s).toList) (off:=12) hcz _
 ·exact A8 (Hg hg hr.M hMK) (A6 hr.M hr.cell (by decide)) _
 ·exact A8 (Hg hg hr.D (fun j hj e=>hr.YB j hj e)) (A6 hr.D hr.cell (by decide)) _
 ·have:=A8 hown hK'r K' (off:=12);simpa [MZ] using this
 ·exact EW (JO hg hr.K (by decide) hr.args (fun _ q=>Or.inl q)) hcz (by decide) _
 ·rintro j (e|e|e)
  ·exact Or.inl (hr.rows j (Or.inl e))
  ·exact Or.inl (hr.rows j (Or.inr (Or.inl e)))
  ·rcases hat.at e with f|f
   ·exact Or.inl (hr.rows j (Or.inr (Or.inr f)))
   ·exact Or.inr ⟨f,(World.ownsRow.lt (A8 hown hK'r K' (off:=12)) j e).2⟩
 ·exact⟨hat.ne (lt_of_block hr.lf) hr.nK.1,hat.ne (lt_of_block hr.sq) hr.nK.2.1,hat.ne (lt_of_block hr.ud) hr.nK.2.2⟩
 ·intro j hj e;rcases hat.at e with f|f
  ·exact hr.YB j hj f
  ·have:=hr.lt _ (hr.rows j (Or.inr (Or.inl hj)));omega
 ·rintro k (e|e)
  ·exact Nat.lt_of_lt_of_le (hr.lt k e) sz
  ·exact e.2
 ·rintro k (e|e)
  ·exact Or.inl e
  ·exact Or.inr e.1
theorem ab1:(Tryz.prog.info? 3).map (fun i=>(i.zero,i.size,i.bytes))=some (some (.int .i64 0),1,8):=by kernel_rfl
theorem one_num(w:World)(n:Int)(j:Nat)(u:Value)(h:([.int .i64 n]:List Value)[j]?=some u):(w.alloc (.cells #[.int .i64 n] 3)).cell? ((⟨w.heap.size,0,none⟩:Addr).add j)=some u:=by
 rw[Addr.add_lit,Nat.zero_add,World.cell?_alloc_new w _ _ j,<-List.getElem?_toArray]at *;exact h
theorem RV(w:World)(n:Int){m:Nat}(hm:w.heap.size=m)(j:Nat)(u:Value)(h:([.int .i64 n]:List Value)[j]?=some u):(w.alloc (.cells #[.int .i64 n] 3)).cell? ((⟨m,0,none⟩:Addr).add j)=some u:=by
 subst hm;exact one_num w n j u h
theorem NQ{V v:Value}{w:World}(h:v.ownBlock=V.ownBlock\/v.ownBlock=some (w.heap.size+1)):GY V w v:=by
 rcases h with h|h
 ·exact Or.inl h
 ·exact Or.inr ⟨_,h,by omega⟩
structure ZZ(q:RP)(s:RS)(w:World):Prop where
 a0:w.cell? ⟨q.r,0,none⟩=some (ptr q.x)
 a6:w.cell? ⟨q.r,6,none⟩=some (.slice (some ⟨q.lf,0,none⟩) s.Ag.length s.Ag.length)
 a7:w.cell? ⟨q.r,7,none⟩=some (.slice (some ⟨q.sq,0,none⟩) s.seq.length s.seq.length)
 a8:w.cell? ⟨q.r,8,none⟩=some (.slice (some ⟨q.ud,0,none⟩) s.uid.length s.uid.length)
 a9:w.cell? ⟨q.r,9,none⟩=some s.M
 YD:w.cell? ⟨q.r,10,none⟩=some (.int .i64 s.nu)
 a11:w.cell? ⟨q.r,11,none⟩=some s.D
 a12:w.cell? ⟨q.r,12,none⟩=some s.K
 z:∀o,w.frozen? ⟨q.r,o,none⟩=false
 zu:∀o,w.frozen? ⟨q.ud,o,none⟩=false
 zs:∀o,w.frozen? ⟨q.sq,o,none⟩=false
 zl:∀o,w.frozen? ⟨q.lf,o,none⟩=false
 u:∀k v,s.uid[k]?=some v->w.cell? ⟨q.ud,k,none⟩=some (.int .i64 v)
 sq:∀k v,s.seq[k]?=some v->w.cell? ⟨q.sq,k,none⟩=some (.int .i64 v)
 lf:∀k v,s.Ag[k]?=some v->w.cell? ⟨q.lf,k,none⟩=some (.int .i64 v)
 nur:¬q.ud=q.r
 nsr:¬q.sq=q.r
 RN:q.r<w.heap.size
 ltu:q.ud<w.heap.size
theorem A9.cells{w0:World}{q:RP}{p:Pl}{c:R.Cf}{s:RS}{G:R.Wd}{w:World}(h:A9 w0 q p c s G w):ZZ q s w:=by
 obtain⟨tp,E,F,hr,_⟩:=h.run;have hx:=hr.cell;exact⟨cell_of hx 0 _ rfl,cell_of hx 6 _ rfl,cell_of hx 7 _ rfl,cell_of hx 8 _ rfl,cell_of hx 9 _ rfl,cell_of hx 10 _ rfl,cell_of hx 11 _ rfl,cell_of hx 12 _ rfl,fun o=>open_list hx,fun o=>open_list hr.ud,fun o=>open_list hr.sq,fun o=>open_list hr.lf,fun k v hv=>AY hr.ud (EB hv),fun k v hv=>AY hr.sq (EB hv),fun k v hv=>AY hr.lf (EB hv),Bi hr.ud hx (by decide),Bi hr.sq hx (by decide),lt_of_block hx,lt_of_block hr.ud⟩
theorem abJ:∀args w,(callFunc 61 args).run Tryz.prog w=.ok (.enter 61 args) w:=fun _ _=>rfl
theorem acE:∀args w,(callFunc 60 args).run Tryz.prog w=.ok (.enter 60 args) w:=fun _ _=>rfl
theorem O7(w0:World)(q:RP)(p:Pl)(c:R.Cf)(s:RS)(G:R.Wd)(w:World)(k:Nat)(hk:k<3)(h:A9 w0 q p c s G w)(hul:s.uid.length=3)(hu:s.uid[k]?=some 0)(hnu:s.nu=(G.Ac.length:Int))(hn:¬Ch k∈G.names)(h6:G.names.length<6)(h255:G.Ac.length<200)(hnd:s.dead.length<=255)(hnk:s.kinds.length<=255):
  Calls Tryz.prog 28 #[ptr q.r,.int .i64 (k:Int)] w fun e w'=>e=.returned (.bool true)/\∃D K,A9 w0 q p c ⟨s.Ag,s.seq,s.uid.set k (s.nu+1),s.nu+1,s.M,D,K,s.made,s.dead++[-1],s.kinds++[(k:Int)]⟩ (Bw G (Ch k) k) w':=by
 obtain⟨a0,a6,a7,a8,a9,YD,a11,a12,z,zu,zs,zl,fu,fs,fl,nur,nsr,RN,ltu⟩:=h.cells;have b1:=fu k 0 hu;have hkn:(k:Int)<(s.uid.length:Int):=by omega
 have e255:(s.nu==255)=false:=by simp;omega
 have HNA:=Ab (PN k hk);have hwr:IntKind.i64.wrap (s.nu+1)=s.nu+1:=by rw[IntKind.wrap_i64];omega
 have H36:Hid (Calls Tryz.prog 60 #[ptr q.x,.string (str (Ch k)),.int .i64 (k:Int)] w.drew fun e w'=>e=.returned (.tuple #[.int .i64 (s.nu+1),.int .i64 0])/\A9 w0 q p c s (Bw G (Ch k) k) w'):=by
  have hd:=h.still (Below.refl w.heap.size w).drew;obtain⟨tp,E,F,hr,hw,hdj,hlo⟩:=hd.run;rw[h.x,hnu];refine(OZ w.drew p.x p.n p.s p.cs G.Ad.length p.cap (str (Ch k)) k ((G.Ac.length:Int)+1) 0 _ hw.bx (hw.exported (Lr k) (by omega) hn h6 (by omega))).mono ?_;rintro e w' ⟨rfl,t',F',q1,q2⟩;exact⟨rfl,hd.world (t:=t') hr hdj hlo q1 q2⟩
 generalize str (Ch k)=SN at *;obtain⟨i0,hi,hz0,hz1,hz2⟩:=info_parts ab1;clear hn h6 h255 h a6 a7 a9 a11 a12 z zu zs zl fu fs fl hnu;go_enter Tryz.func28,Tryz.ntmps28;go_wp2;go_region_law (first
  |(refine AR rfl 61 #[.tmp 78] #[3] rfl abJ #[.int .i64 (k:Int)] rfl _ ((Aa HNA) _) ?_;rintro e w1 ⟨rfl,hw1⟩;rw[hw1];clear hw1;refine⟨_,rfl,?_⟩)
  |(refine AR rfl 60 #[.tmp 77,.tmp 79,.tmp 80] #[34,9,3] rfl acE #[ptr q.x,.string SN,.int .i64 (k:Int)] rfl _ (Aa H36) ?_;rintro e w2 ⟨rfl,hB⟩;have HBT:=Ab hB;clear hB;refine⟨_,rfl,?_⟩))
 all_goals
  clear a0 a8 YD b1 RN ltu H36 HNA;have hc2:=(Aa HBT).cells;have y10:=hc2.YD;have y10z:=hc2.z 10;have y0:=hc2.RN;have HB2:=Ab ((Aa HBT).M7 (s.nu+1));clear hc2 HBT;go_wp2;generalize w2.setCell ⟨q.r,10,none⟩ (.int .i64 (s.nu+1))=W2 at *;have hc3:=(Aa HB2).cells;have x8:=hc3.a8;have x10:=hc3.YD;have xk:=hc3.zu k;have xu:=hc3.u k 0 (by assumption);simp only at x8 x10;have xl:=hc3.ltu;have HB3:=Ab (((Aa HB2).acQ k (s.nu+1)).still (Below.refl _ _).drew);clear hc3 HB2 y10 y10z y0
  go_region
  all_goals
   generalize (W2.setCell ⟨q.ud,k,none⟩ (.int .i64 (s.nu+1))).drew=W3 at *;clear x8 x10 xk xu xl;have hc4:=(Aa HB3).cells;have hrun:=(Aa HB3).run;obtain⟨tp,E,F,hr,hEF⟩:=hrun;have hxs:=hr.D;have hsl:=Bg hxs;obtain⟨da,dc,hD⟩:=hsl;have x11:=hc4.a11;have x11z:=hc4.z 11;have xr:=hc4.RN;simp only at hD hxs x11;rw[hD]at x11 hxs;have HXS:=Ab hxs;have HD:=Ab hD;clear hc4 hr hEF hxs hD;go_wp2_with (at_builtin;go_must (refine wpList_append_own_at _ rfl (.tmp 105) (.tmp 106) 35 rfl 0 3 i0 (.int .i64 0) 1 8 Tryz.underlying35 hi hz0 hz1 hz2 rfl (by decide) (.slice da s.dead.length dc) s.dead.length (ints s.dead) rfl (by exact(Aa HXS).alloc _) ⟨W3.heap.size,0,none⟩ 1 1 [.int .i64 (-1)] rfl rfl (by exact one_num W3 (-1)) (by simp[Value.oneCell']) (by unfold maxLen;omega) (by omega) (by omega) ?_))
   intro v' wz hown hgrow _ hat;obtain⟨va,vn,vc,hvs⟩:=Ar hown;subst hvs;have HB4:=Ab ((Aa HB3).acg (o:=.cells #[.int .i64 (-1)] 3) (n:=-1) (D':=.slice va vn vc) hown (by rw[Aa HD];exact hgrow) (by rw[Aa HD];exact NQ (by simpa using hat)));have hgr:wz.heap[q.r]?=W3.heap[q.r]?:=by
    refine(hgrow.block q.r (by simp;omega) (fun e=>?_)).trans (Below.heap_alloc _ _ _ xr);have hrun:=(Aa HB3).run;obtain⟨tp,E,F,hr,hEF⟩:=hrun;have hcell:=hr.cell;exact A6 (Aa HXS) hcell (by decide) e.symm
   have g11:wz.cell? ⟨q.r,11,none⟩=some (.slice da s.dead.length dc):=(World.cell?_of_block hgr).trans x11;have g11z:wz.frozen? ⟨q.r,11,none⟩=false:=(World.frozen?_of_block hgr).trans x11z;have glt:q.r<wz.heap.size:=lt_of_cell g11;clear hown hgrow hat hgr x11 x11z HXS HD HB3;have hc5:=(Aa HB4).cells;have hrun:=(Aa HB4).run;obtain⟨tp,E,F,hr,hEF⟩:=hrun;have hys:=hr.K;have hsl:=Bg hys;obtain⟨ka,kc,hKs⟩:=hsl;have x12:=hc5.a12;have x12z:=hc5.z 12;have x10:=hc5.YD;have xr5:=hc5.RN;simp only at hKs hys x12 x10;rw[hKs]at x12 hys;have HYS:=Ab hys;have HKS:=Ab hKs;clear hc5 hr hEF hys hKs;go_wp2_with (at_builtin;go_must (refine wpList_append_own_at _ rfl (.tmp 114) (.tmp 116) 35 rfl 0 3 i0 (.int .i64 0) 1 8 Tryz.underlying35 hi hz0 hz1 hz2 rfl (by decide) (.slice ka s.kinds.length kc) s.kinds.length (ints s.kinds) rfl (by exact(Aa HYS).alloc _) ⟨wz.heap.size,0,none⟩ 1 1 [.int .i64 (k:Int)] rfl rfl (by exact RV _ (k:Int) (by simp)) (by simp[Value.oneCell']) (by unfold maxLen;omega) (by omega) (by omega) ?_))
   intro v2 wy hown hgrow _ hat;obtain⟨ua,un,uc,hvs⟩:=Ar hown;subst hvs;have HB5:=Ab ((Aa HB4).ach (o:=.cells #[.int .i64 (k:Int)] 3) (n:=(k:Int)) (K':=.slice ua un uc) hown (by rw[Aa HKS];exact hgrow) (by rw[Aa HKS];exact NQ (by simpa using hat)));generalize wz.setCell ⟨q.r,11,none⟩ (.slice va vn vc)=W4 at *;have hgr:wy.heap[q.r]?=W4.heap[q.r]?:=by
    refine(hgrow.block q.r (by simp;omega) (fun e=>?_)).trans (Below.heap_alloc _ _ _ xr5);have hrun:=(Aa HB4).run;obtain⟨tp,E,F,hr,hEF⟩:=hrun;have hcell:=hr.cell;exact A6 (Aa HYS) hcell (by decide) e.symm
   have f12:wy.cell? ⟨q.r,12,none⟩=some (.slice ka s.kinds.length kc):=(World.cell?_of_block hgr).trans x12;have f12z:wy.frozen? ⟨q.r,12,none⟩=false:=(World.frozen?_of_block hgr).trans x12z;have flt:q.r<wy.heap.size:=lt_of_cell f12;have hc6:=(Aa HB5).cells;have v10:=hc6.YD;simp only at v10;clear hown hgrow hat hgr x12 x12z x10 HYS HKS HB4 g11 g11z glt hc6;go_wp2;go_returns;exact⟨rfl,_,_,Aa HB5⟩
def C4(G:R.Wd)(i:Nat)(u:List Int):Nat->R.Wd
 |0=>G
 |k+1=>Bd (C4 G i u k) i ((u[k]?).getD 0)
theorem Fg(G:R.Wd)(i:Nat)(u:List Int)(n:List UInt8):∀k,Bc (C4 G i u k) n=Bc G n
 |0=>rfl
 |k+1=>Fg G i u n k
theorem II(G:R.Wd)(i:Nat)(u:List Int)(n:Int):∀k,kindOf (C4 G i u k) n=kindOf G n
 |0=>rfl
 |k+1=>II G i u n k
theorem Ic(G:R.Wd)(i:Nat)(u:List Int):∀k,(C4 G i u k).Ad.length=G.Ad.length
 |0=>rfl
 |k+1=>by
  show (Bd (C4 G i u k) i _).Ad.length=_;rw[<-Ic G i u k];simp[Bd]
theorem acF:∀args w,(callFunc 62 args).run Tryz.prog w=.ok (.enter 62 args) w:=fun _ _=>rfl
theorem VT(w0:World)(q:RP)(p:Pl)(c:R.Cf)(s:RS)(G:R.Wd)(w:World)(i:Nat)(h:A9 w0 q p c s G w)(hi:i<G.Ad.length)(hul:s.uid.length=3)(hst:∀k,k<3->∃u,s.uid[k]?=some u/\Bc G (Ch k)=some u/\kindOf G u=(k:Int)):
  Calls Tryz.prog 29 #[ptr q.r,.int .i64 (i:Int)] w fun e w'=>e=.returned (.bool true)/\A9 w0 q p c s (C4 G i s.uid 3) w':=by
 have HH:=Ab h;have HST:Hid (∀k,k<3->∃u,s.uid[k]?=some u/\Bc G (Ch k)=some u/\kindOf G u=(k:Int)):=hst;have H39:Hid (∀k wr u,k<3->A9 w0 q p c s (C4 G i s.uid k) wr->s.uid[k]?=some u->Bc G (Ch k)=some u->kindOf G u=(k:Int)->Calls Tryz.prog 62 #[ptr q.x,.int .i64 (i:Int),.string (str (Ch k))] wr.drew fun e w'=>e=.returned (.tuple #[.int .i64 u,.int .i64 (k:Int),.int .i64 0])/\A9 w0 q p c s (C4 G i s.uid (k+1)) w'):=fun k wr u hk hB h1 h2 h3=>by
  have hd:=hB.still (Below.refl wr.heap.size wr).drew;obtain⟨tp,E,F,hr,hw,hdj,hlo⟩:=hd.run;rw[hB.x];have hlt:i<(C4 G i s.uid k).Ad.length:=by rw[Ic];exact hi
  have:=hw.import (name:=Ch k) (uid:=u) (List.getElem?_eq_getElem hlt) (by have:=W9 k;omega) (by rw[Fg];exact h2);rw[II,h3]at this;refine this.mono ?_;rintro e w' ⟨rfl,q1,q2⟩;refine⟨rfl,?_⟩;show A9 w0 q p c s (Bd (C4 G i s.uid k) i ((s.uid[k]?).getD 0)) w';rw[h1];exact hd.world hr hdj hlo q1 q2
 have hxx:=h.cells.a0;clear h hst;go_enter Tryz.func29,Tryz.ntmps29;go_wp2;go_loopw [5] (fun kv wr=>∃k:Nat,k<=3/\kv=.int .i64 k/\A9 w0 q p c s (C4 G i s.uid k) wr) (fun kv _=>3-(intOf kv).toNat)
 case atStart=>exact⟨0,by omega,rfl,Aa HH⟩
 case round=>
  obtain⟨k,hk,rfl,hB⟩:=hrel;by_cases hlt:k<3
  ·obtain⟨u,u1,u2,u3⟩:=(Aa HST) k hlt;have HC:=Ab ((Aa H39) k wr u hlt hB u1 u2 u3);have HNA:=Ab (PN k hlt);have b0:=hB.cells.a0;have hlr:=hB.cells.RN;have hkn:(k:Int)<(s.uid.length:Int):=by omega
   have hkn2:k<s.uid.length:=by omega
   have U1:=Ab u1;clear hB u1 u2 u3 hxx;generalize str (Ch k)=SN at *;go_wp2;go_region_law (first
    |(refine AR rfl 61 #[.tmp 19] #[3] rfl abJ #[.int .i64 (k:Int)] rfl _ ((Aa HNA) _) ?_;rintro e w1 ⟨rfl,hw1⟩;rw[hw1];clear hw1;refine⟨_,rfl,?_⟩)
    |(refine AR rfl 62 #[.tmp 17,.tmp 18,.tmp 20] #[34,3,9] rfl acF #[ptr q.x,.int .i64 (i:Int),.string SN] rfl _ (Aa HC) ?_;rintro e w2 ⟨rfl,hB2⟩;have HB2:=Ab hB2;have c8:=hB2.cells.a8;have cu:=hB2.cells.u k u (Aa U1);clear hB2;refine⟨_,rfl,?_⟩))
   all_goals
    go_wp2;go_roundw
    case rel=>exact⟨k+1,by omega,by go_num,Aa HB2⟩
    case measure=>simp[intOf];omega
  ·obtain rfl:k=3:=by omega
   go_wp2;go_returns;exact⟨rfl,hB⟩
end Go.Proofs.YtblomippkddgiaaGreatDoor
