import Derived.Test.YtblomippkddgiabGreatDoorJ26
set_option maxRecDepth 100000
set_option maxHeartbeats 600000
namespace Go.Proofs.YtblomippkddgiabGreatDoor
open Go.RowKit
variable {E E' F:Aq}{n:Int}{xs:List Value}{b j size:Nat}{o:Obj}{p:Pl}{c:R.Cf}{G:R.Wd}{t:SP}{e:TypeId}{V v:Value}{w w' w0 wz:World}
def In64(c:Int):Prop:=-9223372036854775808<=c/\c<=9223372036854775807
theorem A4(c:Int)(n:Nat)(hc:In64 c)(hn:0<n)(ac:n<=65536):∃k:Nat,k<n/\∀w,Calls Tryz.prog 27 #[.int .i64 c,.int .i64 n] w fun e w'=>e=.returned (.int .i64 k)/\w'=w:=by
 obtain⟨h1,h2⟩:=hc;have aa:¬(n:Int)=0:=by omega
 by_cases ab:c<0
 ·have h3:=Int.emod_nonneg (-(c+1)) aa;have h4:=Int.emod_lt_of_pos (-(c+1)) (show (0:Int)<n by omega);refine⟨((-(c+1)) % n).toNat,by omega,fun w=>?_⟩;have e:(-(c+1)).tmod n=(((-(c+1)) % n).toNat:Int):=by rw[Int.tmod_eq_emod_of_nonneg (by omega)];omega
  rw[Int.neg_tmod]at e;have HE:=Ac e;clear e h3 h4;go_enter Tryz.func27,Tryz.ntmps27;go_wp2
  go_ret
  rw[Aa HE];exact⟨rfl,rfl⟩
 ·have h3:=Int.emod_nonneg c aa;have h4:=Int.emod_lt_of_pos c (show (0:Int)<n by omega);obtain⟨k,hk⟩:∃k:Nat,c % n=(k:Int):=⟨(c % n).toNat,by omega⟩;refine⟨k,by omega,fun w=>?_⟩;have HE:=Ac hk;clear hk h3 h4;go_enter Tryz.func27,Tryz.ntmps27;go_wp2
  go_ret
  rw[Aa HE];exact⟨rfl,rfl⟩
def A6(k:Nat):List UInt8:=if k=0 then [115,117,109] else if k=1 then [119,97,108,108] else [100,114,97,119,101,114,115]
theorem Iq(k:Nat)(hk:k<3)(w:World):Calls Tryz.prog 49 #[.int .i64 (k:Int)] w fun e w'=>e=.returned (.string (str (A6 k)))/\w'=w:=by
 have h3:k=0\/k=1\/k=2:=by omega
 rcases h3 with rfl|rfl|rfl
 ·go_enter Tryz.func49,Tryz.ntmps49;go_wp2;go_returns;exact⟨rfl,rfl⟩
 ·go_enter Tryz.func49,Tryz.ntmps49;go_wp2;go_returns;exact⟨rfl,rfl⟩
 ·go_enter Tryz.func49,Tryz.ntmps49;go_wp2;go_returns;exact⟨rfl,rfl⟩
theorem M8(k:Nat):R.CZ (A6 k)=true:=by
 unfold A6;split
 ·decide
 ·split<;>decide
theorem YI(k:Nat):(A6 k).length<=8:=by
 unfold A6;split
 ·simp
 ·split<;>simp
theorem YH{i:Nat}(hi:i<3)(hj:j<3)(h:A6 i=A6 j):i=j:=by
 have h3:i=0\/i=1\/i=2:=by omega
 have h4:j=0\/j=1\/j=2:=by omega
 rcases h3 with rfl|rfl|rfl<;>rcases h4 with rfl|rfl|rfl<;>first|rfl|(simp[A6]at h)
theorem TW(a b r t tb:Int)(ha:In64 a)(hb:In64 b)(hr:In64 r)(ht:In64 t)(ak:In64 tb)(w:World):
  Calls Tryz.prog 16 #[UK a b r t tb] w fun e w'=>(∃c:R.Cf,R.BD c/\e=.returned (UK c.Ad c.lines c.Ay c.tries c.table))/\Below w.heap.size w w':=by
 obtain⟨a1,a2⟩:=ha;obtain⟨b1,b2⟩:=hb;obtain⟨r1,r2⟩:=hr;obtain⟨t1,t2⟩:=ht;obtain⟨q1,q2⟩:=ak;obtain⟨BX,ad⟩:∃BX,(w.alloc (.cells #[.int .i64 a,.int .i64 b,.int .i64 r,.int .i64 t,.int .i64 tb] 23)).alloc (.cells #[.int .i64 0,.int .i64 0,.int .i64 0,.int .i64 0,.int .i64 0] 23)=BX:=⟨_,rfl⟩;have HB:Hid (Below w.heap.size w BX):=by
  rw[<-ad];exact((Below.refl _ _).alloc (afI _) _).alloc (by simp) _
 have ac:BX.heap[w.heap.size]?=some (.cells #[.int .i64 a,.int .i64 b,.int .i64 r,.int .i64 t,.int .i64 tb] 23 (0,0)):=by
  rw[<-ad];exact(Below.heap_alloc _ _ _ (by simp)).trans (heap_alloc_new w _)
 have ab:BX.heap[w.heap.size+1]?=some (.cells #[.int .i64 0,.int .i64 0,.int .i64 0,.int .i64 0,.int .i64 0] 23 (0,0)):=by
  rw[<-ad];exact CM _ _ (by simp)
 have c0:BX.cell? ⟨w.heap.size,0,none⟩=some (.int .i64 a):=cell_of ac 0 _ rfl;have c1:BX.cell? ⟨w.heap.size,1,none⟩=some (.int .i64 b):=cell_of ac 1 _ rfl;have c2:BX.cell? ⟨w.heap.size,2,none⟩=some (.int .i64 r):=cell_of ac 2 _ rfl;have c3:BX.cell? ⟨w.heap.size,3,none⟩=some (.int .i64 t):=cell_of ac 3 _ rfl;have c4:BX.cell? ⟨w.heap.size,4,none⟩=some (.int .i64 tb):=cell_of ac 4 _ rfl;have d0:BX.cell? ⟨w.heap.size+1,0,none⟩=some (.int .i64 0):=cell_of ab 0 _ rfl;have d1:BX.cell? ⟨w.heap.size+1,1,none⟩=some (.int .i64 0):=cell_of ab 1 _ rfl;have d2:BX.cell? ⟨w.heap.size+1,2,none⟩=some (.int .i64 0):=cell_of ab 2 _ rfl;have d3:BX.cell? ⟨w.heap.size+1,3,none⟩=some (.int .i64 0):=cell_of ab 3 _ rfl;have d4:BX.cell? ⟨w.heap.size+1,4,none⟩=some (.int .i64 0):=cell_of ab 4 _ rfl;have z0:BX.frozen? ⟨w.heap.size+1,0,none⟩=false:=open_list ab;have z1:BX.frozen? ⟨w.heap.size+1,1,none⟩=false:=open_list ab;have z2:BX.frozen? ⟨w.heap.size+1,2,none⟩=false:=open_list ab;have z3:BX.frozen? ⟨w.heap.size+1,3,none⟩=false:=open_list ab;have z4:BX.frozen? ⟨w.heap.size+1,4,none⟩=false:=open_list ab;have m0:=lt_of_block ac;have m1:=lt_of_block ab;have aj:=Ac ad;obtain⟨k0,aq,P0⟩:=A4 (IntKind.i64.wrap (a-1)) 3 (by unfold In64;rw[IntKind.wrap_i64];omega) (by omega) (by omega);obtain⟨k1,ar,P1⟩:=A4 (IntKind.i64.wrap (b-1)) 3 (by unfold In64;rw[IntKind.wrap_i64];omega) (by omega) (by omega);obtain⟨k2,au,P2⟩:=A4 (IntKind.i64.wrap (r-1)) 8 (by unfold In64;rw[IntKind.wrap_i64];omega) (by omega) (by omega);obtain⟨k3,av,P3⟩:=A4 (IntKind.i64.wrap (t-1)) 6 (by unfold In64;rw[IntKind.wrap_i64];omega) (by omega) (by omega);obtain⟨k4,aw,P4⟩:=A4 (IntKind.i64.wrap (tb-1)) 9 (by unfold In64;rw[IntKind.wrap_i64];omega) (by omega) (by omega);have ae:=Ac P0;have af:=Ac P1;have ag:=Ac P2;have ah:=Ac P3;have ai:=Ac P4;have g0:IntKind.i64.wrap (1+(k0:Int))=1+(k0:Int):=by rw[IntKind.wrap_i64];omega
 have g1:IntKind.i64.wrap (1+(k1:Int))=1+(k1:Int):=by rw[IntKind.wrap_i64];omega
 have g2:IntKind.i64.wrap (1+(k2:Int))=1+(k2:Int):=by rw[IntKind.wrap_i64];omega
 have g3:IntKind.i64.wrap (1+(k3:Int))=1+(k3:Int):=by rw[IntKind.wrap_i64];omega
 have g4:IntKind.i64.wrap (1+(k4:Int))=1+(k4:Int):=by rw[IntKind.wrap_i64];omega
 obtain⟨A,hA⟩:∃A,A=IntKind.i64.wrap (a-1):=⟨_,rfl⟩;obtain⟨B,hB⟩:∃B,B=IntKind.i64.wrap (b-1):=⟨_,rfl⟩;obtain⟨C,hC⟩:∃C,C=IntKind.i64.wrap (r-1):=⟨_,rfl⟩;obtain⟨D,hD⟩:∃D,D=IntKind.i64.wrap (t-1):=⟨_,rfl⟩;obtain⟨E,hE⟩:∃E,E=IntKind.i64.wrap (tb-1):=⟨_,rfl⟩;rw[<-hA]at ae;rw[<-hB]at af;rw[<-hC]at ag;rw[<-hD]at ah;rw[<-hE]at ai;have al:=hA.symm;have am:=hB.symm;have an:=hC.symm;have ao:=hD.symm;have ap:=hE.symm;clear P0 P1 P2 P3 P4 hA hB hC hD hE ac ab ad a1 a2 b1 b2 r1 r2 t1 t2 q1 q2;go_enter Tryz.func16,Tryz.ntmps16;go_wp2_with fail
 rw[Aa aj];go_region_held3 (fun w'=>w'.cell? ⟨w.heap.size,0,none⟩=some (.int .i64 a)/\w'.cell? ⟨w.heap.size,1,none⟩=some (.int .i64 b)/\w'.cell? ⟨w.heap.size,2,none⟩=some (.int .i64 r)/\w'.cell? ⟨w.heap.size,3,none⟩=some (.int .i64 t)/\w'.cell? ⟨w.heap.size,4,none⟩=some (.int .i64 tb)) (go_keep)
  (first
   |(go_at_call 27;refine((Aa ae) _).mono ?_;clear ae;rintro e w1 ⟨rfl,aa⟩;rw[aa];clear aa)
   |(go_at_call 27;refine((Aa af) _).mono ?_;clear af;rintro e w1 ⟨rfl,aa⟩;rw[aa];clear aa)
   |(go_at_call 27;refine((Aa ag) _).mono ?_;clear ag;rintro e w1 ⟨rfl,aa⟩;rw[aa];clear aa)
   |(go_at_call 27;refine((Aa ah) _).mono ?_;clear ah;rintro e w1 ⟨rfl,aa⟩;rw[aa];clear aa)
   |(go_at_call 27;refine((Aa ai) _).mono ?_;clear ai;rintro e w1 ⟨rfl,aa⟩;rw[aa];clear aa))
 have HW:Hid (∀v0 v1 v2 v3 v4,Below w.heap.size w (((((BX.setCell ⟨w.heap.size+1,0,none⟩ v0).setCell ⟨w.heap.size+1,1,none⟩ v1).setCell ⟨w.heap.size+1,2,none⟩ v2).setCell ⟨w.heap.size+1,3,none⟩ v3).setCell ⟨w.heap.size+1,4,none⟩ v4).drew):=fun v0 v1 v2 v3 v4=>(((((((Aa HB).setCell (by simp) _).setCell (by simp) _).setCell (by simp) _).setCell (by simp) _).setCell (by simp) _)).drew
 go_wp2;exact bodyPost_ret (v:=UK (1+(k0:Int)) (1+(k1:Int)) (1+(k2:Int)) (1+(k3:Int)) (1+(k4:Int))) (by simp[results,Tryz.results16,go_sem,d0,d1,d2,d3,d4]) rfl ⟨⟨⟨1+(k0:Int),1+(k1:Int),1+(k2:Int),1+(k3:Int),1+(k4:Int)⟩,by unfold R.BD;simp only;omega,rfl⟩,(Aa HW) _ _ _ _ _⟩
def ints(l:List Int):List Value:=l.map fun n=>Value.int .i64 n
theorem Ew{l:List Int}{k:Nat}(h:l[k]?=some n):(ints l)[k]?=some (.int .i64 n):=by simp[ints,h]
theorem ints_set(l:List Int)(k:Nat)(n:Int):(ints l).set k (.int .i64 n)=ints (l.set k n):=by simp[ints,List.map_set]
structure Mk where
 client:Int
 Ae:Int
 line:Int
 seq:Int
 uid:Int
 proc:Int
 arg:List R.It
def DX(z:Mk×Value):List Value:=[.int .i64 z.1.client,.int .i64 z.1.Ae,.int .i64 z.1.line,.int .i64 z.1.seq,.int .i64 z.1.uid,.int .i64 z.1.proc,z.2]
theorem QW(z:Mk×Value):(DX z).length=7:=rfl
theorem Oo(l:List Int)(n:Int):ints (l++[n])=ints l++[.int .i64 n]:=by simp[ints]
structure RP where
 r:Nat
 x:Nat
 lf:Nat
 sq:Nat
 ud:Nat
structure RS where
 Ae:List Int
 seq:List Int
 uid:List Int
 nu:Int
 M:Value
 D:Value
 K:Value
 made:List (Mk×Value)
 dead:List Int
 kinds:List Int
abbrev Gc(q:RP)(c:R.Cf)(s:RS):Array Value:=#[ptr q.x,.int .i64 c.Ad,.int .i64 c.lines,.int .i64 c.Ay,.int .i64 c.tries,.int .i64 c.table,.slice (some ⟨q.lf,0,none⟩) s.Ae.length s.Ae.length,.slice (some ⟨q.sq,0,none⟩) s.seq.length s.seq.length,.slice (some ⟨q.ud,0,none⟩) s.uid.length s.uid.length,s.M,.int .i64 s.nu,s.D,s.K]
structure RI(q:RP)(c:R.Cf)(s:RS)(E:Aq)(w:World):Prop where
 cell:w.heap[q.r]?=some (.cells (Gc q c s) 32 (0,0))
 lf:w.heap[q.lf]?=some (.cells (ints s.Ae).toArray 3 (0,0))
 sq:w.heap[q.sq]?=some (.cells (ints s.seq).toArray 3 (0,0))
 ud:w.heap[q.ud]?=some (.cells (ints s.uid).toArray 3 (0,0))
 M:w.ownsRow 0 62 7 s.M s.made.length (tab DX s.made)
 D:w.ownsRow 0 3 1 s.D s.dead.length (ints s.dead)
 K:w.ownsRow 0 3 1 s.K s.kinds.length (ints s.kinds)
 args:∀z∈s.made,BF w E z.2 z.1.arg
 BP:E q.r/\E q.lf/\E q.sq/\E q.ud
 rows:∀j,(s.M.ownBlock=some j\/s.D.ownBlock=some j\/s.K.ownBlock=some j)->E j
 ne:q.lf≠q.sq/\q.lf≠q.ud/\q.sq≠q.ud
 nD:s.D.ownBlock≠some q.lf/\s.D.ownBlock≠some q.sq/\s.D.ownBlock≠some q.ud
 nK:s.K.ownBlock≠some q.lf/\s.K.ownBlock≠some q.sq/\s.K.ownBlock≠some q.ud
 Xu:∀j,s.D.ownBlock=some j->s.K.ownBlock≠some j
 lt:∀k,E k->k<w.heap.size
theorem RI.elsewhere{q:RP}{s:RS}{G:Aq}(h:RI q c s E w)(hk:Af G w w')(ha:∀k,E k->¬G k):RI q c s E w':=by
 obtain⟨f1,f2,f3,f4⟩:=h.BP;refine⟨hk.at h.cell (ha _ f1),hk.at h.lf (ha _ f2),hk.at h.sq (ha _ f3),hk.at h.ud (ha _ f4),hk.row h.M (fun j hj=>ha j (h.rows j (afJ hj))),hk.row h.D (fun j hj=>ha j (h.rows j (afM (afJ hj)))),hk.row h.K (fun j hj=>ha j (h.rows j (afM (afM hj)))),fun z hz=>(h.args z hz).keep hk (fun b _ hb _=>ha b hb) (fun _ q=>q),h.BP,h.rows,h.ne,h.nD,h.nK,h.Xu,fun k hf=>afT (h.lt k hf) hk.size⟩
theorem RI.below{q:RP}{s:RS}(h:RI q c s E w)(hb:Below w.heap.size w w'):RI q c s E w':=h.elsewhere (Af.Al hb (fun _=>False)) (fun _ _ h=>h)
structure Au(w0:World)(q:RP)(p:Pl)(c:R.Cf)(s:RS)(G:R.Wd)(w:World):Prop where
 run:∃t E F,RI q c s E w/\LW {p with t:=t} F G w/\(∀k,E k->¬F k)/\(∀k,E k\/F k->w0.heap.size<=k)
 x:q.x=p.x
 t0:Ec w
 below:Below w0.heap.size w0 w
 pos:0<w0.heap.size
theorem Au.world{q:RP}{s:RS}{G':R.Wd}{F':Aq}(h:Au w0 q p c s G w)(hr:RI q c s E w)(hd:∀k,E k->¬F k)(ab:∀k,E k\/F k->w0.heap.size<=k)(ac:LW {p with t:=t} F' G' w')(aa:Ap F F' w w'):Au w0 q p c s G' w':=by
 have hb:=aa.keeps.below (B:=w0.heap.size) h.below.size (fun k hk=>ab k (afM hk));refine⟨⟨t,E,F',hr.elsewhere aa.keeps hd,ac,fun k he hf=>?_,fun k hk=>?_⟩,h.x,h.t0.keeps aa.keeps (fun h0=>by have:=ab 0 (afM h0);have:=h.pos;omega),h.below.trans hb,h.pos⟩
 ·rcases aa.fresh k hf with f|f
  ·exact hd k he f
  ·have:=hr.lt k he;omega
 ·rcases hk with hk|hk
  ·exact ab k (afJ hk)
  ·rcases aa.fresh k hk with f|f
   ·exact ab k (afM f)
   ·have:=h.below.size;omega
theorem Au.still{q:RP}{s:RS}(h:Au w0 q p c s G w)(hb:Below w.heap.size w w'):Au w0 q p c s G w':=by
 obtain⟨tp,E,F,hr,hw,hd,aa⟩:=h.run;exact h.world hr hd aa (hw.below hb) (Ap.Al F hb)
theorem Au.own{q:RP}{s s':RS}(h:Au w0 q p c s G w)(hw:LW {p with t:=t} F G w)(hd:∀k,E k->¬F k)(ab:∀k,E k\/F k->w0.heap.size<=k)(ac:RI q c s' E' w')(aa:Ap E E' w w'):Au w0 q p c s' G w':=by
 have hb:=aa.keeps.below (B:=w0.heap.size) h.below.size (fun k hk=>ab k (afJ hk));refine⟨⟨t,E',F,ac,hw.elsewhere aa.keeps (fun k hf he=>hd k he hf),fun k he hf=>?_,fun k hk=>?_⟩,h.x,h.t0.keeps aa.keeps (fun h0=>by have:=ab 0 (afJ h0);have:=h.pos;omega),h.below.trans hb,h.pos⟩
 ·rcases aa.fresh k he with f|f
  ·exact hd k f hf
  ·have:=hw.lt k hf;omega
 ·rcases hk with hk|hk
  ·rcases aa.fresh k hk with f|f
   ·exact ab k (afJ f)
   ·have:=h.below.size;omega
  ·exact ab k (afM hk)
theorem MW{o:Nat}(hb:E b)(v:Value):Af E w (w.setCell ⟨b,o,none⟩ v):=Af.setCell (F:=E) (Af.refl _ w) (p:=⟨b,o,none⟩) (afJ hb) v
theorem EL{off:Nat}{cs:Array Value}{t:TypeId}{fz:Nat×Nat}{l:List (Mk×Value)}(h:∀z∈l,BF w E z.2 z.1.arg)(hb:w.heap[b]?=some (.cells cs t fz))(ht:t≠73)(v:Value):∀z∈l,BF (w.setCell ⟨b,off,none⟩ v) E z.2 z.1.arg:=fun z hz=>
 (h z hz).keep (E:=fun k=>k=b) (Ah v) (fun _ _ _ hc e=>AZ hc hb (fun q=>ht q.symm) e) (fun _ q=>q)
theorem Au.Lp{q:RP}{s:RS}(h:Au w0 q p c s G w)(v:Int):Au w0 q p c {s with nu:=v} G (w.setCell ⟨q.r,10,none⟩ (.int .i64 v)):=by
 obtain⟨tp,E,F,hr,hw,hd,ab⟩:=h.run;have sz:(w.setCell ⟨q.r,10,none⟩ (.int .i64 v)).heap.size=w.heap.size:=by simp[World.setCell]
 have aa:∀{b:Nat} {ys:Array Value} {t:TypeId},w.heap[b]?=some (.cells ys t (0,0))->t≠32->(w.setCell ⟨q.r,10,none⟩ (.int .i64 v)).heap[b]?=some (.cells ys t (0,0)):=fun hb ht=>by
  rw[Below.heap_setCell _ _ _ _ (AZ hb hr.cell ht)];exact hb
 refine h.own (s':={s with nu:=v}) hw hd ab (E':=E) ⟨?_,aa hr.lf (by decide),aa hr.sq (by decide),aa hr.ud (by decide),?_,?_,?_,?_,hr.BP,hr.rows,hr.ne,hr.nD,hr.nK,hr.Xu,fun k hk=>by rw[sz];exact hr.lt k hk⟩ ⟨MW hr.BP.1 _,fun _ e=>afJ e⟩
 ·exact Ai (cs:=(Gc q c s).toList) (off:=10) hr.cell _
 ·exact A7 hr.M (AV hr.M hr.cell (by decide)) _
 ·exact A7 hr.D (AV hr.D hr.cell (by decide)) _
 ·exact A7 hr.K (AV hr.K hr.cell (by decide)) _
 ·exact EL hr.args hr.cell (by decide) _
theorem Au.acB{q:RP}{s:RS}(h:Au w0 q p c s G w)(k:Nat)(v:Int):Au w0 q p c {s with uid:=s.uid.set k v} G (w.setCell ⟨q.ud,k,none⟩ (.int .i64 v)):=by
 obtain⟨tp,E,F,hr,hw,hd,ab⟩:=h.run;have sz:(w.setCell ⟨q.ud,k,none⟩ (.int .i64 v)).heap.size=w.heap.size:=by simp[World.setCell]
 have aa:∀{b:Nat} {o:Obj},w.heap[b]?=some o->b≠q.ud->(w.setCell ⟨q.ud,k,none⟩ (.int .i64 v)).heap[b]?=some o:=fun hb ht=>by
  rw[Below.heap_setCell _ _ _ _ ht];exact hb
 refine h.own (s':={s with uid:=s.uid.set k v}) hw hd ab (E':=E) ⟨?_,aa hr.lf hr.ne.2.1,aa hr.sq hr.ne.2.2,?_,?_,?_,?_,?_,hr.BP,hr.rows,hr.ne,hr.nD,hr.nK,hr.Xu,fun k hk=>by rw[sz];exact hr.lt k hk⟩ ⟨MW hr.BP.2.2.2 _,fun _ e=>afJ e⟩
 ·have:=aa hr.cell (AZ hr.cell hr.ud (by decide));simpa [Gc] using this
 ·rw[Ai hr.ud,ints_set]
 ·exact A7 hr.M (AV hr.M hr.ud (by decide)) _
 ·exact A7 hr.D hr.nD.2.2 _
 ·exact A7 hr.K hr.nK.2.2 _
 ·exact EL hr.args hr.ud (by decide) _
theorem Au.acA{q:RP}{s:RS}(h:Au w0 q p c s G w)(k:Nat)(v:Int):Au w0 q p c {s with seq:=s.seq.set k v} G (w.setCell ⟨q.sq,k,none⟩ (.int .i64 v)):=by
 obtain⟨tp,E,F,hr,hw,hd,ab⟩:=h.run;have sz:(w.setCell ⟨q.sq,k,none⟩ (.int .i64 v)).heap.size=w.heap.size:=by simp[World.setCell]
 have aa:∀{b:Nat} {o:Obj},w.heap[b]?=some o->b≠q.sq->(w.setCell ⟨q.sq,k,none⟩ (.int .i64 v)).heap[b]?=some o:=fun hb ht=>by
  rw[Below.heap_setCell _ _ _ _ ht];exact hb
 refine h.own (s':={s with seq:=s.seq.set k v}) hw hd ab (E':=E) ⟨?_,aa hr.lf hr.ne.1,?_,aa hr.ud hr.ne.2.2.symm,?_,?_,?_,?_,hr.BP,hr.rows,hr.ne,hr.nD,hr.nK,hr.Xu,fun k hk=>by rw[sz];exact hr.lt k hk⟩ ⟨MW hr.BP.2.2.1 _,fun _ e=>afJ e⟩
 ·have:=aa hr.cell (AZ hr.cell hr.sq (by decide));simpa [Gc] using this
 ·rw[Ai hr.sq,ints_set]
 ·exact A7 hr.M (AV hr.M hr.sq (by decide)) _
 ·exact A7 hr.D hr.nD.2.1 _
 ·exact A7 hr.K hr.nK.2.1 _
 ·exact EL hr.args hr.sq (by decide) _
theorem Au.ad6{q:RP}{s:RS}(h:Au w0 q p c s G w)(k:Nat)(v:Int):Au w0 q p c {s with Ae:=s.Ae.set k v} G (w.setCell ⟨q.lf,k,none⟩ (.int .i64 v)):=by
 obtain⟨tp,E,F,hr,hw,hd,ab⟩:=h.run;have sz:(w.setCell ⟨q.lf,k,none⟩ (.int .i64 v)).heap.size=w.heap.size:=by simp[World.setCell]
 have aa:∀{b:Nat} {o:Obj},w.heap[b]?=some o->b≠q.lf->(w.setCell ⟨q.lf,k,none⟩ (.int .i64 v)).heap[b]?=some o:=fun hb ht=>by
  rw[Below.heap_setCell _ _ _ _ ht];exact hb
 refine h.own (s':={s with Ae:=s.Ae.set k v}) hw hd ab (E':=E) ⟨?_,?_,aa hr.sq hr.ne.1.symm,aa hr.ud hr.ne.2.1.symm,?_,?_,?_,?_,hr.BP,hr.rows,hr.ne,hr.nD,hr.nK,hr.Xu,fun k hk=>by rw[sz];exact hr.lt k hk⟩ ⟨MW hr.BP.2.1 _,fun _ e=>afJ e⟩
 ·have:=aa hr.cell (AZ hr.cell hr.lf (by decide));simpa [Gc] using this
 ·rw[Ai hr.lf,ints_set]
 ·exact A7 hr.M (AV hr.M hr.lf (by decide)) _
 ·exact A7 hr.D hr.nD.1 _
 ·exact A7 hr.K hr.nK.1 _
 ·exact EL hr.args hr.lf (by decide) _
theorem DW(hg:(w.alloc o).grownBy wz V.ownBlock){x:Obj}(hb:w.heap[b]?=some x)(aa:V.ownBlock≠some b):wz.heap[b]?=some x:=by
 have hl:=(afR.1 hb).1;exact(hg.block b (by simp;omega) (fun e=>aa e.symm)).trans ((Below.heap_alloc _ _ _ hl).trans hb)
theorem Ik(hg:(w.alloc o).grownBy wz V.ownBlock){B:Nat}{n:Nat}(h:w.ownsRow B e size v n xs)(ac:∀j,v.ownBlock=some j->V.ownBlock≠some j):wz.ownsRow B e size v n xs:=by
 obtain⟨hl,hx⟩:=h;refine⟨hl,?_⟩;rcases hx with hx|⟨g,cap,aa,rfl,hb,ab,r⟩
 ·exact afJ hx
 ·exact afM ⟨g,cap,aa,rfl,hb,DW hg ab (ac g rfl),r⟩
theorem Kx{n:Nat}{l:List (Mk×Value)}(hg:(w.alloc o).grownBy wz V.ownBlock)(hV:w.ownsRow 0 e size V n xs)(he:e≠73)(h:∀z∈l,BF w E z.2 z.1.arg)(hE:∀k,E k->E' k):∀z∈l,BF wz E' z.2 z.1.arg:=fun z hz=>
 (h z hz).keep (E:=fun k=>V.ownBlock=some k) (((Af.refl _ w).alloc o).grown hg (fun _ hk=>afJ hk)) (fun _ _ _ hc e=>AV hV hc he e) hE
def Hu(s:Value)(w:World)(v:Value):Prop:=v.ownBlock=s.ownBlock\/∃j,v.ownBlock=some j/\w.heap.size<=j
theorem Hu.at{s:Value}(h:Hu s w v)(hj:v.ownBlock=some j):s.ownBlock=some j\/w.heap.size<=j:=by
 rcases h with e|⟨i,e,hi⟩
 ·exact afJ (e ▸ hj)
 ·rw[e]at hj;cases hj;exact afM hi
theorem Hu.ne{s:Value}(h:Hu s w v)(hb:b<w.heap.size)(hs:s.ownBlock≠some b):v.ownBlock≠some b:=fun e=>by
 rcases h.at e with f|f
 ·exact hs f
 ·omega
theorem Au.Zk{q:RP}{s:RS}(h:Au w0 q p c s G w){D':Value}(ac:wz.ownsRow 0 3 1 D' (s.dead.length+1) (ints s.dead++[.int .i64 n]))(hg:(w.alloc o).grownBy wz s.D.ownBlock)(aa:Hu s.D w D'):Au w0 q p c {s with D:=D',dead:=s.dead++[n]} G (wz.setCell ⟨q.r,11,none⟩ D'):=by
 obtain⟨tp,E,F,hr,hw,hd,ah⟩:=h.run;have ad:=AV hr.D hr.cell (by decide);have ab:=aa.ne (lt_of_block hr.cell) ad;have hK:Af E w (wz.setCell ⟨q.r,11,none⟩ D'):=Af.setCell (F:=E) (((Af.refl _ w).alloc o).grown hg (fun k hk=>afJ (hr.rows k (afM (afJ hk))))) (p:=⟨q.r,11,none⟩) (afJ hr.BP.1) _;have sz:=hK.size;have nb:∀{b:Nat} {x:Obj},w.heap[b]?=some x->s.D.ownBlock≠some b->b≠q.r->(wz.setCell ⟨q.r,11,none⟩ D').heap[b]?=some x:=fun hb h1 h2=>by
  rw[Below.heap_setCell _ _ _ _ h2];exact DW hg hb h1
 have ae:=DW hg hr.cell ad;have af:∀j,s.M.ownBlock=some j->s.D.ownBlock≠some j:=fun j hj e=>by
  rcases hr.D.2 with ⟨hv,_⟩|⟨g,cap,ai,hv,_,ag,_⟩
  ·rw[hv]at e;cases e
  ·rw[hv]at e;cases e;exact AV hr.M ag (by decide) hj
 refine h.own (s':={s with D:=D',dead:=s.dead++[n]}) hw hd ah (E':=fun k=>E k\/(w.heap.size<=k/\k<(wz.setCell ⟨q.r,11,none⟩ D').heap.size)) ⟨?_,nb hr.lf hr.nD.1 (AZ hr.lf hr.cell (by decide)),nb hr.sq hr.nD.2.1 (AZ hr.sq hr.cell (by decide)),nb hr.ud hr.nD.2.2 (AZ hr.ud hr.cell (by decide)),?_,?_,?_,?_,⟨afJ hr.BP.1,afJ hr.BP.2.1,afJ hr.BP.2.2.1,afJ hr.BP.2.2.2⟩,?_,hr.ne,?_,hr.nK,?_,?_⟩ ⟨hK,?_⟩
 ·exact Ai (cs:=(Gc q c s).toList) (off:=11) ae _
 ·exact A7 (Ik hg hr.M af) (AV hr.M hr.cell (by decide)) _
 ·have:=A7 ac ab D' (off:=11);simpa [Oo] using this
 ·exact A7 (Ik hg hr.K (fun j hj e=>hr.Xu j e hj)) (AV hr.K hr.cell (by decide)) _
 ·exact EL (Kx hg hr.D (by decide) hr.args (fun _ q=>afJ q)) ae (by decide) _
 ·rintro j (e|e|e)
  ·exact afJ (hr.rows j (afJ e))
  ·rcases aa.at e with f|f
   ·exact afJ (hr.rows j (afM (afJ f)))
   ·exact afM ⟨f,(World.ownsRow.lt (A7 ac ab D' (off:=11)) j e).2⟩
  ·exact afJ (hr.rows j (afM (afM e)))
 ·exact⟨aa.ne (lt_of_block hr.lf) hr.nD.1,aa.ne (lt_of_block hr.sq) hr.nD.2.1,aa.ne (lt_of_block hr.ud) hr.nD.2.2⟩
 ·intro j hj e;rcases aa.at hj with f|f
  ·exact hr.Xu j f e
  ·have:=hr.lt _ (hr.rows j (afM (afM e)));omega
 ·rintro k (e|e)
  ·exact afT (hr.lt k e) sz
  ·exact e.2
 ·rintro k (e|e)
  ·exact afJ e
  ·exact afM e.1
theorem Au.Zl{q:RP}{s:RS}(h:Au w0 q p c s G w){K':Value}(ac:wz.ownsRow 0 3 1 K' (s.kinds.length+1) (ints s.kinds++[.int .i64 n]))(hg:(w.alloc o).grownBy wz s.K.ownBlock)(aa:Hu s.K w K'):Au w0 q p c {s with K:=K',kinds:=s.kinds++[n]} G (wz.setCell ⟨q.r,12,none⟩ K'):=by
 obtain⟨tp,E,F,hr,hw,hd,ah⟩:=h.run;have ad:=AV hr.K hr.cell (by decide);have ab:=aa.ne (lt_of_block hr.cell) ad;have hK:Af E w (wz.setCell ⟨q.r,12,none⟩ K'):=Af.setCell (F:=E) (((Af.refl _ w).alloc o).grown hg (fun k hk=>afJ (hr.rows k (afM (afM hk))))) (p:=⟨q.r,12,none⟩) (afJ hr.BP.1) _;have sz:=hK.size;have nb:∀{b:Nat} {x:Obj},w.heap[b]?=some x->s.K.ownBlock≠some b->b≠q.r->(wz.setCell ⟨q.r,12,none⟩ K').heap[b]?=some x:=fun hb h1 h2=>by
  rw[Below.heap_setCell _ _ _ _ h2];exact DW hg hb h1
 have ae:=DW hg hr.cell ad;have af:∀j,s.M.ownBlock=some j->s.K.ownBlock≠some j:=fun j hj e=>by
  rcases hr.K.2 with ⟨hv,_⟩|⟨g,cap,ai,hv,_,ag,_⟩
  ·rw[hv]at e;cases e
  ·rw[hv]at e;cases e;exact AV hr.M ag (by decide) hj
 refine h.own (s':={s with K:=K',kinds:=s.kinds++[n]}) hw hd ah (E':=fun k=>E k\/(w.heap.size<=k/\k<(wz.setCell ⟨q.r,12,none⟩ K').heap.size)) ⟨?_,nb hr.lf hr.nK.1 (AZ hr.lf hr.cell (by decide)),nb hr.sq hr.nK.2.1 (AZ hr.sq hr.cell (by decide)),nb hr.ud hr.nK.2.2 (AZ hr.ud hr.cell (by decide)),?_,?_,?_,?_,⟨afJ hr.BP.1,afJ hr.BP.2.1,afJ hr.BP.2.2.1,afJ hr.BP.2.2.2⟩,?_,hr.ne,hr.nD,?_,?_,?_⟩ ⟨hK,?_⟩
 ·exact Ai (cs:=(Gc q c s).toList) (off:=12) ae _
 ·exact A7 (Ik hg hr.M af) (AV hr.M hr.cell (by decide)) _
 ·exact A7 (Ik hg hr.D (fun j hj e=>hr.Xu j hj e)) (AV hr.D hr.cell (by decide)) _
 ·have:=A7 ac ab K' (off:=12);simpa [Oo] using this
 ·exact EL (Kx hg hr.K (by decide) hr.args (fun _ q=>afJ q)) ae (by decide) _
 ·rintro j (e|e|e)
  ·exact afJ (hr.rows j (afJ e))
  ·exact afJ (hr.rows j (afM (afJ e)))
  ·rcases aa.at e with f|f
   ·exact afJ (hr.rows j (afM (afM f)))
   ·exact afM ⟨f,(World.ownsRow.lt (A7 ac ab K' (off:=12)) j e).2⟩
 ·exact⟨aa.ne (lt_of_block hr.lf) hr.nK.1,aa.ne (lt_of_block hr.sq) hr.nK.2.1,aa.ne (lt_of_block hr.ud) hr.nK.2.2⟩
 ·intro j hj e;rcases aa.at e with f|f
  ·exact hr.Xu j hj f
  ·have:=hr.lt _ (hr.rows j (afM (afJ hj)));omega
 ·rintro k (e|e)
  ·exact afT (hr.lt k e) sz
  ·exact e.2
 ·rintro k (e|e)
  ·exact afJ e
  ·exact afM e.1
theorem Au.abP{q:RP}{s:RS}{wB:World}(h:Au w0 q p c s G wB)(hb:Below wB.heap.size wB w){M' X:Value}{m:Mk}(hX:BF w (fun k=>wB.heap.size<=k) X m.arg)(ab:wz.ownsRow 0 62 7 M' (s.made.length+1) (tab DX s.made++DX (m,X)))(hg:(w.alloc o).grownBy wz s.M.ownBlock)(af:Hu s.M w M'):Au w0 q p c {s with M:=M',made:=s.made++[(m,X)]} G (wz.setCell ⟨q.r,9,none⟩ M'):=by
 obtain⟨tp,E,F,al,ah,hd,ad⟩:=h.run;have hr:=al.below hb;have hw:=ah.below hb;have h':=h.still hb;have am:=hb.size;have ac:∀{b:Nat} {ys:Array Value} {t:TypeId} {f:Nat×Nat},w.heap[b]?=some (.cells ys t f)->t≠62->s.M.ownBlock≠some b:=fun hb ht=>AV hr.M hb (fun e=>ht e.symm)
 have aa:=af.ne (lt_of_block hr.cell) (ac hr.cell (by decide));have hK:Af E w (wz.setCell ⟨q.r,9,none⟩ M'):=Af.setCell (F:=E) (((Af.refl _ w).alloc o).grown hg (fun k hk=>afJ (hr.rows k (afJ hk)))) (p:=⟨q.r,9,none⟩) (afJ hr.BP.1) _;have sz:=hK.size;have ag:=DW hg hr.cell (ac hr.cell (by decide));have nb:∀{b:Nat} {ys:Array Value} {t:TypeId} {f:Nat×Nat},w.heap[b]?=some (.cells ys t f)->t≠62->t≠32->(wz.setCell ⟨q.r,9,none⟩ M').heap[b]?=some (.cells ys t f):=fun hb h1 h2=>by
  rw[Below.heap_setCell _ _ _ _ (AZ hb hr.cell h2)];exact DW hg hb (ac hb h1)
 have rows':∀{v:Value} {n:Nat} {xs:List Value},w.ownsRow 0 3 1 v n xs->(wz.setCell ⟨q.r,9,none⟩ M').ownsRow 0 3 1 v n xs:=fun hx=>by
  refine A7 (Ik hg hx (fun j hj e=>?_)) (AV hx hr.cell (by decide)) _;rcases hx.2 with ⟨hv,_⟩|⟨g,cap,ae,hv,_,aj,_⟩
  ·rw[hv]at hj;cases hj
  ·rw[hv]at hj;cases hj;exact ac aj (by decide) e
 have ai:=hK.below (B:=w0.heap.size) h'.below.size (fun k hk=>ad k (afJ hk));refine⟨⟨tp,fun k=>E k\/(wB.heap.size<=k/\k<(wz.setCell ⟨q.r,9,none⟩ M').heap.size),F,⟨?_,nb hr.lf (by decide) (by decide),nb hr.sq (by decide) (by decide),nb hr.ud (by decide) (by decide),?_,rows' hr.D,rows' hr.K,?_,⟨afJ hr.BP.1,afJ hr.BP.2.1,afJ hr.BP.2.2.1,afJ hr.BP.2.2.2⟩,?_,hr.ne,hr.nD,hr.nK,hr.Xu,?_⟩,hw.elsewhere hK (fun k hf he=>hd k he hf),?_,?_⟩,h.x,h'.t0.keeps hK (fun h0=>by have:=ad 0 (afJ h0);have:=h.pos;omega),h'.below.trans ai,h.pos⟩
 ·exact Ai (cs:=(Gc q c s).toList) (off:=9) ag _
 ·have:=A7 ab aa M' (off:=9);simpa [EV] using this
 ·refine EL ?_ ag (by decide) _;intro z hz;rcases agb.1 hz with hz|hz
  ·exact Kx hg hr.M (by decide) hr.args (fun _ q=>afJ q) z hz
  ·obtain rfl:z=(m,X):=by simpa using hz
   have ak:BF w (fun k=>wB.heap.size<=k/\k<w.heap.size) X m.arg:=by
    rcases hX with hX|⟨b,off,cap,ae,q0,q1,q2,q3,q4,q5⟩
    ·exact afJ hX
    ·exact afM ⟨b,off,cap,ae,q0,q1,q2,⟨q3,lt_of_block q4⟩,q4,q5⟩
   exact ak.keep (E:=fun k=>s.M.ownBlock=some k) (((Af.refl _ w).alloc o).grown hg (fun k hk=>afJ hk)) (fun k ae _ hc e=>AV hr.M hc (by decide) e) (fun k hk=>afM ⟨hk.1,afT hk.2 sz⟩)
 ·rintro j (e|e|e)
  ·rcases af.at e with f|f
   ·exact afJ (hr.rows j (afJ f))
   ·exact afM ⟨by omega,(World.ownsRow.lt (A7 ab aa M' (off:=9)) j e).2⟩
  ·exact afJ (hr.rows j (afM (afJ e)))
  ·exact afJ (hr.rows j (afM (afM e)))
 ·rintro k (e|e)
  ·exact afT (hr.lt k e) sz
  ·exact e.2
 ·rintro k (e|e) hf
  ·exact hd k e hf
  ·have:=ah.lt k hf;omega
 ·rintro k ((e|e)|e)
  ·exact ad k (afJ e)
  ·have:=h.below.size;omega
  ·exact ad k (afM e)
end Go.Proofs.YtblomippkddgiabGreatDoor
