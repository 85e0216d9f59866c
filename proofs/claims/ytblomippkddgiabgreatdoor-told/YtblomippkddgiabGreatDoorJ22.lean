import Derived.StringKeys
import Derived.Test.YtblomippkddgiabGreatDoorJ21
set_option maxRecDepth 100000
set_option maxHeartbeats 1000000
namespace Go.Proofs.YtblomippkddgiabGreatDoor
open Go.RowKit Go.Maps
open Go.RowKit
variable {F:Aq}{u v:Int}{s:List UInt8}{b n:Nat}{p:Pl}{G:R.Wd}{w:World}
theorem abW(w:World):(zeroValue 3).run Tryz.prog w=.ok (.int .i64 0) w:=by kernel_rfl
theorem Xm(h:-9223372036854775808<=u/\u<=9223372036854775807):(Lit.int .i64 u).wf=true:=by
 simp[Lit.wf,IntKind.min,IntKind.max,IntKind.bits,IntKind.signed];omega
section
variable {α:Type} {w:World} {k t:TypeId} {b n:Nat} {lit:α->Lit} {g:α->Option Int}
theorem Mp.look(h:Mp w k b lit g n)(K:Keyed Tryz.prog k)(ht:Tryz.prog.underlying t=some (.map k 3)){key:Value}{a:α}(aa:keyOf Tryz.prog k key=some (lit a)):(Instr.lookup t (.map (some b)) key true).run Tryz.prog w=.ok (.tuple #[.int .i64 ((g a).getD 0),.bool (g a).isSome]) w:=by
 obtain⟨D,h1,h2,h3⟩:=h;obtain⟨v,ps,ab,hv⟩:=h1.look_ok K ht (abW w) (plainElem_int Tryz.underlying3 (Xm (by omega))) aa;obtain⟨c,rfl,hc,_⟩:=plainElem_int_inv Tryz.underlying3 hv;simp only[Prod.mk.injEq]at hc;rw[ab,(h3 a).1];cases hg:g a with
 |some x=>
  have:=(h3 a).2 x hg;rw[hc.1]at this;cases this;rfl
 |none=>
  have hn:=(h3 a).1;rw[hg]at hn;have:=atKey_of_not_has hn (.lit (.int .i64 0));rw[hc.1]at this;cases this;rfl
theorem Mp.put(h:Mp w k b lit g n)(K:Keyed Tryz.prog k)(ht:Tryz.prog.underlying t=some (.map k 3))(hn:n<1000){key:Value}{a:α}(aa:keyOf Tryz.prog k key=some (lit a))(hl:∀x y,lit x=lit y->x=y)(ad:WideAt.IsKeyLit (lit a))(hv:-9223372036854775808<=v/\v<=9223372036854775807)(g':α->Option Int)(ac:∀x,(x=a->g' x=some v)/\(¬x=a->g' x=g x)):
  ∃w',(Instr.mapUpdate t (.map (some b)) key (.int .i64 v)).run Tryz.prog w=.ok () w'/\Mp w' k b lit g' (if (g a).isSome then n else n+1)/\w.mapTurned w' b:=by
 obtain⟨D,h1,h2,h3⟩:=h;obtain⟨w',ab,h4,h5⟩:=h1.store K ht (by unfold maxLen;omega) aa (plainElem_int Tryz.underlying3 (Xm hv));have hs:=size_put (k:=lit a) (h1.tidy K) (.lit (.int .i64 v));rw[(h3 a).1,h2]at hs;refine⟨w',ab,⟨_,?_,hs,fun x=>?_⟩,h5⟩
 ·obtain⟨es,cl,q1,q2,q3,q4⟩:=h4;refine⟨es,cl,q1,q2,?_,q4⟩;rw[<-hs,q4];simp[Maps.size,length_sorted]
 ·by_cases hx:x=a
  ·subst hx;rw[(ac x).1 rfl];refine⟨has_put_same h1.isMap ad _,fun y hy=>?_⟩;cases hy;exact atKey_put_same h1.isMap ad _ _
  ·have ae:lit x≠lit a:=fun e=>hx (hl _ _ e)
   rw[(ac x).2 hx,has_put_other ae];refine⟨(h3 x).1,fun y hy=>?_⟩;rw[atKey_put_other ae];exact(h3 x).2 y hy
theorem Mp.len(h:Mp w k b lit g n)(ht:Tryz.prog.underlying t=some (.map k 3))(ty:TypeId):(Builtin.len_ #[t] ty #[.map (some b)]).run Tryz.prog w=.ok (.int .i64 (n:Int)) w:=by
 obtain⟨D,h1,h2,h3⟩:=h;rw[h1.len ht ty,h2]
end
theorem Mp.made(w:World)(k:TypeId){α:Type}(lit:α->Lit):Mp (w.alloc (.map #[] 0)) k w.heap.size lit (fun _=>none) 0:=
 ⟨.map [],World.ownsMap_made w _ _ _,rfl,fun _=>⟨rfl,fun _ h=>by cases h⟩⟩
theorem Yw{g:Int->Option Int}(h:Mp w 3 b Kz g n)(hu:-9223372036854775808<=u/\u<=9223372036854775807):(Instr.lookup 130 (.map (some b)) (.int .i64 u) true).run Tryz.prog w=.ok (.tuple #[.int .i64 ((g u).getD 0),.bool (g u).isSome]) w:=
 h.look (int_keyed Tryz.underlying3) Tryz.underlying130 (keyOf_int_mk Tryz.underlying3 (Xm hu))
theorem M4{g:List UInt8->Option Int}(h:Mp w 9 b NU g n)(hs:s.length<=maxLen):(Instr.lookup 134 (.map (some b)) (.string (str s)) true).run Tryz.prog w=.ok (.tuple #[.int .i64 ((g s).getD 0),.bool (g s).isSome]) w:=
 h.look (string_keyed Tryz.underlying9) Tryz.underlying134 (by rw[Go.WideMaps.keyOf_string_mk Tryz.underlying9 (by rw[Ax];exact hs)])
theorem abj{g:Int->Option Int}(h:Mp w 3 b Kz g n)(hn:n<1000)(hu:-9223372036854775808<=u/\u<=9223372036854775807)(hv:-9223372036854775808<=v/\v<=9223372036854775807)(g':Int->Option Int)(aa:∀x,(x=u->g' x=some v)/\(¬x=u->g' x=g x)):
  ∃w',(Instr.mapUpdate 130 (.map (some b)) (.int .i64 u) (.int .i64 v)).run Tryz.prog w=.ok () w'/\Mp w' 3 b Kz g' (if (g u).isSome then n else n+1)/\w.mapTurned w' b:=
 h.put (int_keyed Tryz.underlying3) Tryz.underlying130 hn (keyOf_int_mk Tryz.underlying3 (Xm hu)) (fun x y e=>by cases e;rfl) trivial hv g' aa
theorem Vb{g:List UInt8->Option Int}(h:Mp w 9 b NU g n)(hn:n<1000)(hs:s.length<=maxLen)(hv:-9223372036854775808<=v/\v<=9223372036854775807)(g':List UInt8->Option Int)(aa:∀x,(x=s->g' x=some v)/\(¬x=s->g' x=g x)):
  ∃w',(Instr.mapUpdate 134 (.map (some b)) (.string (str s)) (.int .i64 v)).run Tryz.prog w=.ok () w'/\Mp w' 9 b NU g' (if (g s).isSome then n else n+1)/\w.mapTurned w' b:=
 h.put (string_keyed Tryz.underlying9) Tryz.underlying134 hn (by rw[Go.WideMaps.keyOf_string_mk Tryz.underlying9 (by rw[Ax];exact hs)]) (fun x y e=>by cases e;rfl) trivial hv g' aa
theorem Hf{w':World}(h:w.mapTurned w' b):Af (fun k=>k=b) w w':=by
 have hg:=h.grown;exact⟨hg.os,hg.tape,hg.output,hg.size,fun k hk aa=>hg.block k hk (fun e=>aa (by cases e;rfl))⟩
theorem E0(w:World)(b:Nat):w.drew.heap[b]?=w.heap[b]?:=rfl
abbrev TT(w:World)(b k:Nat)(st sq u pc:Int)(S:ByteArray)(a:Int)(S2:ByteArray)(wt tr:Int):World:=(((((((((w.setCell ⟨b,k*10,none⟩ (.int .i64 st)).setCell ⟨b,k*10+1,none⟩ (.int .i64 sq)).setCell ⟨b,k*10+2,none⟩ (.slice none 0 0)).setCell ⟨b,k*10+3,none⟩ (.int .i64 u)).setCell ⟨b,k*10+4,none⟩ (.int .i64 pc)).setCell ⟨b,k*10+5,none⟩ (.string S)).setCell ⟨b,k*10+6,none⟩ (.int .i64 a)).setCell ⟨b,k*10+7,none⟩ (.string S2)).setCell ⟨b,k*10+8,none⟩ (.int .i64 wt)).setCell ⟨b,k*10+9,none⟩ (.int .i64 tr)
theorem Wp(w:World)(b k:Nat)(st sq u pc:Int)(m:List UInt8)(a wt tr:Int):TT w b k st sq u pc (str m) a ⟨#[]⟩ wt tr=Lp w b k ⟨st,sq,.slice none 0 0,u,pc,m,a,[],wt,tr⟩:=rfl
theorem Vs(w:World)(b k:Nat)(u pc:Int)(m:List UInt8)(xs:List CU)(x:CU)(ac:∃a n c,x.rv=.slice a n c)(h:w.heap[b]?=some (.cells (tab CU.cells xs).toArray 129 (0,0)))(hx:xs[k]?=some x)(hs:0<=x.seq/\x.seq<=1000):
  Calls Tryz.prog 148 #[.pointer (some ⟨b,k*10,none⟩),.agg #[.int .i64 u,.int .i64 pc,.string (str m),.int .i64 0,.string ⟨#[]⟩,.int .i64 0,.int .i64 0]] w fun e w'=>e=.returned (.tuple #[])/\w'.heap[b]?=some (.cells (tab CU.cells (xs.set k ⟨1,x.seq+1,.slice none 0 0,u,pc,m,0,[],0,0⟩)).toArray 129 (0,0))/\Af (fun q=>q=b) w w':=by
 have af:=lt_of_block h;obtain⟨BX,ab⟩:∃BX,w.alloc (.cells #[.int .i64 u,.int .i64 pc,.string (str m),.int .i64 0,.string ⟨#[]⟩,.int .i64 0,.int .i64 0] 127)=BX:=⟨_,rfl⟩;have hb:Below w.heap.size w BX:=by
  rw[<-ab];exact(Below.refl _ _).alloc (afI _) _
 have aa:BX.heap[w.heap.size]?=some (.cells #[.int .i64 u,.int .i64 pc,.string (str m),.int .i64 0,.string ⟨#[]⟩,.int .i64 0,.int .i64 0] 127 (0,0)):=by
  rw[<-ab];exact heap_alloc_new w _
 have h':=(hb.block b af).trans h;obtain⟨a0,a1,a2,a3,a4,a5,a6,a7,a8,a9⟩:=Yu h' hx;obtain⟨ra,rn,rc,ac⟩:=ac;rw[ac]at a2;have z0:=open_list (off:=k*10) h';have z1:=open_list (off:=k*10+1) h';have z2:=open_list (off:=k*10+2) h';have z3:=open_list (off:=k*10+3) h';have z4:=open_list (off:=k*10+4) h';have z5:=open_list (off:=k*10+5) h';have z6:=open_list (off:=k*10+6) h';have z7:=open_list (off:=k*10+7) h';have z8:=open_list (off:=k*10+8) h';have z9:=open_list (off:=k*10+9) h';obtain⟨XS,ad⟩:∃XS,XS=xs.set k ⟨1,x.seq+1,.slice none 0 0,u,pc,m,0,[],0,0⟩:=⟨_,rfl⟩;rw[<-ad];have HP:Hid ((TT BX b k 1 (x.seq+1) u pc (str m) 0 ⟨#[]⟩ 0 0).drew.heap[b]?=some (.cells (tab CU.cells XS).toArray 129 (0,0))/\Af (fun q=>q=b) w (TT BX b k 1 (x.seq+1) u pc (str m) 0 ⟨#[]⟩ 0 0).drew):=by
  have q:=Va (w:=BX) h' hx ⟨1,x.seq+1,.slice none 0 0,u,pc,m,0,[],0,0⟩;rw[ad,Wp];generalize Lp BX b k ⟨1,x.seq+1,.slice none 0 0,u,pc,m,0,[],0,0⟩=W8 at q ⊢;rw[E0];exact⟨q.1,((Af.Al hb _).trans q.2).drew⟩
 clear ad;generalize str m=SM at *;have c0:BX.cell? ⟨w.heap.size,0,none⟩=some (.int .i64 u):=cell_of aa 0 _ rfl;have c1:BX.cell? ⟨w.heap.size,1,none⟩=some (.int .i64 pc):=cell_of aa 1 _ rfl;have c2:BX.cell? ⟨w.heap.size,2,none⟩=some (.string SM):=cell_of aa 2 _ rfl;have c3:BX.cell? ⟨w.heap.size,3,none⟩=some (.int .i64 0):=cell_of aa 3 _ rfl;have c4:BX.cell? ⟨w.heap.size,4,none⟩=some (.string ⟨#[]⟩):=cell_of aa 4 _ rfl;have c5:BX.cell? ⟨w.heap.size,5,none⟩=some (.int .i64 0):=cell_of aa 5 _ rfl;have c6:BX.cell? ⟨w.heap.size,6,none⟩=some (.int .i64 0):=cell_of aa 6 _ rfl;have e1:IntKind.i64.wrap (x.seq+1)=x.seq+1:=by rw[IntKind.wrap_i64];omega
 have ae:=Ac ab;have ag:=lt_of_block h';generalize x.seq=sq at *;clear h hx ab hb aa h' ac;go_enter Tryz.func148,Tryz.ntmps148;go_wp2_with fail
 rw[Aa ae]
 go_region
 all_goals
  go_wp2;go_returns;exact⟨rfl,Aa HP⟩
theorem Rv(w:World)(cb b k:Nat)(rt tr:Int)(xs:List CU)(x:CU)(h:w.heap[b]?=some (.cells (tab CU.cells xs).toArray 129 (0,0)))(hx:xs[k]?=some x)(b4:w.cell? ⟨cb,4,none⟩=some (.int .i64 rt))(b5:w.cell? ⟨cb,5,none⟩=some (.int .i64 tr))(aa:¬cb=b):
  Calls Tryz.prog 149 #[ptr cb,.pointer (some ⟨b,k*10,none⟩)] w fun e w'=>e=.returned (.tuple #[])/\w'.heap[b]?=some (.cells (tab CU.cells (xs.set k {x with wait:=rt,tries:=tr})).toArray 129 (0,0))/\Af (fun q=>q=b) w w':=by
 obtain⟨a0,a1,a2,a3,a4,a5,a6,a7,a8,a9⟩:=Yu h hx;have z6:=open_list (off:=k*10+8) h;have z7:=open_list (off:=k*10+9) h;have e1:=BS (j:=8) (x':={x with wait:=rt}) (v:=.int .i64 rt) h hx (by omega) rfl;have e2:=BS (j:=9) (x':={x with wait:=rt,tries:=tr}) (v:=.int .i64 tr) e1.1 e1.2 (by omega) rfl;simp only[ag5]at e2;have ac:=lt_of_cell b4;have ad:=lt_of_block h;have ab:¬b=cb:=fun e=>aa e.symm
 have HP:=Ac e2.1;clear e1 e2 h hx a0 a1 a2 a3 a4 a5 a6 a7;go_enter Tryz.func149,Tryz.ntmps149;go_wp2;go_returns;exact⟨rfl,Aa HP,(Ah _).trans (Ah _)⟩
theorem Pb(w:World)(cb lb bm nl k:Nat)(uid proc kind:Int)(X:Value)(SM:ByteArray)(st sq ag:Int)(A B C:World->Prop)(hk:k<nl)
  (b2:w.cell? ⟨cb,2,none⟩=some (.map (some bm))) (b3:w.cell? ⟨cb,3,none⟩=some (.slice (some ⟨lb,0,none⟩) nl nl)) (a0:w.cell? ⟨lb,k*10,none⟩=some (.int .i64 st)) (a1:w.cell? ⟨lb,k*10+1,none⟩=some (.int .i64 sq))
  (ac:(Instr.lookup 130 (.map (some bm)) (.int .i64 uid) true).run Tryz.prog w=.ok (.tuple #[.int .i64 kind,.bool true]) w)
  (af:¬st=1) (ae:¬sq=999)
  (ah:Hid (∀w',Below w.heap.size w w'->Calls Tryz.prog 147 #[.int .i64 kind,.int .i64 proc,X] w' fun e ab=>e=.returned (.string SM)/\Below w'.heap.size w' ab))
  (ai:Hid (∀w',Below w.heap.size w w'->Calls Tryz.prog 148 #[.pointer (some ⟨lb,k*10,none⟩),.agg #[.int .i64 uid,.int .i64 proc,.string SM,.int .i64 0,.string ⟨#[]⟩,.int .i64 0,.int .i64 0]] w' fun e ab=>e=.returned (.tuple #[])/\A ab))
  (aj:Hid (∀w',A w'->Calls Tryz.prog 149 #[ptr cb,.pointer (some ⟨lb,k*10,none⟩)] w' fun e ab=>e=.returned (.tuple #[])/\B ab))
  (ak:Hid (∀w',B w'->Calls Tryz.prog 150 #[ptr cb,.int .i64 (k:Int),.bool false] w' fun e ab=>e=.returned (.tuple #[])/\C ab))
  (am:Hid (∀w',C w'->w'.cell? ⟨lb,k*10+1,none⟩=some (.int .i64 ag))):
  Calls Tryz.prog 88 #[ptr cb,.int .i64 (k:Int),.int .i64 uid,.int .i64 proc,X] w fun e w'=>e=.returned (.tuple #[.int .i64 ag,.int .i64 0])/\C w':=by
 have e1:(st==1)=false:=by simpa using af
 have e2:(sq==999)=false:=by simpa using ae
 have q1:(0:Int)<=(k:Int):=by omega
 have q2:(k:Int)<(nl:Int):=by omega
 have an:=lt_of_cell b2;have ad:=lt_of_cell a0;clear af ae;go_enter Tryz.func88,Tryz.ntmps88;go_wp2_with (first|(go_at_call 64;go_in))
 refine((Aa ah) _ (Below.refl _ _)).mono ?_;rintro e w2 ⟨rfl,aa⟩;have d3:w2.cell? ⟨cb,3,none⟩=some (.slice (some ⟨lb,0,none⟩) nl nl):=(aa.cell (p:=⟨cb,3,none⟩) an).trans b3;have f0:w2.cell? ⟨lb,k*10,none⟩=some (.int .i64 st):=(aa.cell (p:=⟨lb,k*10,none⟩) ad).trans a0;have f1:w2.cell? ⟨lb,k*10+1,none⟩=some (.int .i64 sq):=(aa.cell (p:=⟨lb,k*10+1,none⟩) ad).trans a1;have al:=Ac aa;clear aa ac a0 a1 b2 b3;go_wp2_with fail
 refine((Aa ai) _ (Aa al)).mono ?_;rintro e w3 ⟨rfl,hA⟩;have HA:=Ac hA;clear hA d3 f0 f1;go_wp2_with fail
 refine((Aa aj) _ (Aa HA)).mono ?_;rintro e w4 ⟨rfl,hB⟩;have HB:=Ac hB;clear hB;go_wp2_with fail
 refine((Aa ak) _ (Aa HB)).mono ?_;rintro e w5 ⟨rfl,hC⟩;have g1:=(Aa am) _ hC;have HC:=Ac hC;clear hC;go_wp2;go_returns;exact⟨rfl,Aa HC⟩
theorem Mt(w:World)(cb lb nl:Nat)(ln uid proc:Int)(X:Value)(hk:ln<0\/(nl:Int)<=ln)(b3:w.cell? ⟨cb,3,none⟩=some (.slice (some ⟨lb,0,none⟩) nl nl)):
  Calls Tryz.prog 88 #[ptr cb,.int .i64 ln,.int .i64 uid,.int .i64 proc,X] w fun e w'=>e=.returned (.tuple #[.int .i64 0,.int .i64 14])/\w'=w:=by
 by_cases h0:ln<0
 ·have h1:¬0<=ln:=by omega
  clear hk;go_enter Tryz.func88,Tryz.ntmps88;go_wp2_with (first|(go_at_call 64;go_in))
  go_returns;exact⟨rfl,rfl⟩
 ·have h1:0<=ln:=by omega
  have h2:¬ln<(nl:Int):=by omega
  clear hk;go_enter Tryz.func88,Tryz.ntmps88;go_wp2_with (first|(go_at_call 64;go_in))
  go_returns;exact⟨rfl,rfl⟩
theorem Ms(w:World)(cb lb bm nl k:Nat)(uid proc z:Int)(X:Value)(hk:k<nl)(b2:w.cell? ⟨cb,2,none⟩=some (.map (some bm)))(b3:w.cell? ⟨cb,3,none⟩=some (.slice (some ⟨lb,0,none⟩) nl nl))(aa:(Instr.lookup 130 (.map (some bm)) (.int .i64 uid) true).run Tryz.prog w=.ok (.tuple #[.int .i64 z,.bool false]) w):
  Calls Tryz.prog 88 #[ptr cb,.int .i64 (k:Int),.int .i64 uid,.int .i64 proc,X] w fun e w'=>e=.returned (.tuple #[.int .i64 0,.int .i64 15])/\w'=w:=by
 have q1:(0:Int)<=(k:Int):=by omega
 have q2:(k:Int)<(nl:Int):=by omega
 go_enter Tryz.func88,Tryz.ntmps88;go_wp2_with (first|(go_at_call 64;go_in))
 go_returns;exact⟨rfl,rfl⟩
theorem JN(w:World)(cb lb bm nl k:Nat)(uid proc kind:Int)(X:Value)(n:Nat)(hk:k<nl)(b2:w.cell? ⟨cb,2,none⟩=some (.map (some bm)))(b3:w.cell? ⟨cb,3,none⟩=some (.slice (some ⟨lb,0,none⟩) nl nl))(aa:(Instr.lookup 130 (.map (some bm)) (.int .i64 uid) true).run Tryz.prog w=.ok (.tuple #[.int .i64 kind,.bool true]) w)
  (ab:Hid (Calls Tryz.prog 147 #[.int .i64 kind,.int .i64 proc,X] w fun e ac=>e=Az n 0/\Below w.heap.size w ac)):
  Calls Tryz.prog 88 #[ptr cb,.int .i64 (k:Int),.int .i64 uid,.int .i64 proc,X] w fun e w'=>e=Az n 0/\Below w.heap.size w w':=by
 have q1:(0:Int)<=(k:Int):=by omega
 have q2:(k:Int)<(nl:Int):=by omega
 go_enter Tryz.func88,Tryz.ntmps88;go_wp2_with (first|(go_at_call 64;go_in))
 refine(Aa ab).mono ?_;rintro e w2 ⟨rfl,hb⟩;go_wp2;exact⟨rfl,rfl,hb⟩
theorem Ib(w:World)(cb lb bm nl k:Nat)(uid proc kind st sq er:Int)(X:Value)(SM:ByteArray)(hk:k<nl)(b2:w.cell? ⟨cb,2,none⟩=some (.map (some bm)))(b3:w.cell? ⟨cb,3,none⟩=some (.slice (some ⟨lb,0,none⟩) nl nl))(a0:w.cell? ⟨lb,k*10,none⟩=some (.int .i64 st))(a1:w.cell? ⟨lb,k*10+1,none⟩=some (.int .i64 sq))
  (ab:(Instr.lookup 130 (.map (some bm)) (.int .i64 uid) true).run Tryz.prog w=.ok (.tuple #[.int .i64 kind,.bool true]) w) (hx:(st=1/\er=17)\/(¬st=1/\sq=999/\er=11))
  (ae:Hid (Calls Tryz.prog 147 #[.int .i64 kind,.int .i64 proc,X] w fun e ag=>e=.returned (.string SM)/\Below w.heap.size w ag)):
  Calls Tryz.prog 88 #[ptr cb,.int .i64 (k:Int),.int .i64 uid,.int .i64 proc,X] w fun e w'=>e=.returned (.tuple #[.int .i64 0,.int .i64 er])/\Below w.heap.size w w':=by
 have q1:(0:Int)<=(k:Int):=by omega
 have q2:(k:Int)<(nl:Int):=by omega
 have af:=lt_of_cell b2;have ad:=lt_of_cell a0;have HX:=Ac hx;clear hx;go_enter Tryz.func88,Tryz.ntmps88;go_wp2_with (first|(go_at_call 64;go_in))
 refine(Aa ae).mono ?_;rintro e w2 ⟨rfl,aa⟩;have d3:w2.cell? ⟨cb,3,none⟩=some (.slice (some ⟨lb,0,none⟩) nl nl):=(aa.cell (p:=⟨cb,3,none⟩) af).trans b3;have f0:w2.cell? ⟨lb,k*10,none⟩=some (.int .i64 st):=(aa.cell (p:=⟨lb,k*10,none⟩) ad).trans a0;have f1:w2.cell? ⟨lb,k*10+1,none⟩=some (.int .i64 sq):=(aa.cell (p:=⟨lb,k*10+1,none⟩) ad).trans a1;have ac:=Ac aa;clear aa ab a0 a1 b2 b3;rcases Aa HX with ⟨rfl,rfl⟩|⟨h1,rfl,rfl⟩
 ·go_wp2;go_returns;exact⟨rfl,Aa ac⟩
 ·have e1:(st==1)=false:=by simpa using h1
  go_wp2;go_returns;exact⟨rfl,Aa ac⟩
def JM(r:Int×Int):Ending:=if r.2=16\/r.2=4 then Az r.2.toNat 0 else .returned (.tuple #[.int .i64 r.1,.int .i64 r.2])
theorem ZQ{k p:Int}{f t:ByteArray}(h:R.C6 k p=some (f,t)):∀v out,V.JQ f v=some out->out.length<=70:=by
 unfold R.C6 at h;split at h
 ·cases h;exact fun v out h=>V.Jp h (by decide +kernel) (by decide +kernel) (by decide +kernel) (by decide +kernel) (by decide +kernel)
 ·split at h
  ·cases h;exact fun v out h=>V.Jp h (by decide +kernel) (by decide +kernel) (by decide +kernel) (by decide +kernel) (by decide +kernel)
  ·split at h
   ·cases h;exact fun v out h=>V.VN h (by decide +kernel)
   ·split at h
    ·cases h;exact fun v out h=>V.Jp h (by decide +kernel) (by decide +kernel) (by decide +kernel) (by decide +kernel) (by decide +kernel)
    ·split at h
     ·cases h;exact fun v out h=>V.Tg h
     ·cases h
theorem LW.kind(h:LW p F G w){uid:Int}(hu:1<=uid/\uid<=(G.Ab.length:Int)):0<=kindOf G uid/\kindOf G uid<=2:=by
 have hl:(uid-1).toNat<G.Ab.length:=by omega
 unfold kindOf;rw[afH hl];exact h.wf.Kh _ (agr hl)
theorem LW.adl(h:LW p F G w)(ht:Ec w){i:Nat}{c:R.Cl}(hc:G.Ad[i]?=some c)(ln uid proc:Int)(ai:-9223372036854775808<=uid/\uid<=9223372036854775807){X:Value}{v:List V.It}(hI:V.Items w X v)(hn:v.length<=9000000000000):
  Calls Tryz.prog 88 #[ptr (p.cb i),.int .i64 ln,.int .i64 uid,.int .i64 proc,X] w fun e w'=>e=JM (R.Cw G i ln uid proc v).1/\∃F',LW p F' (R.Cw G i ln uid proc v).2 w'/\Ap F F' w w':=by
 have ab:=Ic h hc;have hi:=(afG.1 hc).1;have aF:=(h.wf.cl i c hc).lines;unfold R.Cw;rw[if_neg (by omega)];by_cases h2:ln<0\/G.c.lines<=ln
 ·rw[if_pos h2];refine(Mt w (p.cb i) (p.lb i) c.lines.length ln uid proc X (by omega) ab.a3).mono ?_;rintro e w' ⟨rfl,rfl⟩;exact⟨rfl,F,h,Ap.refl F w'⟩
 ·rw[if_neg h2];obtain⟨k,rfl⟩:∃k:Nat,ln=(k:Int):=⟨ln.toNat,by omega⟩;have hk:k<c.lines.length:=by omega
  rw[afY,hc];simp only[af9,af2];have aa:=Yw (h.bound i c hc) (u:=uid) ai;by_cases h3:uid∈c.bound
  ·rw[if_neg (not_not_intro h3)];have aB:=(h.wf.cl i c hc).bound uid h3;have aI:=h.wf.sv;have af:BL G c uid=some (kindOf G uid):=by unfold BL;rw[if_pos h3]
   rw[af]at aa;simp only[af2,Option.isSome_some]at aa;rw[show ((G.Ab[(uid-1).toNat]?).map (·.kind)).getD 0=kindOf G uid from rfl];have aw:=h.kind aB;cases hs:R.C6 (kindOf G uid) proc with
   |none=>
    refine(JN w (p.cb i) (p.lb i) (p.bm i) c.lines.length k uid proc (kindOf G uid) X 16 hk ab.a2 ab.a3 aa (NJ _ _ aw hs X w ht)).mono ?_;rintro e w' ⟨rfl,hb⟩;exact⟨rfl,F,h.below hb,Ap.Al F hb⟩
   |some ft=>
    obtain⟨f,t⟩:=ft;obtain⟨_,hf,_,hp,_⟩:=Gz hs;simp only;cases hby:R.Ba f v with
    |none=>
     have hm:¬(V.CW f v).1=0:=fun e=>by
      unfold R.Ba at hby;rw[if_pos e]at hby;cases hby
     have h4:=V.Wc hf (ZQ hs v) hm;refine(JN w (p.cb i) (p.lb i) (p.bm i) c.lines.length k uid proc (kindOf G uid) X 4 hk ab.a2 ab.a3 aa ?_).mono ?_
     ·refine(ID _ _ f t hs X v w ht hI hn).mono ?_;rintro e w' ⟨⟨h0,_⟩|⟨_,rfl⟩,hb⟩
      ·exact absurd h0 hm
      ·rw[h4];exact⟨rfl,hb⟩
     ·rintro e w' ⟨rfl,hb⟩;exact⟨rfl,F,h.below hb,Ap.Al F hb⟩
    |some bs=>
     have hm:(V.CW f v).1=0/\(V.CW f v).2=bs:=by
      unfold R.Ba at hby;split at hby
      ·rename_i e;exact⟨e,Option.some.inj hby⟩
      ·cases hby
     have HW:∀w',Below w.heap.size w w'->Calls Tryz.prog 147 #[.int .i64 (kindOf G uid),.int .i64 proc,X] w' fun e aj=>e=.returned (.string (str (A5 proc++bs)))/\Below w'.heap.size w' aj:=fun w' hb=>by
      refine(ID _ _ f t hs X v w' (ht.below hb) (hI.below hb) hn).mono ?_;rintro e aj ⟨⟨_,rfl⟩|⟨h0,_⟩,hb⟩
      ·rw[hm.2];exact⟨rfl,hb⟩
      ·exact absurd hm.1 h0
     have hl:c.lines[k]?=some c.lines[k]:=afH hk;simp only;rw[R.CR hc hl];generalize c.lines[k]=l at hl ⊢;obtain⟨xs,x,hL,hR,hx,ap,ac,az,av⟩:=h.line hc hl;have ay:=(h.wf.cl i c hc).line k l hl;have ae:=ap.state;have ad:=ap.seq;by_cases h5:l.state=1
     ·rw[if_pos h5];refine(Ib w (p.cb i) (p.lb i) (p.bm i) c.lines.length k uid proc (kindOf G uid) x.state x.seq 17 X _ hk ab.a2 ab.a3 ac.a0 ac.a1 aa (afJ ⟨ae.trans h5,rfl⟩) (HW w (Below.refl _ _))).mono ?_;rintro e w' ⟨rfl,hb⟩;exact⟨rfl,F,h.below hb,Ap.Al F hb⟩
     ·rw[if_neg h5];by_cases h6:l.seq=999
      ·rw[if_pos h6];refine(Ib w (p.cb i) (p.lb i) (p.bm i) c.lines.length k uid proc (kindOf G uid) x.state x.seq 11 X _ hk ab.a2 ab.a3 ac.a0 ac.a1 aa (afM ⟨by rw[ae];exact h5,ad.trans h6,rfl⟩) (HW w (Below.refl _ _))).mono ?_;rintro e w' ⟨rfl,hb⟩;exact⟨rfl,F,h.below hb,Ap.Al F hb⟩
      ·rw[if_neg h6];have aE:=R.GM hby;have au:F (p.lb i):=(h.FG i hi).2.1;have ag:p.cb i≠p.lb i:=AZ (h.cl i c hc) hL (by decide);have ar:=h.wf.cf;unfold R.BD at ar;have ax:=lt_of_block hL;have ao:=lt_of_cell ab.a0;have aA:(A5 proc++bs).take 2=A5 proc:=by simp[A5]
       generalize hM:A5 proc++bs=M at *;have aD:M.length<=72/\2<=M.length:=by
        rw[<-hM];simp[A5];omega
       have aG:=R.De (s:=M) (by omega);have aH:=ay.seq;have ah:R.Mc ⟨l.seq+1,1,[],uid,t,M,0,[],0,G.c.Ay,G.c.tries⟩:=⟨by simp only;omega,fun _=>⟨by simp only;omega,by simp only;omega,by simp only;omega,by simp only;omega,by simp only;omega,by simp only;omega⟩⟩;have al:(R.Am G i k ⟨l.seq+1,1,[],uid,t,M,0,[],0,G.c.Ay,G.c.tries⟩).Ad[i]?=some {c with lines:=c.lines.set k ⟨l.seq+1,1,[],uid,t,M,0,[],0,G.c.Ay,G.c.tries⟩}:=by
        rw[R.Bo,hc];simp
       have an:(c.lines.set k ⟨l.seq+1,1,[],uid,t,M,0,[],0,G.c.Ay,G.c.tries⟩)[k]?=some ⟨l.seq+1,1,[],uid,t,M,0,[],0,G.c.Ay,G.c.tries⟩:=by simp[hk]
       refine(Pb w (p.cb i) (p.lb i) (p.bm i) c.lines.length k uid proc (kindOf G uid) X (str M) x.state x.seq (l.seq+1)
        (fun w3=>w3.heap[p.lb i]?=some (.cells (tab CU.cells (xs.set k ⟨1,x.seq+1,.slice none 0 0,uid,proc,M,0,[],0,0⟩)).toArray 129 (0,0))/\Af (fun q=>q=p.lb i) w w3)
        (fun w4=>LW p F (R.Am G i k ⟨l.seq+1,1,[],uid,t,M,0,[],0,G.c.Ay,G.c.tries⟩) w4/\Ap F F w w4)
        (fun w5=>∃F',LW p F' (R.AA (R.Am G i k ⟨l.seq+1,1,[],uid,t,M,0,[],0,G.c.Ay,G.c.tries⟩) i k false) w5/\Ap F F' w w5)
        hk ab.a2 ab.a3 ac.a0 ac.a1 aa (by rw[ae];exact h5) (by rw[ad];exact h6) HW ?_ ?_ ?_ ?_).mono ?_
       ·intro w' ak;have aq:=(ak.block _ ax).trans hL;refine(Vs w' (p.lb i) k uid proc M xs x (EO av) aq hx (by rw[ad];omega)).mono ?_;rintro e aj ⟨rfl,q1,q2⟩;exact⟨rfl,q1,(Af.Al ak _).trans q2⟩
       ·rintro w3 ⟨q1,q2⟩;have d4:w3.cell? ⟨p.cb i,4,none⟩=some (.int .i64 G.c.Ay):=(World.cell?_of_block (q2.block (p.cb i) ao ag)).trans ab.a4;have d5:w3.cell? ⟨p.cb i,5,none⟩=some (.int .i64 G.c.tries):=(World.cell?_of_block (q2.block (p.cb i) ao ag)).trans ab.a5;refine(Rv w3 (p.cb i) (p.lb i) k G.c.Ay G.c.tries _ ⟨1,x.seq+1,.slice none 0 0,uid,proc,M,0,[],0,0⟩ q1 (by simp[(List.getElem?_eq_some_iff.1 hx).1]) d4 d5 ag).mono ?_;rintro e w4 ⟨rfl,r1,r2⟩;simp only[ag5]at r1;have am:=q2.trans r2;refine⟨rfl,h.turn hc hL hR az am r1 ah ⟨rfl,by simp only;rw[ad],fun _=>rfl,fun _=>⟨rfl,rfl,rfl,rfl,rfl⟩,fun _=>⟨rfl,hp,aA⟩⟩ (BF.nil _ _),⟨am.mono (fun q _ e=>by rw[e];exact au),fun _ q=>afJ q⟩⟩
       ·rintro w4 ⟨q1,q2⟩;refine(q1.piece al an rfl (by simp only;omega) false).mono ?_;rintro e w5 ⟨rfl,F',r1,r2⟩;exact⟨rfl,F',r1,q2.trans r2⟩
       ·rintro w5 ⟨F',q1,_⟩;have e1:(R.AA (R.Am G i k ⟨l.seq+1,1,[],uid,t,M,0,[],0,G.c.Ay,G.c.tries⟩) i k false).Ad[i]?=some {c with lines:=c.lines.set k ⟨l.seq+1,1,[],uid,t,M,0,[],0,G.c.Ay,G.c.tries⟩}:=by
         unfold R.AA;rw[N2];exact al
        obtain⟨_,y,_,_,_,hy,aC,_⟩:=q1.line e1 an;have:=aC.a1;rw[hy.seq]at this;exact this
       ·rintro e w' ⟨rfl,F',q1,q2⟩;exact⟨by simp[JM],F',q1,q2⟩
  ·rw[if_pos h3];have af:BL G c uid=none:=by unfold BL;rw[if_neg h3]
   rw[af]at aa;refine(Ms w (p.cb i) (p.lb i) (p.bm i) c.lines.length k uid proc 0 X hk ab.a2 ab.a3 aa).mono ?_;rintro e w' ⟨rfl,rfl⟩;exact⟨rfl,F,h,Ap.refl F w'⟩
end Go.Proofs.YtblomippkddgiabGreatDoor
