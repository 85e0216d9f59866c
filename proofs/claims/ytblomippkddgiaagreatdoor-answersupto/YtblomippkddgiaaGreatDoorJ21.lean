import Derived.Test.YtblomippkddgiaaGreatDoorJ20
set_option maxRecDepth 100000
set_option maxHeartbeats 1000000
namespace Go.Proofs.YtblomippkddgiaaGreatDoor.V
open Go.Proofs.Tryz
variable {s:ByteArray}{ks:List Bool}{v:List It}{f p:Nat}{g:Nat→Nat}
def IG(s:Ab)(v:List It):Option (List UInt8):=match Hg (nx s) (s.size+1) 0 v with
 |some (ks,[])=>some (Et ks v)
 |_=>none
theorem dD(hc:(Pt.O7 (nx s) s.size).1=0)(h:∀out,IG s v=some out->out.length<=70):(match IG s v with|some out=>Jk s v=(0,out)|none=>¬(Jk s v).1=0):=by
 have e:Jk s v=Sw (Hg (nx s) (s.size+1) 0 v) v:=by simp[Jk,hc]
 rw[e];unfold IG at h ⊢;cases he:Hg (nx s) (s.size+1) 0 v with
 |none=>simp[Sw]
 |some x=>grind [Sw]
theorem TS{r:List It}(h:Hg g (f+1) p v=some (ks,r))(w:g p≠97)(j:g p≠114)(m:g p≠115)(u:g p≠117)(e:g p≠113):ks=[false]:=by
 unfold Hg EO at h
 grind [E6,Gu]
theorem yR{r:List It}(h:Hg g (f+1) p v=some (ks,r))(e:g p=115):ks=[true]/\∃x,v=x :: r/\x.2.size<=14:=by
 unfold Hg EO at h
 grind [E6,Gu]
theorem ax{E:Nat->List It->GB}{q:Nat}(j:∀v ks r,E q v=some (ks,r)->ks=[false]):∀(k:Nat) (v r:List It) (ks:List Bool),E6 E (List.replicate k q) v=some (ks,r)->ks=List.replicate k false
 |0,v,r,ks,h=>by
  simp only[List.replicate_zero,E6]at h;cases h;rfl
 |k+1,v,r,ks,h=>by
  rw[BV,E6]at h;cases he:E q v with
  |none=>rw[he]at h;cases h
  |some x=>
   have⟨m,e⟩:=x;rw[he]at h;simp only at h;cases hs:E6 E (List.replicate k q) e with
   |none=>rw[hs]at h;cases h
   |some y=>
    have⟨k2,u⟩:=y;rw[hs]at h;simp only[Gu]at h;cases h;rw[j v m e he,ax j k e _ _ hs,BV];rfl
theorem Ps:∀(k:Nat) (v:List It),(Et (List.replicate k false) v).length<=2*k
 |0,v=>by simp[Et]
 |k+1,[]=>by simp[List.replicate_succ,Et]
 |k+1,x :: v=>by
  have:=Ps k v;rw[BV,Et,AJ];simp only[KL,EU];simp;omega
theorem TV{out:Ac}(h:IG s v=some out)(w:nx s 0≠97)(j:nx s 0≠114)(m:nx s 0≠115)(u:nx s 0≠117)(e:nx s 0≠113):out.length<=70:=by
 unfold IG at h;split at h
 ·rename_i ks y;cases h;rw[TS y w j m u e];have:=Ps 1 v
  grind
 ·cases h
theorem VO{out:Ac}(h:IG s v=some out)(e:nx s 0=115):out.length<=70:=by
 unfold IG at h;split at h
 ·rename_i ks u;cases h;have⟨j,x,m,w⟩:=yR u e;rw[j,m];have e0:x.2.data.toList.length=x.2.size:=BO
  grind [Et,EU,KL]
 ·cases h
def M1:ByteArray:={data:=#[114,40,101,51,113,51,105,41]}
theorem lL:Pt.EW (nx M1) 8 0=[2,4]:=Kx
theorem yL:nx M1 0=114/\nx M1 2=101/\nx M1 4=113/\nx M1 6=105:=Kx
theorem yN:FD (nx M1) 7 4=3:=Kx
theorem TU{out:Ac}(h:IG M1 v=some out):out.length<=70:=by
 unfold IG at h;have⟨a0,a2,a4,a6⟩:=yL;split at h
 ·rename_i ks e;cases h;rw[show M1.size+1=8+1 from rfl]at e;unfold Hg EO at e;rw[Ao U,Ay a0,lL]at e;simp only[E6]at e;cases h1:Hg (nx M1) 8 2 v with
  |none=>rw[h1]at e;cases e
  |some x1=>
   have⟨D,j⟩:=x1;rw[h1]at e;simp only at e;have e1:=TS (f:=7) h1 U U U U U;cases h2:Hg (nx M1) 8 4 j with
   |none=>rw[h2]at e;cases e
   |some x2=>
    have⟨k2,T⟩:=x2;rw[h2]at e;simp only[Gu]at e;cases e;have e2:∃n,n<=4/\k2=List.replicate n false:=by
     rw[show (8:Nat)=7+1 from rfl]at h2;unfold Hg EO at h2;rw[Ao U,Ao U]at h2;cases j with
     |nil=>cases h2
     |cons x j=>
      simp only at h2;rw[Ao (show ¬nx M1 4=115 by omega)]at h2;split at h2
      ·cases h2
      ·rename_i k0 O Q m;split at m
       ·rename_i B;rw[Ao U]at m;cases m;cases hs:E6 (Hg (nx M1) 7) (List.replicate x.1.toNat 6) j with
        |none=>rw[hs]at h2;cases h2
        |some y=>
         have⟨M,X⟩:=y;rw[hs]at h2;simp only[Gu]at h2;cases h2;have e3:=ax (E:=Hg (nx M1) 7) (q:=6) (λv ks r w=>TS (f:=6) w U U U U U) x.1.toNat j _ _ hs;have u:=B.2.2;rw[yN]at u;exact⟨x.1.toNat+1,U,by rw[e3,BV];rfl⟩
       ·cases m
    have⟨n,hn,e2⟩:=e2;subst e1 e2;have:=Ps (n+1) v
    grind
 ·cases h
theorem mG(hc:(Pt.O7 (nx s) s.size).1=0)(e:∀out,IG s v=some out->out.length<=70)(h:¬(Jk s v).1=0):(Jk s v).1=4:=by
 have j:Jk s v=Sw (Hg (nx s) (s.size+1) 0 v) v:=by unfold Jk;rw[Ay hc]
 rw[j]at h ⊢;unfold IG at e;cases he:Hg (nx s) (s.size+1) 0 v with
 |none=>rfl
 |some x=>grind [Sw]
end Go.Proofs.YtblomippkddgiaaGreatDoor.V
namespace Go.Proofs.YtblomippkddgiaaGreatDoor
open Go.Proofs.Tryz
open Go.RowKit Go.Maps
open Go.RowKit
variable {F:D9}{u v:Int}{s:List UInt8}{b i n:Nat}{p:Pl}{G:R.Wd}{X:Value}{w:World}
theorem acF:(zeroValue 3).run prog w=.ok (Z 0) w:=EL
theorem pK(h:-9223372036854775808<=u/\u<=9223372036854775807):(Lit.int .i64 u).wf=true:=by grind [Lit.wf,IntKind.min,IntKind.max,IntKind.bits,IntKind.signed]
section
variable {α:Type} {w:Aa} {k t:Ag} {b n:Nat} {lit:α->Lit} {g:α->Option Int}
theorem Mp.look(h:Mp w k b lit g n)(K:Keyed Tryz.prog k)(m:Tryz.prog.underlying t=some (.map k 3)){key:Ad}{a:α}(e:keyOf Tryz.prog k key=some (lit a)):(Instr.lookup t (.map (some b)) key true).run Tryz.prog w=.ok (.tuple #[.int .i64 ((g a).getD 0),.bool (g a).isSome]) w:=by
 have⟨D,j,B,h3⟩:=h;obtain⟨v,M,f,y⟩:=j.look_ok K m (acF) (plainElem_int Tryz.underlying3 (pK (by omega))) e;obtain⟨c,rfl,hc,_⟩:=plainElem_int_inv Tryz.underlying3 y;simp only[Prod.mk.injEq]at hc;rw[f,(h3 a).1];cases hg:g a with
 |some x=>grind
 |none=>
  exact ab2
theorem Mp.put(h:Mp w k b lit g n)(K:Keyed Tryz.prog k)(ht:Tryz.prog.underlying t=some (.map k 3))(hn:n<1000){key:Ad}{a:α}(m:keyOf Tryz.prog k key=some (lit a))(hl:∀x y,lit x=lit y->x=y)(j:WideAt.IsKeyLit (lit a))(hv:-9223372036854775808<=v/\v<=9223372036854775807)(T:α->Option Int)(f:∀x,(x=a->T x=some v)/\(¬x=a->T x=g x)):
  ∃O,(Instr.mapUpdate t (.map (some b)) key (.int .i64 v)).run Tryz.prog w=.ok () O/\Mp O k b lit T (if (g a).isSome then n else n+1)/\w.mapTurned O b:=by
 have⟨D,Q,h2,h3⟩:=h;have⟨O,M,h4,h5⟩:=Q.store K ht (by unfold maxLen;omega) m (plainElem_int Tryz.underlying3 (pK hv));have hs:=size_put (k:=lit a) (Q.tidy K) (.lit (.int .i64 v));rw[(h3 a).1,h2]at hs;refine⟨O,M,⟨_,?_,hs,λx=>?_⟩,h5⟩
 ·have⟨es,cl,q1,q2,q3,q4⟩:=h4;refine⟨es,cl,q1,q2,?_,q4⟩;rw[<-hs,q4];simp[Maps.size,length_sorted]
 ·by_cases hx:x=a
  ·subst hx;rw[(f x).1 rfl];refine⟨has_put_same Q.isMap j _,λy hy=>?_⟩;cases hy;exact atKey_put_same Q.isMap j _ _
  ·have B:lit x≠lit a:=λe=>hx (hl _ _ e)
   rw[(f x).2 hx,has_put_other B];refine⟨(h3 x).1,λy hy=>?_⟩;rw[atKey_put_other B];exact(h3 x).2 y hy
theorem Mp.len(h:Mp w k b lit g n)(j:prog.underlying t=some (.map k 3))(ty:Ag):(Builtin.len_ #[t] ty #[.map (some b)]).run prog w=.ok (Z n) w:=by
 have⟨D,e,f,m⟩:=h;rw[e.len j ty,f]
end
theorem Mp.Gw(w:Aa)(k:Ag){α:Type}(lit:α->Lit):Mp (w.alloc (.map #[] 0)) k w.heap.size lit (λ_=>none) 0:=
 ⟨.map [],World.ownsMap_made w _ _ _,rfl,λ_=>⟨rfl,λ_ h=>by cases h⟩⟩
theorem sZ{g:Int->Option Int}(h:Mp w 3 b Vl g n)(hu:-9223372036854775808<=u/\u<=9223372036854775807):(Instr.lookup 131 (.map (some b)) (Z u) true).run prog w=.ok (.tuple #[Z ((g u).getD 0),.bool (g u).isSome]) w:=
 h.look (int_keyed underlying3) underlying131 (keyOf_int_mk underlying3 (pK hu))
theorem M6{g:List UInt8->Option Int}(h:Mp w 9 b Si g n)(e:s.length<=maxLen):(Instr.lookup 159 (.map (some b)) (.string (str s)) true).run prog w=.ok (.tuple #[Z ((g s).getD 0),.bool (g s).isSome]) w:=
 h.look (string_keyed underlying9) underlying159 (by rw[Dc underlying9 (by rw[Er];exact e)])
theorem zN{g:Int->Option Int}(h:Mp w 3 b Vl g n)(hn:n<1000)(hu:-9223372036854775808<=u/\u<=9223372036854775807)(B:-9223372036854775808<=v/\v<=9223372036854775807)(f:Int->Option Int)(j:∀x,(x=u->f x=some v)/\(¬x=u->f x=g x)):
  ∃m,(Instr.mapUpdate 131 (.map (some b)) (Z u) (Z v)).run prog w=.ok () m/\Mp m 3 b Vl f (if (g u).isSome then n else n+1)/\w.mapTurned m b:=
 h.put (int_keyed underlying3) underlying131 hn (keyOf_int_mk underlying3 (pK hu)) (λx y e=>by cases e;rfl) BR B f j
theorem j6{g:List UInt8->Option Int}(h:Mp w 9 b Si g n)(hn:n<1000)(B:s.length<=maxLen)(D:-9223372036854775808<=v/\v<=9223372036854775807)(f:List UInt8->Option Int)(j:∀x,(x=s->f x=some v)/\(¬x=s->f x=g x)):
  ∃m,(Instr.mapUpdate 159 (.map (some b)) (.string (str s)) (Z v)).run prog w=.ok () m/\Mp m 9 b Si f (if (g s).isSome then n else n+1)/\w.mapTurned m b:=
 h.put (string_keyed underlying9) underlying159 hn (by rw[Dc underlying9 (by rw[Er];exact B)]) (λx y e=>by cases e;rfl) BR D f j
theorem LC{w':Aa}(h:w.mapTurned w' b):DF (λk=>k=b) w w':=by
 have f:=h.grown;exact⟨f.os,f.tape,f.output,f.size,λk hk g=>f.block k hk (λe=>g (by cases e;rfl))⟩
theorem Qa(w:Aa)(b:Nat):w.drew.heap[b]?=w.heap[b]?:=rfl
abbrev fD(w:Aa)(b k:Nat)(st sq u pc:Int)(S:Ab)(a:Int)(S2:Ab)(wt tr:Int):World:=(((((((((w.setCell (Y b (k*10)) (Z st)).setCell (Y b (k*10+1)) (Z sq)).setCell (Y b (k*10+2)) (.slice none 0 0)).setCell (Y b (k*10+3)) (Z u)).setCell (Y b (k*10+4)) (Z pc)).setCell (Y b (k*10+5)) (.string S)).setCell (Y b (k*10+6)) (Z a)).setCell (Y b (k*10+7)) (.string S2)).setCell (Y b (k*10+8)) (Z wt)).setCell (Y b (k*10+9)) (Z tr)
theorem mY(w:Aa)(b k:Nat)(st e u pc:Int)(m:Ac)(a g f:Int):fD w b k st e u pc (str m) a ⟨#[]⟩ g f=jZ w b k ⟨st,e,.slice none 0 0,u,pc,m,a,[],g,f⟩:=rfl
theorem kP(w:Aa)(b k:Nat)(u pc:Int)(m:Ac)(xs:List J7)(x:J7)(g:∃a n c,x.rv=.slice a n c)(h:w.heap[b]?=some (.cells (tab J7.cells xs).toArray 139 (0,0)))(T:xs[k]?=some x)(hs:0<=x.D4/\x.D4<=1000):
  D7 110 #[.pointer (some (Y b (k*10))),.agg #[Z u,Z pc,.string (str m),Z 0,.string ⟨#[]⟩,Z 0,Z 0]] w Ep λw'=>w'.heap[b]?=some (.cells (tab J7.cells (xs.set k ⟨1,x.D4+1,.slice none 0 0,u,pc,m,0,[],0,0⟩)).toArray 139 (0,0))/\DF (λq=>q=b) w w':=by
 have Q:=Dv h;obtain⟨j,f⟩:∃j,w.alloc (.cells #[Z u,Z pc,.string (str m),Z 0,.string ⟨#[]⟩,Z 0,Z 0] 137)=j:=⟨_,rfl⟩;have O:DY w j:=by
  rw[<-f];exact F9
 have B:j.heap[w.heap.size]?=some (.cells #[Z u,Z pc,.string (str m),Z 0,.string ⟨#[]⟩,Z 0,Z 0] 137 (0,0)):=by
  rw[<-f];exact AF w _
 have e:=(O.block b Q).trans h;obtain⟨a0,a1,a2,a3,a4,a5,a6,a7,a8,a9⟩:=sU e T;obtain⟨ra,rn,rc,g⟩:=g;rw[g]at a2;have z0:=Eb (off:=k*10) e;have z1:=Eb (off:=k*10+1) e;have z2:=Eb (off:=k*10+2) e;have z3:=Eb (off:=k*10+3) e;have z4:=Eb (off:=k*10+4) e;have z5:=Eb (off:=k*10+5) e;have z6:=Eb (off:=k*10+6) e;have z7:=Eb (off:=k*10+7) e;have z8:=Eb (off:=k*10+8) e;have z9:=Eb (off:=k*10+9) e;obtain⟨M,y⟩:∃M,M=xs.set k ⟨1,x.D4+1,.slice none 0 0,u,pc,m,0,[],0,0⟩:=⟨_,rfl⟩;rw[<-y];have HP:Hid ((fD j b k 1 (x.D4+1) u pc (str m) 0 ⟨#[]⟩ 0 0).drew.heap[b]?=some (.cells (tab J7.cells M).toArray 139 (0,0))/\DF (λq=>q=b) w (fD j b k 1 (x.D4+1) u pc (str m) 0 ⟨#[]⟩ 0 0).drew):=by
  have q:=j5 (w:=j) e T ⟨1,x.D4+1,.slice none 0 0,u,pc,m,0,[],0,0⟩;rw[y,mY];generalize jZ j b k ⟨1,x.D4+1,.slice none 0 0,u,pc,m,0,[],0,0⟩=W8 at q ⊢;rw[Qa];exact⟨q.1,((DF.D6 O _).trans q.2).drew⟩
 clear y;generalize str m=SM at *;obtain⟨c0,c1,c2,c3,c4⟩:=bC B 0 1 2 3 4;obtain⟨c5,c6⟩:=VL B 5 6;have e1:IntKind.i64.wrap (x.D4+1)=x.D4+1:=Iz;have D:=Dx f;have aa:=Dv e;generalize x.D4=sq at *;clear h T f O B e g;go_enter func110,ntmps110;go_wp2_with fail
 rw[Dw D]
 go_region
 all_goals
  go_wp2;go_returns;exact⟨rfl,HP⟩
theorem ZR(w:Aa)(cb b k:Nat)(rt f:Int)(xs:List J7)(x:J7)(h:w.heap[b]?=some (.cells (tab J7.cells xs).toArray 139 (0,0)))(m:xs[k]?=some x)(M:EB w cb 4 (Z rt))(T:EB w cb 5 (Z f))(g:¬cb=b):
  D7 111 #[ptr cb,.pointer (some (Y b (k*10)))] w Ep λB=>B.heap[b]?=some (.cells (tab J7.cells (xs.set k {x with El:=rt,DW:=f})).toArray 139 (0,0))/\DF (λq=>q=b) w B:=by
 have⟨a0,a1,a2,a3,a4,a5,a6,a7,a8,a9⟩:=sU h m;have z6:=Eb (off:=k*10+8) h;have z7:=Eb (off:=k*10+9) h;have e1:=GJ (j:=8) (x':={x with El:=rt}) (v:=Z rt) h m U rfl;have e2:=GJ (j:=9) (x':={x with El:=rt,DW:=f}) (v:=Z f) e1.1 e1.2 U rfl;simp only[A5]at e2;have O:=Gv M;have Q:=Dv h;have y:¬b=cb:=λe=>g e.symm
 have D:=Dx e2.1;clear e1 e2 h m a0 a1 a2 a3 a4 a5 a6 a7;go_enter func111,ntmps111;go_wp2;go_returns;exact⟨rfl,D,(Eg _).trans (Eg _)⟩
theorem WX(w:Aa)(cb lb bm M k:Nat)(D5 Eo Dz:Int)(X:Ad)(SM:Ab)(st sq D:Int)(A B C:World->Prop)(hk:k<M)
  (b2:EB w cb 2 (.map (some bm))) (b3:EB w cb 3 (EJ lb M M)) (a0:EB w lb (k*10) (Z st)) (a1:EB w lb (k*10+1) (Z sq))
  (h:(Instr.lookup 131 (.map (some bm)) (Z D5) true).run prog w=.ok (.tuple #[Z Dz,.bool true]) w)
  (y:¬st=1) (m:¬sq=999)
  (O:Hid (∀f,DY w f->D7 109 #[Z Dz,Z Eo,X] f (.string SM) λg=>DY f g))
  (Q:Hid (∀f,DY w f->D7 110 #[.pointer (some (Y lb (k*10))),.agg #[Z D5,Z Eo,.string SM,Z 0,.string ⟨#[]⟩,Z 0,Z 0]] f Ep λg=>A g))
  (T:Hid (∀f,A f->D7 111 #[ptr cb,.pointer (some (Y lb (k*10)))] f Ep λg=>B g))
  (aa:Hid (∀f,B f->D7 112 #[ptr cb,Z k,.bool false] f Ep λg=>C g))
  (ac:Hid (∀f,C f->EB f lb (k*10+1) (Z D))):
  D7 64 #[ptr cb,Z k,Z D5,Z Eo,X] w (.tuple #[Z D,Z 0]) λf=>C f:=by
 have e1:(st==1)=false:=by simpa using y
 have e2:(sq==999)=false:=by simpa using m
 have q1:0<=(k:Int):=U;have q2:(k:Int)<M:=U;have⟨ad,j⟩:=KM b2 a0;clear y m;go_enter func64,ntmps64;go_wp2_with (first|(go_at_call 73;go_in))
 refine cm (O _ (AA _ _)) λw2 e=>?_
 have d3:=(e.cell (p:=Y cb 3) ad).trans b3;have f0:=(e.cell (p:=(Y lb (k*10))) j).trans a0;have f1:=(e.cell (p:=(Y lb (k*10+1))) j).trans a1;have ab:=Dx e;clear e h a0 a1 b2 b3;go_wp2_with fail
 refine cm (Q _ ab) λw3 hA=>?_
 have HA:=Dx hA;clear hA d3 f0 f1;go_wp2_with fail
 refine cm (T _ HA) λw4 hB=>?_
 have HB:=Dx hB;clear hB;go_wp2_with fail
 refine cm (aa _ HB) λw5 hC=>?_
 have g1:=ac _ hC;have HC:=Dx hC;clear hC;go_wp2;go_returns;exact⟨rfl,HC⟩
theorem TE(w:Aa)(cb lb e:Nat)(ln D5 Eo:Int)(X:Ad)(hk:ln<0\/(e:Int)<=ln)(h:EB w cb 3 (EJ lb e e)):
  D7 64 #[ptr cb,Z ln,Z D5,Z Eo,X] w (.tuple #[Z 0,Z 14]) λg=>g=w:=by
 by_cases j:ln<0
 ·have f:¬0<=ln:=U;clear hk;exact wy
 ·have f:0<=ln:=U;have m:¬ln<(e:Int):=U;clear hk;exact wy
theorem TD(w:Aa)(cb lb bm e k:Nat)(D5 Eo z:Int)(X:Ad)(hk:k<e)(h:EB w cb 2 (.map (some bm)))(j:EB w cb 3 (EJ lb e e))(f:(Instr.lookup 131 (.map (some bm)) (Z D5) true).run prog w=.ok (.tuple #[Z z,.bool false]) w):
  D7 64 #[ptr cb,Z k,Z D5,Z Eo,X] w (.tuple #[Z 0,Z 15]) λg=>g=w:=by
 have m:0<=(k:Int):=U;have y:(k:Int)<e:=U;exact wy
theorem PZ(w:Aa)(cb lb bm f k:Nat)(D5 Eo Dz:Int)(X:Ad)(n:Nat)(hk:k<f)(B:EB w cb 2 (.map (some bm)))(D:EB w cb 3 (EJ lb f f))(h:(Instr.lookup 131 (.map (some bm)) (Z D5) true).run prog w=.ok (.tuple #[Z Dz,.bool true]) w)
  (g:Hid (ET 109 #[Z Dz,Z Eo,X] w λe j=>e=EQ n 0/\DY w j)):
  ET 64 #[ptr cb,Z k,Z D5,Z Eo,X] w λe y=>e=EQ n 0/\DY w y:=by
 have M:0<=(k:Int):=U;have O:(k:Int)<f:=U;go_enter func64,ntmps64;go_wp2_with (first|(go_at_call 73;go_in))
 refine cm g λQ m=>?_
 go_wp2;exact⟨rfl,rfl,m⟩
theorem N9(w:Aa)(cb lb bm j k:Nat)(D5 Eo Dz st Q er:Int)(X:Ad)(SM:Ab)(hk:k<j)(D:EB w cb 2 (.map (some bm)))(M:EB w cb 3 (EJ lb j j))(a0:EB w lb (k*10) (Z st))(a1:EB w lb (k*10+1) (Z Q))
  (f:(Instr.lookup 131 (.map (some bm)) (Z D5) true).run prog w=.ok (.tuple #[Z Dz,.bool true]) w) (O:(st=1/\er=17)\/(¬st=1/\Q=999/\er=11))
  (m:Hid (D7 109 #[Z Dz,Z Eo,X] w (.string SM) λB=>DY w B)):
  D7 64 #[ptr cb,Z k,Z D5,Z Eo,X] w (.tuple #[Z 0,Z er]) λw'=>DY w w':=by
 have q1:0<=(k:Int):=U;have q2:(k:Int)<j:=U;have⟨y,h⟩:=KM D a0;have T:=Dx O;clear O;go_enter func64,ntmps64;go_wp2_with (first|(go_at_call 73;go_in))
 refine cm m λw2 e=>?_
 have d3:=(e.cell (p:=Y cb 3) y).trans M;have f0:=(e.cell (p:=(Y lb (k*10))) h).trans a0;have f1:=(e.cell (p:=(Y lb (k*10+1))) h).trans a1;have g:=Dx e;clear e f a0 a1 D M;rcases Dw T with ⟨rfl,rfl⟩|⟨h1,rfl,rfl⟩
 ·go_wp2;go_returns;exact⟨rfl,g⟩
 ·have e1:(st==1)=false:=by simpa using h1
  go_wp2;go_returns;exact⟨rfl,g⟩
def PY(r:Int×Int):Ending:=if r.2=16\/r.2=4 then EQ r.2.toNat 0 else .returned (.tuple #[Z r.1,Z r.2])
theorem vK{k p:Int}{f t:Ab}(h:R.IY k p=some (f,t)):∀v out,V.IG f v=some out->out.length<=70:=by
 unfold R.IY at h;split at h
 ·exact wZ
 ·split at h
  ·exact wZ
  ·split at h
   ·cases h;exact λv out h=>V.VO h Kx
   ·split at h
    ·exact wZ
    ·split at h
     ·cases h;exact λv out h=>V.TU h
     ·cases h
theorem LW.Dz(h:LW p F G w){D5:Int}(hu:1<=D5/\D5<=(G.Dy.length:Int)):0<=GU G D5/\GU G D5<=2:=by
 have hl:(D5-1).toNat<G.Dy.length:=U;unfold GU;rw[Ah hl];exact h.wf.R7 _ (CK hl)
theorem LW.aeq(h:LW p F G w)(ht:JI w){c:R.Cl}(hc:G.DI[i]?=some c)(ln D5 Eo:Int)(am:-9223372036854775808<=D5/\D5<=9223372036854775807){v:List V.It}(hI:V.Ff w X v)(hn:v.length<=9000000000000):
  ET 64 #[ptr (p.cb i),Z ln,Z D5,Z Eo,X] w λe w'=>e=PY (R.Gc G i ln D5 Eo v).1/\∃D,LW p D (R.Gc G i ln D5 Eo v).2 w'/\D8 F D w w':=by
 have j:=P4 h hc;have hi:=GG hc;have bp:=(h.wf.cl i c hc).DV;unfold R.Gc;rw[Ao U];by_cases h2:ln<0\/G.c.DV<=ln
 ·rw[Ay h2];refine(TE w (p.cb i) (p.lb i) c.DV.length ln D5 Eo X U j.a3).mono ?_;exact iE
 ·rw[Ao h2];obtain⟨k,rfl⟩:∃k:Nat,ln=(k:Int):=⟨ln.toNat,U⟩;have hk:k<c.DV.length:=U;rw[AY,hc];simp only[Ce,Bw];have g:=sZ (h.Ee i c hc) (u:=D5) am;by_cases h3:D5∈c.Ee
  ·rw[Ao (not_not_intro h3)];have b6:=(h.wf.cl i c hc).Ee D5 h3;have bz:=h.wf.sv;have Q:GY G c D5=some (GU G D5):=by unfold GY;rw[Ay h3]
   rw[Q]at g;simp only[Bw,Option.isSome_some]at g;rw[show ((G.Dy[(D5-1).toNat]?).map (·.Dz)).getD 0=GU G D5 from rfl];have aV:=h.Dz b6;cases hs:R.IY (GU G D5) Eo with
   |none=>
    refine(PZ w (p.cb i) (p.lb i) (p.bm i) c.DV.length k D5 Eo (GU G D5) X 16 hk j.a2 j.a3 g (U7 _ _ aV hs X w ht)).mono ?_;exact aaO
   |some ft=>
    have⟨f,t⟩:=ft;have⟨_,hf,_,hp,_⟩:=Ng hs;simp only;cases hby:R.Fi f v with
    |none=>
     have hm:¬(V.Jk f v).1=0:=λe=>by
      all_goals grind [R.Fi]
     have h4:=V.mG hf (vK hs v) hm;refine(PZ w (p.cb i) (p.lb i) (p.bm i) c.DV.length k D5 Eo (GU G D5) X 4 hk j.a2 j.a3 g ?_).mono ?_
     ·refine(OH _ _ f t hs X v w ht hI hn).mono ?_;rintro e w' ⟨⟨h0,_⟩|⟨_,rfl⟩,hb⟩;all_goals grind
     ·exact aaO
    |some bs=>
     have hm:(V.Jk f v).1=0/\(V.Jk f v).2=bs:=by all_goals grind [R.Fi]
     have HW:∀w',DY w w'->D7 109 #[Z (GU G D5),Z Eo,X] w' (.string (str (EU Eo++bs))) λaa=>DY w' aa:=λw' hb=>by
      refine(OH _ _ f t hs X v w' (ht.DG hb) (hI.DG hb) hn).mono ?_;rintro e aa ⟨⟨_,rfl⟩|⟨h0,_⟩,hb⟩;all_goals grind
     have hl:=Ah hk;simp only;rw[R.FH hc hl];generalize c.DV[k]=l at hl ⊢;have⟨xs,x,hL,hR,hx,an,m,b3,aS⟩:=h.DZ hc hl;have b2:=(h.wf.cl i c hc).DZ k l hl;have O:=an.DK;have B:=an.D4;by_cases h5:l.DK=1
     ·rw[Ay h5];refine(N9 w (p.cb i) (p.lb i) (p.bm i) c.DV.length k D5 Eo (GU G D5) x.DK x.D4 17 X _ hk j.a2 j.a3 m.a0 m.a1 g (Aj ⟨O.trans h5,rfl⟩) (HW w (AA _ _))).mono ?_;exact aaO
     ·rw[Ao h5];by_cases h6:l.D4=999
      ·rw[Ay h6];refine(N9 w (p.cb i) (p.lb i) (p.bm i) c.DV.length k D5 Eo (GU G D5) x.DK x.D4 11 X _ hk j.a2 j.a3 m.a0 m.a1 g (Am ⟨by rw[O];exact h5,B.trans h6,rfl⟩) (HW w (AA _ _))).mono ?_;exact aaO
      ·rw[Ao h6];have bi:=R.Nq hby;have aN:=(h.Gs i hi).2.1;have T:=ES (h.cl i c hc) hL Em;have az:=h.wf.cf;unfold R.GA at az;have b1:=Dv hL;have ak:=Gv j.a0;have b5:(EU Eo++bs).take 2=EU Eo:=by simp[EU]
       generalize hM:EU Eo++bs=M at *;have bf:M.length<=72/\2<=M.length:=by
        rw[<-hM];simp[EU];omega
       have br:=R.ID (s:=M) U;have bt:=b2.D4;have al:R.O0 ⟨l.D4+1,1,[],D5,t,M,0,[],0,G.c.Ew,G.c.DW⟩:=⟨by simp only;omega,λ_=>⟨by simp only;omega,by simp only;omega,by simp only;omega,by simp only;omega,by simp only;omega,by simp only;omega⟩⟩;have aw:(R.Eh G i k ⟨l.D4+1,1,[],D5,t,M,0,[],0,G.c.Ew,G.c.DW⟩).DI[i]?=some {c with DV:=c.DV.set k ⟨l.D4+1,1,[],D5,t,M,0,[],0,G.c.Ew,G.c.DW⟩}:=by
        rw[R.Ft,hc];simp
       have ah:(c.DV.set k ⟨l.D4+1,1,[],D5,t,M,0,[],0,G.c.Ew,G.c.DW⟩)[k]?=some ⟨l.D4+1,1,[],D5,t,M,0,[],0,G.c.Ew,G.c.DW⟩:=by simp[hk]
       refine(WX w (p.cb i) (p.lb i) (p.bm i) c.DV.length k D5 Eo (GU G D5) X (str M) x.DK x.D4 (l.D4+1)
        (λw3=>w3.heap[p.lb i]?=some (.cells (tab J7.cells (xs.set k ⟨1,x.D4+1,.slice none 0 0,D5,Eo,M,0,[],0,0⟩)).toArray 139 (0,0))/\DF (λq=>q=p.lb i) w w3)
        (λw4=>LW p F (R.Eh G i k ⟨l.D4+1,1,[],D5,t,M,0,[],0,G.c.Ew,G.c.DW⟩) w4/\D8 F F w w4)
        (λw5=>∃D,LW p D (R.EG (R.Eh G i k ⟨l.D4+1,1,[],D5,t,M,0,[],0,G.c.Ew,G.c.DW⟩) i k false) w5/\D8 F D w w5)
        hk j.a2 j.a3 m.a0 m.a1 g (by rw[O];exact h5) (by rw[B];exact h6) HW ?_ ?_ ?_ ?_).mono ?_
       ·intro w' ad;have av:=(ad.block _ b1).trans hL;refine(kP w' (p.lb i) k D5 Eo M xs x (Lc aS) av hx (by rw[B];omega)).mono ?_;rintro e aa ⟨rfl,q1,q2⟩;exact⟨rfl,q1,(DF.D6 ad _).trans q2⟩
       ·rintro w3 ⟨q1,q2⟩;have d4:=(AR (q2.block (p.cb i) ak T)).trans j.a4;have d5:=(AR (q2.block (p.cb i) ak T)).trans j.a5;refine(ZR w3 (p.cb i) (p.lb i) k G.c.Ew G.c.DW _ ⟨1,x.D4+1,.slice none 0 0,D5,Eo,M,0,[],0,0⟩ q1 (by simp[(GG hx)]) d4 d5 T).mono ?_;rintro e w4 ⟨rfl,r1,r2⟩;simp only[A5]at r1;have ae:=q2.trans r2;refine⟨rfl,h.Sr hc hL hR b3 ae r1 al ⟨rfl,by simp only;rw[B],λ_=>rfl,λ_=>⟨rfl,rfl,rfl,rfl,rfl⟩,λ_=>⟨rfl,hp,b5⟩⟩ (Gg.nil _ _),⟨ae.mono (λq _ e=>by rw[e];exact aN),λ_ q=>Aj q⟩⟩
       ·rintro w4 ⟨q1,q2⟩;refine(q1.piece aw ah rfl (by simp only;omega) false).mono ?_;rintro e w5 ⟨rfl,D,r1,r2⟩;exact⟨rfl,D,r1,q2.trans r2⟩
       ·rintro w5 ⟨D,q1,_⟩;have e1:(R.EG (R.Eh G i k ⟨l.D4+1,1,[],D5,t,M,0,[],0,G.c.Ew,G.c.DW⟩) i k false).DI[i]?=some {c with DV:=c.DV.set k ⟨l.D4+1,1,[],D5,t,M,0,[],0,G.c.Ew,G.c.DW⟩}:=by all_goals grind [R.EG,K7]
        have⟨_,y,_,_,_,hy,b7,_⟩:=q1.DZ e1 ah;have:=b7.a1;rw[hy.D4]at this;exact this
       all_goals grind [PY]
  ·rw[Ay h3];have Q:GY G c D5=none:=by unfold GY;rw[Ao h3]
   rw[Q]at g;refine(TD w (p.cb i) (p.lb i) (p.bm i) c.DV.length k D5 Eo 0 X hk j.a2 j.a3 g).mono ?_;exact iE
theorem Pw(f g:Addr)(w:Aa):
  CallsD prog 63 #[.pointer (some f),.pointer (some g)] .returning w λe j m=>e=.returned Ep/\j=.returning/\m=w:=by
 refine callsD_of_wpS func63 rfl λc₀ h hu=>?_
 apply wpS_seq;apply wpS_region;simp[wpOpsS,go_sem,recoverD,hu,ntmps63,Exit.thenS];rw[show (#[Value.pointer (some f),Value.pointer (some g)]++((Array.replicate 7 undef).setIfInBounds 1 (Value.nilIface)).setIfInBounds 0 (Value.nilIface))=#[.pointer (some f),.pointer (some g),.nilIface,.nilIface,undef,undef,undef,undef,undef] from rfl];exact adV
theorem Rr{a0 a1:Nat}{q:Nat}{f:List PanicEntry}(m:w.cell? ⟨a0,0,none⟩=some (.int .i64 0))(y:w.cell? ⟨a1,0,none⟩=some (.int .i64 0))(D:w.frozen? ⟨a0,0,none⟩=false)(M:w.frozen? ⟨a1,0,none⟩=false)(ab:¬a0=a1):
  CallsD Tryz.prog 63 #[.pointer (some ⟨a0,0,none⟩),.pointer (some ⟨a1,0,none⟩)] (.panicking ({v:=.iface 86 (Gk n q),recovered:=false} :: f)) w λe u' B=>
   e=.returned (.tuple #[])/\u'=.panicking ({v:=.iface 86 (Gk n q),recovered:=true} :: f)/\B.cell? ⟨a0,0,none⟩=some (.int .i64 0)/\B.cell? ⟨a1,0,none⟩=some (.int .i64 n)/\DF (λk=>k=a0\/k=a1) w B:=by
 refine callsD_of_wpS Tryz.func63 rfl λc₀ j hu=>?_
 apply wpS_seq;apply wpS_region;simp[wpOpsS,go_sem,recoverD,hu,Tryz.ntmps63,Exit.thenS];rw[show (#[Value.pointer (some {block:=a0,off:=0}),Value.pointer (some {block:=a1,off:=0})]++((Array.replicate 7 undef).setIfInBounds 1 (Value.iface 86 (Gk n q))).setIfInBounds 0 (Value.iface 86 (Gk n q)))=#[.pointer (some {block:=a0,off:=0}),.pointer (some {block:=a1,off:=0}),.iface 86 (Gk n q),.iface 86 (Gk n q),undef,undef,undef,undef,undef] from rfl];refine wpS_of_wp ?_;have aa:=V.Od n q;have l0:=lt_of_cell m;have l1:=lt_of_cell y;go_wp2_with fail
 refine(V.Px n q _).mono ?_;rintro e h ⟨rfl,g⟩;have s1:=g.size;have g0:=(g.cell (p:=⟨a0,0,none⟩) l0).trans m;have g1:=(g.cell (p:=⟨a1,0,none⟩) l1).trans y;have y0:=(g.frozen (p:=⟨a0,0,none⟩) l0).trans D;have y1:=(g.frozen (p:=⟨a1,0,none⟩) l1).trans M;have m0:a0<h.heap.size:=by omega
 have m1:a1<h.heap.size:=by omega
 have e2:¬a1=a0:=by omega
 have HK:=Dx (DF.D6 g (λk=>k=a0\/k=a1));clear m y D M g;go_wp2;have O:((h.setCell {block:=a0,off:=0} (.int .i64 0)).setCell {block:=a1,off:=0} (Value.int IntKind.i64 ↑n)).cell? ⟨a0,0,none⟩=some (.int .i64 0):=by simp[go_sem,g0]
 have Q:((h.setCell {block:=a0,off:=0} (.int .i64 0)).setCell {block:=a1,off:=0} (Value.int IntKind.i64 ↑n)).cell? ⟨a1,0,none⟩=some (.int .i64 n):=by simp[go_sem,g1]
 have T:DF (λk=>k=a0\/k=a1) w ((h.setCell {block:=a0,off:=0} (.int .i64 0)).setCell {block:=a1,off:=0} (Value.int IntKind.i64 ↑n)):=
  ((Dw HK).setCell (p:=⟨a0,0,none⟩) (Aj (Aj rfl)) _).setCell (p:=⟨a1,0,none⟩) (Aj (Am rfl)) _
 show bodyPostS Tryz.prog Tryz.f63 c₀ j _ _ _ _ _;exact⟨rfl,_,rfl,_,results_none rfl _ _ _,rfl,rfl,O,Q,T⟩
theorem lu(w:Aa)(x y n cap cb i:Nat)(ln D5 Eo:Int)(X:Ad)(sq er:Int)(C:World->Prop)(hx:EB w x 2 (EJ y n cap))(hi:i<n)(B:EB w y i (ptr cb))
  (m:Hid (∀j,DY w j->j.heap.size=w.heap.size+2->D7 64 #[ptr cb,Z ln,Z D5,Z Eo,X] j (.tuple #[Z sq,Z er]) λg=>C g/\g.heap[w.heap.size]?=j.heap[w.heap.size]?/\g.heap[w.heap.size+1]?=j.heap[w.heap.size+1]?/\j.heap.size<=g.heap.size)):
  D7 31 #[ptr x,Z i,Z ln,Z D5,Z Eo,X] w (.tuple #[Z sq,Z er]) λj=>∃h,C h/\DF (λk=>k=w.heap.size\/k=w.heap.size+1) h j:=by
 have al:∀(fn:Fn) (first cap:Array Value) (w:Aa),(Instr.makeFunc fn first cap).run prog w=.ok (.func fn first cap) w:=λ_ _ _ _=>rfl
 have q1:0<=(i:Int):=U;have q2:(i:Int)<n:=U;have⟨ah,ak⟩:=KM hx B;have HB:Hid (DY w ((w.alloc (.cells #[Z 0] 3)).alloc (.cells #[Z 0] 32))):=F9.alloc Ev _;have HC:=Dx (m _ HB Ev);have Q:Hid (((w.alloc (.cells #[Z 0] 3)).alloc (.cells #[Z 0] 32)).heap[w.heap.size]?=some (.cells #[Z 0] 3 (0,0))):=(AL _ _ _ Ev).trans (AF w _);have T:Hid (((w.alloc (.cells #[Z 0] 3)).alloc (.cells #[Z 0] 32)).heap[w.heap.size+1]?=some (.cells #[Z 0] 32 (0,0))):=by
  exact ach
 clear m
 go_enter_defers func31,ntmps31
 go_wp2_with (first|(go_at_call 38;go_in))
 refine cm HC ?_;rintro h ⟨hC,D,M,aa⟩;have f0:=D.trans (Dw Q);have f1:=M.trans (Dw T);have c0:=EI f0 0;have c1:=EI f1 0;have z0:h.frozen? (EN w 0)=false:=Eb f0;have z1:h.frozen? ⟨w.heap.size+1,0,none⟩=false:=Eb f1;simp at aa;have m0:w.heap.size<h.heap.size:=U;have m1:w.heap.size+1<h.heap.size:=U;have O:=Dx hC;clear D M f0 f1 hC hx B;go_wp2;refine leaves_cons (f:=63) (args:=#[.pointer (some (EN w 0)),.pointer (some ⟨w.heap.size+1,0,none⟩)]) Ev Vb ?_;refine(Pw _ _ _).mono ?_;rintro e u' g ⟨rfl,rfl,rfl⟩;simp[Leaves,settle,results,results31,go_sem,c0,c1];exact⟨h,O,((DF.refl _ h).setCell (p:=EN w 0) (Aj (Aj rfl)) _).setCell (p:=⟨w.heap.size+1,0,none⟩) (Aj (Am rfl)) _⟩
theorem WW(w:Aa)(x y n cap cb i:Nat)(ln D5 Eo:Int)(X:Ad)(n0:Nat)(C:World->Prop)(hx:EB w x 2 (EJ y n cap))(hi:i<n)(M:EB w y i (ptr cb))
  (m:Hid (∀h,DY w h->h.heap.size=w.heap.size+2->ET 64 #[ptr cb,Z ln,Z D5,Z Eo,X] h λe g=>e=EQ n0 0/\C g/\g.heap[w.heap.size]?=h.heap[w.heap.size]?/\g.heap[w.heap.size+1]?=h.heap[w.heap.size+1]?/\h.heap.size<=g.heap.size)):
  D7 31 #[ptr x,Z i,Z ln,Z D5,Z Eo,X] w (.tuple #[Z 0,Z n0]) λh=>∃j,C j/\DF (λk=>k=w.heap.size\/k=w.heap.size+1) j h:=by
 have al:∀(fn:Fn) (first cap:Array Value) (w:Aa),(Instr.makeFunc fn first cap).run prog w=.ok (.func fn first cap) w:=λ_ _ _ _=>rfl
 have q1:0<=(i:Int):=U;have q2:(i:Int)<n:=U;have⟨ah,ak⟩:=KM hx M;have HB:Hid (DY w ((w.alloc (.cells #[Z 0] 3)).alloc (.cells #[Z 0] 32))):=F9.alloc Ev _;have HC:=Dx (m _ HB Ev);have aa:Hid (((w.alloc (.cells #[Z 0] 3)).alloc (.cells #[Z 0] 32)).heap[w.heap.size]?=some (.cells #[Z 0] 3 (0,0))):=(AL _ _ _ Ev).trans (AF w _);have ab:Hid (((w.alloc (.cells #[Z 0] 3)).alloc (.cells #[Z 0] 32)).heap[w.heap.size+1]?=some (.cells #[Z 0] 32 (0,0))):=by
  exact ach
 clear m
 go_enter_defers func31,ntmps31
 go_wp2_with (first|(go_at_call 38;go_in))
 refine cm HC ?_;rintro j ⟨hC,O,Q,ac⟩;have B:=O.trans (Dw aa);have D:=Q.trans (Dw ab);have c0:=EI B 0;have c1:=EI D 0;have z0:j.frozen? (EN w 0)=false:=Eb B;have z1:j.frozen? ⟨w.heap.size+1,0,none⟩=false:=Eb D;simp at ac;have m0:w.heap.size<j.heap.size:=U;have m1:w.heap.size+1<j.heap.size:=U;have T:=Dx hC;clear O Q B D hC hx M;go_wp2;refine leaves_cons (f:=63) (args:=#[.pointer (some (EN w 0)),.pointer (some ⟨w.heap.size+1,0,none⟩)]) Ev Vb ?_;refine(Rr c0 c1 z0 z1 U).mono ?_;rintro e u' g ⟨rfl,rfl,B,D,fk⟩;simp[Leaves,settle,results,results31,go_sem,B,D];exact⟨j,T,fk⟩
theorem WV(w:Aa)(x g n cap:Nat)(cl ln D5 Eo:Int)(X:Ad)(y:EB w x 2 (EJ g n cap))(hc:cl<0\/(n:Int)<=cl):
  D7 31 #[ptr x,Z cl,Z ln,Z D5,Z Eo,X] w (.tuple #[Z 0,Z 13]) λB=>DY w B:=by
 have m:∀(fn:Fn) (first cap:Array Value) (w:Aa),(Instr.makeFunc fn first cap).run prog w=.ok (.func fn first cap) w:=λ_ _ _ _=>rfl
 have j:=Gv y;have HB:Hid (DY w ((w.alloc (.cells #[Z 0] 3)).alloc (.cells #[Z 13] 32))):=F9.alloc Ev _;by_cases D:cl<0
 ·have h:¬0<=cl:=U;exact afy
 ·have h:0<=cl:=U;have M:¬cl<(n:Int):=U;exact afy
theorem LW.lG(h:LW p F G w)(hi:i<G.DI.length):w.cell? (Y p.cs i)=some (ptr (p.cb i)):=by grind [LW,World.cell?]
theorem LW.call(h:LW p F G w)(ht:JI w)(cl ln D5 Eo:Int)(O:-9223372036854775808<=D5/\D5<=9223372036854775807){v:List V.It}(hI:V.Ff w X v)(hn:v.length<=9000000000000):
  D7 31 #[ptr p.x,Z cl,Z ln,Z D5,Z Eo,X] w (.tuple #[Z (R.Gc G cl ln D5 Eo v).1.1,Z (R.Gc G cl ln D5 Eo v).1.2]) λg=>∃j,LW p j (R.Gc G cl ln D5 Eo v).2 g/\D8 F j w g:=by
 by_cases M:cl<0\/(G.DI.length:Int)<=cl
 ·have e0:R.Gc G cl ln D5 Eo v=((0,13),G):=by unfold R.Gc;rw[Ay M]
  rw[e0];refine cm (WV w p.x p.cs G.DI.length p.cap cl ln D5 Eo X (EI h.bx 2) M) λg hb=>?_
  exact⟨rfl,F,h.DG hb,D8.D6 F hb⟩
 ·obtain⟨i,rfl⟩:∃i:Nat,cl=(i:Int):=⟨cl.toNat,U⟩;have hi:i<G.DI.length:=U;have hc:=Ah hi;have y:∀g,DY w g->g.heap.size=w.heap.size+2->ET 64 #[ptr (p.cb i),Z ln,Z D5,Z Eo,X] g λe f=>e=PY (R.Gc G i ln D5 Eo v).1/\(∃wf j,DY w wf/\wf.heap.size=w.heap.size+2/\LW p j (R.Gc G i ln D5 Eo v).2 f/\D8 F j wf f)/\f.heap[w.heap.size]?=g.heap[w.heap.size]?/\f.heap[w.heap.size+1]?=g.heap[w.heap.size+1]?/\g.heap.size<=f.heap.size:=λg m hz=>by
   refine cm ((h.DG m).aeq (ht.DG m) hc ln D5 Eo O (hI.DG m) hn) ?_;rintro f ⟨j,Q,B⟩;all_goals grind [LW,D8,DF]
  have fin:∀g D,(∃wf j,DY w wf/\wf.heap.size=w.heap.size+2/\LW p j (R.Gc G i ln D5 Eo v).2 D/\D8 F j wf D)->DF (λk=>k=w.heap.size\/k=w.heap.size+1) D g->∃j,LW p j (R.Gc G i ln D5 Eo v).2 g/\D8 F j w g:=by
   rintro g D ⟨wf,j,m,hz,Q,B⟩ hK;have T:∀k,j k->¬(k=w.heap.size\/k=w.heap.size+1):=λk hf=>by
    rcases B.fresh k hf with q|q
    ·have:=h.lt k q;omega
    ·omega
   refine⟨j,Q.FX hK T,⟨?_,λk hf=>?_⟩⟩
   ·exact((DF.D6 m F).trans B.E0).andThen hK (λk aa e=>by omega)
   ·rcases B.fresh k hf with q|q;all_goals grind
  by_cases he:(R.Gc G i ln D5 Eo v).1.2=16\/(R.Gc G i ln D5 Eo v).1.2=4
  ·have h0:(R.Gc G i ln D5 Eo v).1.1=0:=by
    rcases R.jm h.wf i ln D5 Eo v with ⟨n,_,e⟩|⟨_,_,_,_,_,_,_,_,_,_,_,_,_,_,_,e⟩;all_goals grind
   refine(WW w p.x p.cs G.DI.length p.cap (p.cb i) i ln D5 Eo X (R.Gc G i ln D5 Eo v).1.2.toNat (λf=>∃wf j,DY w wf/\wf.heap.size=w.heap.size+2/\LW p j (R.Gc G i ln D5 Eo v).2 f/\D8 F j wf f) (EI h.bx 2) hi (h.lG hi) (λg m hz=>(y g m hz).mono ?_)).mono ?_
   ·all_goals grind [PY]
   ·rintro e g ⟨rfl,D,Q,B⟩;all_goals grind
  ·refine(lu w p.x p.cs G.DI.length p.cap (p.cb i) i ln D5 Eo X (R.Gc G i ln D5 Eo v).1.1 (R.Gc G i ln D5 Eo v).1.2 (λf=>∃wf j,DY w wf/\wf.heap.size=w.heap.size+2/\LW p j (R.Gc G i ln D5 Eo v).2 f/\D8 F j wf f) (EI h.bx 2) hi (h.lG hi) (λg m hz=>(y g m hz).mono ?_)).mono ?_
   ·all_goals grind [PY]
   ·rintro e g ⟨rfl,D,Q,B⟩;exact⟨rfl,fin g D Q B⟩
end Go.Proofs.YtblomippkddgiaaGreatDoor
