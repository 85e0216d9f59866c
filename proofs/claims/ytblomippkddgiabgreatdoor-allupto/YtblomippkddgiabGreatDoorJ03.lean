import Derived.Test.YtblomippkddgiabGreatDoorJ02
set_option maxRecDepth 100000
set_option maxHeartbeats 1000000
namespace Go.Proofs.YtblomippkddgiabGreatDoor
open Go.Proofs.Tryz RowKit
variable {E F F':D9}{w w':World}
namespace V
open ChangeShapes WideShapes ChangeAt
open Go.ChangeMaps (open_string shut_string)
variable {s:ByteArray}{hi' lo y0 y1:Int}{k0 k1 k2 ks:List Bool}{l qs:List Nat}{news:List UInt8}{B M M' b c c' c2 cap f k n o p q size yk yn:Nat}{g:Nat→Nat}{P:Program}{L O O' O1 O2 T c0 c1:Value}{w0 w1 w2:World}
theorem JP(w:Aa):D7 226 #[] w (.agg #[Z 4,Z 0]) (DY w):=by
 delta D7
 go_in
 go_wp2;exact Bm (v:=.agg #[Z 4,Z 0]) (by simp[results,results226,go_sem]) I ⟨I,F9⟩
def Wr(w:Aa)(b:Nat)(L O:Ad):Prop:=w.heap[b]?=some (.cells #[L,O] 300 (0,0))
theorem Wr.left(h:Wr w b L O):w.cell? (Y b 0)=L:=by grind [Wr,World.cell?]
theorem Wr.out(h:Wr w b L O):w.cell? (Y b 1)=O:=by grind [Wr,World.cell?]
theorem Wr.afd(h:Wr w b L O):DJ w b 0:=by grind [Wr,World.frozen?]
theorem Wr.aL(h:Wr w b L O):DJ w b 1:=by grind [Wr,World.frozen?]
theorem Wr.lt(h:Wr w b L O):b<w:=Dv h
theorem Wr.set0(h:Wr w b L O)(x:Ad):Wr (w.setCell (Y b 0) x) b x O:=by grind [Wr,World.setCell]
theorem Wr.set1(h:Wr w b L O)(x:Ad):Wr (w.setCell (Y b 1) x) b L x:=by
 unfold Wr at h ⊢;exact xw
theorem Wr.alloc(h:Wr w b L O)(o:Obj):Wr (w.alloc o) b L O:=by grind [Wr,Below.heap_alloc]
theorem Wr.other(h:Wr w b L O){a:Addr}(c:¬a.block=b)(x:Ad):Wr (w.setCell a x) b L O:=by grind [Wr,Below.heap_setCell]
theorem Wr.h(h:Wr w b L O)(a:DY w w'):Wr w' b L O:=by
 have hl:=h.lt;unfold Wr at h ⊢;rw[a.block b hl];exact h
theorem jM{a:Af}(h:Wr w b (.slice a 0 cap) O):
  ET 283 #[.pointer (Y b 0)] w λe d=>e=EQ 4 0/\DY w d:=by
 have f:=λo=>(h.alloc o).left
 clear h
 delta ET
 go_in
 go_wp2_with fail
 refine cm ((Dx JP) _) λg c=>?_
 go_wp2;exact⟨I,I,F9.trans (c.mono Ev)⟩
def Ku(l:Ac):List Value:=l.map λc=>Value.int .u8 c.toNat
theorem Qq{e:Ag}{v x:Ad}{xs:Ae}(h:w.ownsRow B e size v n xs)(hk:k<B):(w.setCell (Y k o) x).ownsRow B e size v n xs:=by
 exact abo
theorem QB(l:Ac):∀u∈Ku l,u.oneCell'=true:=by
 intro u hu;unfold Ku at hu;obtain⟨c,_,rfl⟩:=Cy.1 hu;rfl
structure WS(w0 w:Aa)(L:Ad)(v:List It)(O:Ad)(out:Ac):Prop where
 wr:Wr w w0.heap.size L O
 J:Ff w0 L v
 h:Below w0.heap.size w0 w
 own:w.ownsRow (w0.heap.size+1) 5 1 O out.length (Ku out)
structure Wk(b:Nat)(O O':Ad)(w w':Aa):Prop where
 size:w.heap.size<=w'.heap.size
 block:∀k,k<w.heap.size->k≠b->O.ownBlock≠some k->w'.heap[k]?=w.heap[k]?
 row:O'.ownBlock=O.ownBlock\/∃g,O'.ownBlock=some g/\w.heap.size<=g
theorem Wk.refl(b:Nat)(O:Ad)(w:Aa):Wk b O O w w:=by grind [Wk]
theorem Wk.trans(h:Wk b O O1 w w1)(k:Wk b O1 O2 w1 w2):Wk b O O2 w w2:=by
 have d:=h.size;refine⟨Br h.size k.size,λi hi a c=>?_,?_⟩;all_goals grind [Wk]
theorem Wk.of_below(h:DY w w'):Wk b O O w w':=⟨h.size,λk hk _ _=>h.block k hk,Aj rfl⟩
theorem Wk.cell(h:Wk b O O' w w')(hk:k<w)(a:k≠b)(c:O.ownBlock≠k):w'.cell? (Y k o)=w.cell? (Y k o):=by grind [Wk,World.cell?_of_block]
theorem WS.row{v:List It}{out:Ac}(h:WS w0 w L v O out)(hk:O.ownBlock=k):w0<k/\k<w:=by
 have:=h.own.lt k hk;omega
theorem WS.go{v:List It}{out:Ac}(h:WS w0 w L v O out)(a:DY w w'):WS w0 w' L v O out:=
 ⟨h.wr.h a,h.J,h.h.trans (a.mono h.h.size),ER h.own a⟩
theorem eF{x:It}{v:List It}(h:Ff w L (x :: v)):∃g off cap,L=.slice (Y g off) (v+1) cap/\v+1<=cap/\g<w/\EB w g off (Z x.1)/\EB w g (off+1) (.string x.2)/\Ff w (.slice (Y g (off+2)) v (cap-1)) v/\(cap=1->Ff w (.slice (Y g off) v 0) v):=by
 have⟨a,cap,c,hc,h⟩:=h;rcases h with h|⟨g,off,e,hl,d⟩
 .cases h
 .subst e;simp only[A4]at c hc;have b:=d 0 x I;refine⟨g,off,cap,c,hc,hl,by simpa using b.1,by simpa using b.2,⟨_,_,I,U,?_⟩,λf=>⟨_,_,I,U,Aj ?_⟩⟩
  .refine Am ⟨g,off+2,I,hl,λj y i=>?_⟩;have k:=d (j+1) y (by simpa using i)
   grind
  .exact BA U
theorem Ny(w0 w:Aa)(L O:Ad)(x:It)(v:List It)(out:Ac)(h:WS w0 w L (x :: v) O out)(hn:v.length<=9000000000000):
  D7 283 #[.pointer (EN w0 0)] w (.agg #[Z x.1,.string x.2]) λs=>∃d,WS w0 s d v O out/\Wk w0 O O w s:=by
 obtain⟨g,off,cap,rfl,hc,r,n,q,e,f⟩:=eF h.J;have u:=h.h.size;obtain⟨b,j⟩:∃b,b=w0.heap.size:=DR;have c:=h.wr;have y:=c.lt;have i:g<w.heap.size:=U;have e0:=λo=>(AR (w:=w) (a:=Y g off) (AL w o g i)).trans ((h.h.cell (p:=Y g off) r).trans n)
 have e1:=λo=>(AR (w:=w) (a:=(Y g (off+1))) (AL w o g i)).trans ((h.h.cell (p:=(Y g (off+1))) r).trans q)
 have B:=λo=>(c.alloc o).left
 have C:=λo=>(c.alloc o).afd
 have A:=Dx h;have z:¬w.heap.size=w0.heap.size:=U;have fin:∀d,Ff w0 d v->WS w0 (((w.setCell (EN w0 0) d).alloc (.cells #[Z x.1,.string x.2] 73)).alloc (.cells #[Z x.1,.string x.2] 73)) d v O out/\Wk w0.heap.size O O w (((w.setCell (EN w0 0) d).alloc (.cells #[Z x.1,.string x.2] 73)).alloc (.cells #[Z x.1,.string x.2] 73)):=by
  intro d hi;have t:DY w0 (w.setCell (EN w0 0) d):=h.h.setCell Ev _;refine⟨⟨((c.set0 d).alloc _).alloc _,hi,(t.alloc Fy _).alloc Fy _,((Qq h.own U).alloc _).alloc _⟩,⟨Fy,λk hk m _=>?_,Aj I⟩⟩;rw[AL _ _ _ Fy,AL _ _ _ Fy,AU _ _ _ _ (by simpa using m)]
 have FIN:=Dx fin;clear h c n q j fin;by_cases l:cap=1
 .subst l;obtain rfl:v=[]:=BA U;have it:=f I;clear e f;have HIT:=Dx it;clear it;exact aby
 .have HIT:=Dx e;clear e f;exact aby
theorem ky{v:List It}{out:Ac}{o:Obj}(h:WS w0 w L v O out)(d:w1.ownsRow (w0+1) 5 1 O1 (out+news) (Ku out++Ku news))(c:(w.alloc o).grownBy w1 O.ownBlock)(g:O1.ownBlock=O.ownBlock\/O1.ownBlock=(w.alloc o).heap.size):
  Wr w1 w0 L O/\WS w0 (w1.setCell (EN w0 1) O1) L v O1 (out++news)/\Wk w0 O O1 w (w1.setCell (EN w0 1) O1):=by
 have l:=h.wr.lt;have i:(w.alloc o).heap.size=w.heap.size+1:=Ev;have m:=c.size;have keep:∀k,k<w.heap.size->O.ownBlock≠some k->w1.heap[k]?=w.heap[k]?:=by
  intro k hk f;rw[c.block k U (λe=>f e.symm)];exact AL _ _ _ hk
 have a:∀k,O.ownBlock=some k->w0.heap.size<k:=λk hk=>(h.row hk).1
 have b:Wr w1 w0.heap.size L O:=by
  have:=h.wr;unfold Wr at this ⊢;all_goals grind
 refine⟨b,⟨b.set1 O1,h.J,?_,?_⟩,⟨Fy,λk hk j f=>?_,?_⟩⟩
 .exact((h.h.alloc U o).grown c U (λk hk=>by have:=a k hk;omega)).setCell Ev _
 all_goals grind [Qq,Ku,Below.heap_setCell]
theorem WS.drew{v:List It}{out:Ac}(h:WS w0 w L v O out):WS w0 w.drew L v O out:=⟨h.wr,h.J,h.h.drew,h.own⟩
theorem Rz(w0 w:Aa)(L O:Ad)(v:List It)(out:Ac)n(h:WS w0 w L v O out)(J:out.length<=1000000):
  ET 202 #[O,Z n] w λe A=>∃a k c,e=.returned (.slice a k c)/\Wr A w0 L O/\WS w0 (A.setCell (EN w0 1) (.slice a k c)) L v (.slice a k c) (out++EU n)/\Wk w0 O (.slice a k c) w (A.setCell (EN w0 1) (.slice a k c)):=by
 have H:=h.wr.lt;have how:=h.own;have C:=Dx h;have D:Hid (∀(j:Nat) (u:Ad),(Ku (EU n))[j]?=some u->(w.alloc (.cells #[.int .u8 (IntKind.u16.wrap n / 256 % 256),.int .u8 (IntKind.u16.wrap n % 256)] 5)).cell? (((EN w 0):Addr).add j)=some u):=by
  intro j u f;rw[wrap_u16];unfold Ku EU at f;match j,f with
  |0,f=>
   simp at f;rw[FP U U]at f;subst f;rw[show n % 65536 / 256 % 256=n % 65536 / 256 by omega];simp[Addr.add,go_sem]
  |1,f=>
   simp at f;rw[FP U U]at f;subst f;rw[show n % 65536 % 256=n % 256 by omega];simp[Addr.add,go_sem]
 obtain⟨Q,B,G⟩:∃a c,O=.slice a out.length c:=by
  rcases how.2 with ⟨t,F⟩|⟨g,cap,E,t,_⟩
  .exact⟨none,0,by rw[t,F]⟩
  .exact⟨_,_,t⟩
 subst G;clear h;have⟨i0,hi,x,y,z⟩:=A1 info5
 delta ET
 go_in
 go_wp2_with (at_builtin;refine AQ _ I (.tmp 8) (.tmp 14) 281 I (w0.heap.size+1) 5 i0 (.int .u8 0) 1 1 underlying281 hi x y z I Em _ out.length (Ku out) I (by exact how.alloc _) (EN w 0) 2 2 (Ku (EU n)) I I D (by exact QB _) JG U Fy ?_)
 intro P S d b _ i;have⟨K,N,M,s⟩:=Ei d;subst s;have⟨m,o,l⟩:=ky C d b (by simpa using i);have⟨q,r,p⟩:=Ll m o l;clear d b i m o l how;go_wp2
 go_ret
 exact⟨_,_,_,I,q,r,p⟩
theorem Zs{out:Ac}(h:WS w0 w L [] O out):
  ET 281 #[.pointer (EN w0 0),Z lo,Z hi'] w λe c=>e=EQ 4 0/\DY w0 c:=by
 have⟨a,cap,b,_,_⟩:=h.J;subst b;have H1:=Dx (jM h.wr);have hb:=h.h;clear h
 delta ET
 go_in
 exact acf
theorem Zo{x:It}{v:List It}{out:Ac}(h:WS w0 w L (x :: v) O out)(hn:v.length<=9000000000000)(a:¬x.2.toList=[]):
  ET 281 #[.pointer (EN w0 0),Z lo,Z hi'] w λe b=>e=EQ 4 0/\DY w0 b:=by
 have⟨H1,HN⟩:=FU (Ny w0 w L O x v out h hn) JP;clear h;have⟨N,S⟩:=x;simp only at H1 a
 delta ET
 go_in
 exact xg
theorem Zp{x:It}{v:List It}{out:Ac}(h:WS w0 w L (x :: v) O out)(hn:v.length<=9000000000000)(a:x.2.toList=[])(hl:x.1<lo):
  ET 281 #[.pointer (EN w0 0),Z lo,Z hi'] w λe b=>e=EQ 4 0/\DY w0 b:=by
 have⟨H1,HN⟩:=FU (Ny w0 w L O x v out h hn) JP;clear h;have⟨N,S⟩:=x;simp only at H1 a hl
 delta ET
 go_in
 exact xg
theorem Zr{x:It}{v:List It}{out:Ac}(h:WS w0 w L (x :: v) O out)(hn:v.length<=9000000000000)(a:x.2.toList=[])(hl:¬x.1<lo)(b:hi'<x.1):
  ET 281 #[.pointer (EN w0 0),Z lo,Z hi'] w λe c=>e=EQ 4 0/\DY w0 c:=by
 have⟨H1,HN⟩:=FU (Ny w0 w L O x v out h hn) JP;clear h;have⟨N,S⟩:=x;simp only at H1 a hl b
 delta ET
 go_in
 exact xg
theorem mK{x:It}{v:List It}{out:Ac}(h:WS w0 w L (x :: v) O out)(hn:v.length<=9000000000000)(C:x.2.toList=[])(hl:¬x.1<lo)(E:¬hi'<x.1)(o:out.length<=1000000):
  D7 281 #[.pointer (EN w0 0),Z lo,Z hi'] w (Z x.1) λz=>∃k r,WS w0 z k v r (out++EU x.1)/\Wk w0 O r w z:=by
 have q:=Dx (Ny w0 w L O x v out h hn);clear h;have⟨N,S⟩:=x;simp only at q C hl E ⊢
 delta D7
 go_in
 go_wp2_with fail
 refine cm q ?_;rintro g ⟨k,d,j⟩;have a:=d.go ((AA g.heap.size g).alloc (Ar _) (.cells #[Z N,.string S] 73));have B:=Dx (Rz w0 _ k O v out N a.drew o);have i:O.ownBlock≠some g.heap.size:=λe=>by have:=(d.row e).2;omega
 have D:=d.wr.lt;have s:=a.wr.out;have n:=Dx j;have⟨H,sn,J,p⟩:=Ei a.own;subst p;clear d j a;go_wp2_with fail
 go_region_with ((go_at_call 202;refine B.mono ?_;rintro e A ⟨t,y,u,rfl,c,f,b⟩;have F:=c.out;have G:=c.aL))
 all_goals
  have c0:(A.setCell (EN w0 1) (.slice t y u)).cell? (EN g 0)=some (Z N):=(b.cell Ev U i).trans Vb;have m:=Dx f;have l:=Dx (n.trans ((Wk.of_below (((AA g.heap.size g).alloc (Ar _) (.cells #[Z N,.string S] 73)).drew)).trans b));clear f b c F G;generalize A.setCell (EN w0 1) (.slice t y u)=W3 at *;go_wp2
  go_ret
  exact⟨I,k,_,m,l⟩
theorem oU(S:Ab):Lib.strCells S=Ku S.data.toList:=by
 unfold Lib.strCells Ku;rfl
theorem gK(w:Aa)(base:Nat)(t u ty e:Ag)(i:TypeInfo)(q:P.underlying t=some (.slice e))(hu:P.underlying u=some .string)(hi:P.info? e=i)(hz:i.zero=some (.int .u8 0))
  (a:i.size=1) (k:i.bytes=1) (v:Ad) (n:Nat) (xs:Ae) (b:w.ownsRow base e 1 v n xs) (hn:1<=n) (s:Ab) (F:n+s<=100000000) (d:base<=w):
  ∃h l,(Builtin.append_ #[t,u] ty #[v,.string s]).run P w=.ok h l/\l.ownsRow base e 1 h (n+s) (xs++Lib.strCells s)/\w.grownBy l v.ownBlock/\(h.ownBlock=v.ownBlock\/h.ownBlock=w.heap.size):=by
 have⟨h,l,p,z,A,H⟩:=Lib.run_append_own_string (P:=P) w base t u ty e i q hu hi hz a k v n xs b s JG U d;refine⟨h,l,p,z,A,?_⟩;have x:xs.length=n:=by simpa using b.1
 have m:=λg=>b.cells (g:=g)
 rcases b.2 with ⟨_,G⟩|⟨g,cap,j,rfl,B,D,E,C,o,r⟩
 .omega
 .by_cases f:n+s.size<=cap
  .have y:j.size=cap:=by simpa using o
   have c:=Lib.run_append_room_string (P:=P) w t u ty e i q hu hi a g n cap j D s f U;rw[p]at c;cases c;exact Aj I
  .have c:=Lib.run_append_grow_string (P:=P) w t u ty e i (.int .u8 0) q hu hi hz (Y g 0) n cap xs (by rw[a];simpa using x) (m g I) s U U (by rw[k];exact growslice_fits U U);rw[p]at c;cases c;exact Am I
theorem Sl{g:Array Oper}{o:Oper}{a:Act}{K:Act->World->Prop}{Q:Exit->Act->World->Prop}{E:Prop}
  (l:o.guard=none) (sl x:Operand) (t u:Ag) (y:o.op=.call {callee:=.builtin .append,args:=#[sl,x],argTypes:=#[t,u]})
  (base:Nat) (e:Ag) (i:TypeInfo) (B:P.underlying t=some (.slice e)) (hu:P.underlying u=some .string) (hi:P.info? e=i) (hz:i.zero=some (.int .u8 0))
  (c:i.size=1) (k:i.bytes=1) (v:Ad) (n:Nat) (xs:Ae) (A:a.eval sl=v) (f:w.ownsRow base e 1 v n xs) (hn:1<=n) (s:Ab) (D:a.eval x=.string s) (m:n+s<=100000000) (b:base<=w)
  (h:∀d j,j.ownsRow base e 1 d (n+s) (xs++Lib.strCells s)->w.grownBy j v.ownBlock->(d.ownBlock=v.ownBlock\/d.ownBlock=some w.heap.size)->K (a.put o.dst d) j):
  if Region.wanted o (yielded g a.tmps)=true then Oper.wp P o a w K Q else E:=by
 have C:Region.wanted o (yielded g a.tmps)=true:=by simp[Region.wanted,l]
 rw[Ay C];have⟨d,j,z,p,q,r⟩:=gK (P:=P) w base t u o.type e i B hu hi hz c k v n xs f hn s m b;unfold Oper.wp;simp[execOp,y,resolve,invoke,builtin,A,D,z,Result.andThen];exact h d j p q r
theorem xV{v:List It}{out:Ac}(h:WS w0 w L v O out)(d:w1.ownsRow (w0+1) 5 1 O1 (out+news) (Ku out++Ku news))(c:w.grownBy w1 O.ownBlock)(g:O1.ownBlock=O.ownBlock\/O1.ownBlock=w.heap.size):
  Wr w1 w0 L O/\WS w0 (w1.setCell (EN w0 1) O1) L v O1 (out++news)/\Wk w0 O O1 w (w1.setCell (EN w0 1) O1):=by
 have j:=h.wr.lt;have l:=c.size;have keep:∀k,k<w.heap.size->O.ownBlock≠some k->w1.heap[k]?=w.heap[k]?:=λk hk f=>c.block k hk (λe=>f e.symm)
 have a:∀k,O.ownBlock=some k->w0.heap.size<k:=λk hk=>(h.row hk).1
 have b:Wr w1 w0.heap.size L O:=by
  have:=h.wr;unfold Wr at this ⊢;all_goals grind
 refine⟨b,⟨b.set1 O1,h.J,?_,?_⟩,⟨Fy,λk hk i f=>?_,?_⟩⟩
 .exact(h.h.grown c U (λk hk=>by have:=a k hk;omega)).setCell Ev _
 all_goals grind [Qq,Ku,Below.heap_setCell]
theorem M2(n:Nat)(w:Aa)(hn:n<=14):D7 284 #[Z n] w (.bool (n % 2==1)) λa=>a=w:=by
 have e:((n % 2==1:Bool))=(((n:Int) % 2==1:Bool)):=by
  rw[BH];simp;omega
 rw[e]
 delta D7
 go_in
 go_wp2
 go_ret
 exact DN
theorem aav{x:It}{v:List It}{out:Ac}(h:WS w0 w L (x :: v) O out)(hn:v.length<=9000000000000)(hN:x.1=0)(hS:x.2.size<=14)(an:out.length<=1000000):
  D7 282 #[.pointer (EN w0 0)] w Ep λw'=>∃Q O',WS w0 w' Q v O' (out++KL true x)/\Wk w0 O O' w w':=by
 have H1:=Dx (Ny w0 w L O x v out h hn);clear h;have⟨N,S⟩:=x;simp only at H1 hS hN ⊢;subst hN;have aN:¬(14:Int)<(S.size:Int):=U;have y:=Dx (λw=>M2 S.size w hS);have u:Hid (KL true (0,S)=EU (S.size:Int)++(S.data.toList++(if S.size % 2=1 then [0] else []))):=rfl
 delta D7
 go_in
 go_wp2_with fail
 refine(Dw H1).mono ?_;rintro e E ⟨rfl,Q,A,ab⟩;have j:=A.go ((AA E.heap.size E).alloc (Ar _) (.cells #[Z 0,.string S] 73));have H2:=Dx (Rz w0 _ Q O v out (S.size:Int) j.drew an);have q:O.ownBlock≠some E.heap.size:=λe=>by have:=(A.row e).2;omega
 have aV:=A.wr.lt;have aa:=j.wr.out;have P:=Dx ab;have⟨sa,sn,sc,ao⟩:=Ei j.own;subst ao;clear A ab j;go_wp2_with fail
 go_region_with ((go_at_call 202;refine(Dw H2).mono ?_;rintro e w2 ⟨ta,tn,tc,rfl,s,k,b⟩;have t1:=s.out;have t2:=s.aL))
 all_goals
  clear s t1 t2;generalize w2.setCell (EN w0 1) (.slice ta tn tc)=W2 at *;have c1:W2.cell? (EN E 1)=some (.string S):=(b.cell Ev U q).trans Vb;have W:E.heap.size<W2.heap.size:=by have:=b.size;simp at this;omega
  have p:(Value.slice ta tn tc).ownBlock≠some E.heap.size:=by
   intro e;rcases b.row with h|⟨g,h,hg⟩
   .exact q (h.symm.trans e)
   .rw[e]at h;cases h;simp at hg;omega
  have K:=Dx ((Dw P).trans ((Wk.of_below (((AA E.heap.size E).alloc (Ar _) (.cells #[Z 0,.string S] 73)).drew)).trans b));have al:=k.wr.out;have F:=Dx k;have av:=k.wr.lt;have am:(EU (S.size:Int)).length=2:=rfl;have⟨i0,hi,ac,ad,ae⟩:=A1 info5;clear k b H2 H1 P aa;go_wp2_with fail
  go_region_law (refine Sl I (.tmp 31) (.tmp 33) 281 9 I (w0.heap.size+1) 5 i0 underlying281 underlying9 hi ac ad ae _ (out++EU (S.size:Int)).length (Ku (out++EU (S.size:Int))) I (by exact(Dw F).own) Fy S I (by rw[AJ];omega) (by exact av) ?_;intro v' wz n m T;have⟨va,vn,vc,ar⟩:=Ei n;subst ar;have G:=xV (news:=S.data.toList) (Dw F).drew (by rw[<-oU];simpa using n) m T;have⟨H,c,r⟩:=G;have k1:=H.out;have k2:=H.aL)
  all_goals
   have d1:=(r.cell (o:=1) (by exact W) U p).trans c1;have z:=Dx c;have M:=Dx ((Dw K).trans ((Wk.of_below ((AA W2.heap.size W2).drew)).trans r));have o4:=c.wr.out;have z4:=c.wr.aL;have l4:=c.wr.lt;clear H c r k1 k2 n m T F K c1 al W p q;generalize wz.setCell {block:=w0.heap.size,off:=1} (Value.slice va vn vc)=W4 at *;by_cases a:S.size % 2=1
   .have X:(S.size % 2==1)=true:=by simp[a]
    rw[X]at y;rw[Ay a]at u;clear a X;obtain⟨l,f⟩:∃l,l=out++EU (S.size:Int)++S.data.toList:=DR;have aS:l.length<=1000100:=by
     have e2:S.data.toList.length=S.size:=BO;rw[f,AJ,AJ,am,e2];omega
    rw[<-f]at z;have J:=Dx f;clear f;go_wp2_with fail
    refine((Dw y) _).mono ?_;rintro e w5 ⟨rfl,rfl⟩;go_wp2_with (at_builtin;refine AQ _ I (.tmp 45) (.tmp 46) 281 I (w0.heap.size+1) 5 i0 (.int .u8 0) 1 1 underlying281 hi ac ad ae I Em _ l.length (Ku l) I (by exact(Dw z).own.alloc _) (EN w5 0) 1 1 (Ku [0]) I I (by exact cell_one_new _ _ _) (by exact QB _) JG U Fy ?_)
    intro O5 w6 d i _ B;have⟨ta,tn,tc,aq⟩:=Ei d;subst aq;have⟨t,D,C⟩:=ky (news:=[0]) (Dw z) d i (by simpa using B);have k1:=t.out;have k2:=t.aL;have⟨ak,ah⟩:=FU D ((Dw M).trans C);clear d i B t D C;go_wp2
    go_end0
    refine⟨I,Q,_,?_,Dw ah⟩;rw[Dw u,<-Bs,<-Bs,<-Dw J];exact Dw ak
   .have X:(S.size % 2==1)=false:=by simp[a]
    rw[X]at y;rw[Ao a,Cb]at u;clear a X;go_wp2_with fail
    refine((Dw y) _).mono ?_;rintro e w5 ⟨rfl,rfl⟩;go_wp2
    go_end0
    refine⟨I,Q,_,?_,Dw M⟩;rw[Dw u,<-Bs];exact Dw z
theorem o8{out:Ac}(h:WS w0 w L [] O out):
  ET 282 #[.pointer (EN w0 0)] w λe c=>e=EQ 4 0/\DY w0 c:=by
 have⟨a,cap,b,_,_⟩:=h.J;subst b;have H1:=Dx (jM h.wr);have hb:=h.h;clear h
 delta ET
 go_in
 exact acf
theorem oZ{x:It}{v:List It}{out:Ac}(h:WS w0 w L (x :: v) O out)(hn:v.length<=9000000000000)(a:(x.1 != 0)=true):
  ET 282 #[.pointer (EN w0 0)] w λe b=>e=EQ 4 0/\DY w0 b:=by
 have⟨H1,HN⟩:=FU (Ny w0 w L O x v out h hn) JP;clear h;have⟨N,S⟩:=x;simp only at H1 a
 delta ET
 go_in
 exact xg
theorem o7{x:It}{v:List It}{out:Ac}(h:WS w0 w L (x :: v) O out)(hn:v.length<=9000000000000)(a:(x.1 != 0)=false)(b:14<(x.2:Int)):
  ET 282 #[.pointer (EN w0 0)] w λe c=>e=EQ 4 0/\DY w0 c:=by
 have⟨H1,HN⟩:=FU (Ny w0 w L O x v out h hn) JP;clear h;have⟨N,S⟩:=x;simp only at H1 a b
 delta ET
 go_in
 exact xg
abbrev Gb(c:Int)(x1:Int)(a:Af)(n k:Nat):Obj:=.cells #[.int .u8 c,Z x1,.slice a n k] 262
def SE(er:Nat)(A B:World->Prop)(e:Ending)(w:Aa):Prop:=(e=EQ er 0/\A w)\/(e=.returned Ep/\B w)
def xY(er:Nat)(A:World->Prop)(B:Int->World->Prop)(e:Ending)(w:Aa):Prop:=(e=EQ er 0/\A w)\/∃i,e=.returned (Z i)/\B i w
def bJ (tid fn : Nat) (ptr : Addr) : Prop := (∀ w, (method 463 tid (.pointer (some ptr)) "errand/value.number").run prog w = .ok (fn, .pointer (some ptr)) w) ∧ ∀ args w, (callFunc fn args).run prog w = .ok (.enter fn args) w
def aej (tid fn : Nat) (ptr : Addr) : Prop := (∀ w, (method 463 tid (.pointer (some ptr)) "errand/value.text").run prog w = .ok (fn, .pointer (some ptr)) w) ∧ ∀ args w, (callFunc fn args).run prog w = .ok (.enter fn args) w
theorem ad3(tid fn er:Nat)(ptr:Addr)(hm:bJ tid fn ptr)(w:Aa)x1(a0:Af)(n0 k0:Nat)(A:World->Prop)(B:Int->World->Prop)
  (HN:ET fn #[.pointer (ptr),Z 0,Z 1] (w.alloc (Gb 98 x1 a0 n0 k0)) (xY er A B)):
  ET 225 #[.agg #[.int .u8 98,Z x1,.slice a0 n0 k0],.iface tid (.pointer (ptr))] w (SE er A λa=>∃i,B i a):=by
 exact aaB
theorem ad4(tid fn er:Nat)(ptr:Addr)(hm:bJ tid fn ptr)(w:Aa)x1(a0:Af)(n0 k0:Nat)(A:World->Prop)(B:Int->World->Prop)
  (HN:ET fn #[.pointer (ptr),Z 0,Z 65535] (w.alloc (Gb 99 x1 a0 n0 k0)) (xY er A B)):
  ET 225 #[.agg #[.int .u8 99,Z x1,.slice a0 n0 k0],.iface tid (.pointer (ptr))] w (SE er A λa=>∃i,B i a):=by
 exact aaB
theorem ad6(tid fn er:Nat)(ptr:Addr)(hm:bJ tid fn ptr)(w:Aa)x1(a0:Af)(n0 k0:Nat)(A:World->Prop)(B:Int->World->Prop)
  (HN:ET fn #[.pointer (ptr),Z (-32768),Z 32767] (w.alloc (Gb 105 x1 a0 n0 k0)) (xY er A B)):
  ET 225 #[.agg #[.int .u8 105,Z x1,.slice a0 n0 k0],.iface tid (.pointer (ptr))] w (SE er A λa=>∃i,B i a):=by
 exact aaB
theorem ad5(tid fn er:Nat)(ptr:Addr)(hm:bJ tid fn ptr)(w:Aa)x1(a0:Af)(n0 k0:Nat)(A:World->Prop)(B:Int->World->Prop)(b:0<=x1/\x1<=9)
  (HN:ET fn #[.pointer (ptr),Z 0,Z (x1-1)] (w.alloc (Gb 101 x1 a0 n0 k0)) (xY er A B)):
  ET 225 #[.agg #[.int .u8 101,Z x1,.slice a0 n0 k0],.iface tid (.pointer (ptr))] w (SE er A λa=>∃i,B i a):=by
 exact aaB
theorem ad9(tid fn er:Nat)(ptr:Addr)(d:aej tid fn ptr)(w:Aa)x1(a0:Af)(n0 k0:Nat)(A B:World->Prop)
  (b:ET fn #[.pointer (ptr)] (w.alloc (Gb 115 x1 a0 n0 k0)) (SE er A B)):
  ET 225 #[.agg #[.int .u8 115,Z x1,.slice a0 n0 k0],.iface tid (.pointer (ptr))] w (SE er A B):=by
 have⟨f,g⟩:=d;have a:=Dx b;clear b
 delta ET
 go_in
 go_wp2_with fail
 refine a.mono ?_;rintro e h (⟨rfl,c⟩|⟨rfl,hB⟩)
 .go_wp2;exact⟨I,Aj ⟨I,c⟩⟩
 .go_wp2
  go_end0
  exact Am ⟨I,hB⟩
theorem ad2(tid er:Nat)(ptr:Addr)(w:Aa)x1(g n0 k0:Nat)(c d:Int)(f:Af)(i h:Nat)(A B:World->Prop)(hn:0<n0)
  (k:∀o,(w.alloc o).cell? (Y g 0)=some (.int .u8 c)) (l:∀o,(w.alloc o).cell? (Y g 1)=Z d) (m:∀o,(w.alloc o).cell? (Y g 2)=some (.slice f i h))
  (b:ET 256 #[Z x1,.agg #[.int .u8 c,Z d,.slice f i h],.iface tid (.pointer (ptr))] (w.alloc (Gb 97 x1 (Y g 0) n0 k0)).drew (SE er A B)):
  ET 225 #[.agg #[.int .u8 97,Z x1,EJ g n0 k0],.iface tid (.pointer (ptr))] w (SE er A B):=by
 have a:=Dx b;clear b
 delta ET
 go_in
 go_wp2_with fail
 go_region_with (go_at_call 256;refine a.mono ?_;rintro e n (⟨rfl,j⟩|⟨rfl,hB⟩);focus (go_wp2;exact⟨rfl,Aj ⟨rfl,j⟩⟩))
 all_goals
  go_wp2
  go_end0
  exact Am ⟨I,hB⟩
theorem ad7(tid fn er:Nat)(ptr:Addr)(n:bJ tid fn ptr)(w:Aa)x1(g n0 k0:Nat)(h j:Int)(k:Af)(m l:Nat)(A B:World->Prop)(N:Int->World->Prop)(hn:0<n0)
  (d:ET fn #[.pointer (ptr),Z 0,Z x1] (w.alloc (Gb 113 x1 (Y g 0) n0 k0)) (xY er A N))
  (f:∀i a,N i a->Kk a w 2 (EJ g n0 k0)/\EB a g 0 (.int .u8 h)/\EB a g 1 (Z j)/\EB a g 2 (.slice k m l) /\
   ET 256 #[Z i,.agg #[.int .u8 h,Z j,.slice k m l],.iface tid (.pointer (ptr))] a (SE er A B)):
  ET 225 #[.agg #[.int .u8 113,Z x1,EJ g n0 k0],.iface tid (.pointer (ptr))] w (SE er A B):=by
 have⟨o,p⟩:=n;have⟨b,c⟩:=FU d f;clear d f
 delta ET
 go_in
 go_wp2_with fail
 refine b.mono ?_;rintro e q (⟨rfl,hA⟩|⟨i,rfl,hB⟩)
 .go_wp2;exact⟨I,Aj ⟨I,hA⟩⟩
 .have⟨r,s,t,u,hT⟩:=c i q hB;exact afS
theorem aea(tid fn er:Nat)(ptr:Addr)(o:bJ tid fn ptr)(w:Aa)x1(g n0 k0:Nat)(A B:World->Prop)(N:Nat->World->Prop)(hn:n0<=6)
  (m:ET fn #[.pointer (ptr),Z 0,Z (n0-1)] (w.alloc (Gb 117 x1 (Y g 0) n0 k0)) (xY er A λi a=>∃j:Nat,i=j/\j<n0/\N j a))
  (n:∀j a,N j a->∃d f h l k,Kk a w 2 (EJ g n0 k0)/\EB a g (j*3) (.int .u8 d)/\EB a g (j*3+1) (Z f)/\EB a g (j*3+2) (.slice h l k) /\
   ET 225 #[.agg #[.int .u8 d,Z f,.slice h l k],.iface tid (.pointer (ptr))] a (SE er A B)):
  ET 225 #[.agg #[.int .u8 117,Z x1,EJ g n0 k0],.iface tid (.pointer (ptr))] w (SE er A B):=by
 have⟨p,q⟩:=o;have⟨b,c⟩:=FU m n;clear m n
 delta ET
 go_in
 go_wp2_with fail
 refine b.mono ?_;rintro e r (⟨rfl,hA⟩|⟨i,rfl,j,rfl,x,hB⟩)
 .go_wp2;exact⟨I,Aj ⟨I,hA⟩⟩
 .have⟨d,f,h,l,k,s,t,u,v,hT⟩:=c j r hB;exact afS
theorem ad8(tid er:Nat)(ptr:Addr)(w:Aa)x1(o:Af)(n0 k0:Nat)(A:World->Prop)(a:Nat->World->Prop)(hn:n0<=6)(p:a 0 (w.alloc (Gb 114 x1 o n0 k0)))
  (q:∀j b,j<n0->a j b->∃g c d f l h,o=Y g 0/\EB b g (j*3) (.int .u8 c)/\EB b g (j*3+1) (Z d)/\EB b g (j*3+2) (.slice f l h) /\
   ET 225 #[.agg #[.int .u8 c,Z d,.slice f l h],.iface tid (.pointer (ptr))] (b.alloc (.cells #[.int .u8 c,Z d,.slice f l h] 262)) (SE er A (a (j+1)))):
  ET 225 #[.agg #[.int .u8 114,Z x1,.slice o n0 k0],.iface tid (.pointer (ptr))] w (SE er A (a n0)):=by
 have⟨r,m⟩:=FU p q;clear p q
 delta ET
 go_in
 go_wp2;go_loopw [61] (λi wr=>∃k:Nat,k<=n0/\i=Z k/\a k wr) (λi _=>n0-(intOf i).toNat)
 case atStart=>exact⟨0,AV _,I,r⟩
 case round=>
  obtain⟨k,hk,rfl,hIk⟩:=hrel;by_cases n:k<n0
  .obtain⟨g,c,d,f,l,h,rfl,f0,f1,f2,hT⟩:=m k wr n hIk;exact afF
  .obtain rfl:k=n0:=U;have HB:=Dx hIk;clear hIk;go_wp2
   go_end0
   exact Am ⟨I,HB⟩
theorem iP(tid er:Nat)(ptr:Addr)(w:Aa)(c d:Int)(f:Af)(h g n:Nat)(A:World->Prop)(a:Nat->World->Prop)(hn:n<=9)(o:a 0 (w.alloc (.cells #[.int .u8 c,Z d,.slice f h g] 262)))
  (p:∀j b,j<n->a j b->Kk b w 0 (.int .u8 c)/\Kk b w 1 (Z d)/\Kk b w 2 (.slice f h g) /\
   ET 225 #[.agg #[.int .u8 c,Z d,.slice f h g],.iface tid (.pointer (ptr))] b (SE er A (a (j+1)))):
  ET 256 #[Z n,.agg #[.int .u8 c,Z d,.slice f h g],.iface tid (.pointer (ptr))] w (SE er A (a n)):=by
 have⟨q,l⟩:=FU o p;clear o p
 delta ET
 go_in
 go_wp2;go_loopw [7] (λi wr=>∃k:Nat,k<=n/\i=Z k/\a k wr) (λi _=>n-(intOf i).toNat)
 case atStart=>exact⟨0,AV _,I,q⟩
 case round=>
  obtain⟨k,hk,rfl,hIk⟩:=hrel;by_cases m:k<n
  .have⟨f0,f1,f2,hT⟩:=l k wr m hIk;exact afF
  .obtain rfl:k=n:=U;have HB:=Dx hIk;clear hIk;go_wp2
   go_end0
   exact Am ⟨I,HB⟩
structure Kept(O O':Nat->Prop)(w w':Aa):Prop where
 size:w.heap.size<=w'.heap.size
 block:∀k,k<w.heap.size->¬O k->w'.heap[k]?=w.heap[k]?
 row:∀k,O' k->O k\/w.heap.size<=k
theorem Kept.refl(O:Nat->Prop)(w:Aa):Kept O O w w:=⟨Ar _,λ_ _ _=>rfl,λ_ h=>Aj h⟩
theorem Kept.trans{O a b:Nat->Prop}(h:Kept O a w w1)(k:Kept a b w1 w2):Kept O b w w2:=by grind [Kept]
theorem Kept.of_below{O:Nat->Prop}(h:DY w w'):Kept O O w w':=⟨h.size,λk hk _=>h.block k hk,λ_ h=>Aj h⟩
theorem Kept.cell{O a:Nat->Prop}(h:Kept O a w w')(hk:k<w)(b:¬O k):w'.cell? (Y k o)=w.cell? (Y k o):=by grind [Kept,World.cell?_of_block]
structure GX(σ:Type) where
 tid:Nat
 b:Nat
 c:Nat
 er:Nat
 ptr:Addr
 w0:World
 St:World->Nat->σ->(Nat->Prop)->Prop
 num:Int->Int->σ->Option (Int×σ)
 a:σ->Option σ
variable {σ:Type}
abbrev GX.Iq(C:GX σ):Value:=.iface C.tid (.pointer (C.ptr))
def GX.Lv(C:GX σ)(O:Nat->Prop)(c:Nat)(x':σ)(w w':Aa):Prop:=∃c' O',c'<=c/\C.St w' c' x' O'/\Kept O O' w w'
def GX.No(C:GX σ)(P:Prop)(w':Aa):Prop:=P/\Below C.w0 C.w0 w'
structure PS(C:GX σ):Prop where
 h:∀{w c x O},C.St w c x O->Below C.w0.heap.size C.w0 w
 fresh:∀{w c x O},C.St w c x O->∀k,O k->C.w0.heap.size<=k/\k<w.heap.size
 go:∀{w c x O w'},C.St w c x O->Below w.heap.size w w'->C.St w' c x O
 range:∀{lo hi x n x'},C.num lo hi x=some (n,x')->lo<=n/\n<=hi
 a:bJ C.tid C.b C.ptr
 b:aej C.tid C.c C.ptr
 number:∀{w c x O} (lo hi:Int),C.St w c x O->c<=40000->(lo=0/\hi<=65535\/lo=-32768/\hi=32767)->Calls prog C.b #[.pointer (some C.ptr),Z lo,Z hi] w
  (xY C.er (C.No (C.num lo hi x=none)) (λi w'=>∃x',C.num lo hi x=some (i,x')/\C.Lv O (c+1) x' w w'))
 text:∀{w c x O},C.St w c x O->c<=40000->Calls prog C.c #[.pointer (some C.ptr)] w
  (SE C.er (C.No (C.a x=none)) (λw'=>∃x',C.a x=some x'/\C.Lv O (c+1) x' w w'))
def Ml(C:GX σ)(r:Option σ)(O:Nat->Prop)(c:Nat)(w:Aa):Ending->World->Prop:=
 SE C.er (C.No (r=none)) (λw'=>∃x',r=some x'/\C.Lv O c x' w w')
def kD(C:GX σ)(T:Ad)(E:σ->Option σ)(M:Nat):Prop:=∀w c x O,C.St w c x O->c+M<=40000->Calls prog 225 #[T,C.Iq] w (Ml C (E x) O (c+M) w)
theorem kD.mono{C:GX σ}{E:σ->Option σ}(h:kD C T E M)(k:M<=M'):kD C T E M':=by
 intro w c x O g hc;refine(h w c x O g U).mono ?_;rintro e l (h|⟨rfl,j,i,b,a,f,d⟩)
 .exact Aj h
 .exact Am ⟨I,j,i,b,a,U,d⟩
def Gt(E:Nat->σ->Option σ):List Nat->σ->Option σ
 |[],x=>some x
 |q :: qs,x=>(E q x).bind (Gt E qs)
theorem RX(E:Nat->σ->Option σ):∀(a b:List Nat) (x:σ),Gt E (a++b) x=(Gt E a x).bind (Gt E b):=by
 intro a;induction a with
 |nil=>intro b x;rfl
 |cons q a ih=>
  intro b x;simp only[BB,Gt];cases E q x with
  |none=>rfl
  |some y=>exact ih b y
theorem Wj{E:Nat->σ->Option σ}(h:qs[k]?=q)(x:σ):Gt E (qs.take (k+1)) x=(Gt E (qs.take k) x).bind (E q):=by
 rw[Bh,h,RX];congr 1;funext y;simp only[Cm,Gt];cases E q y<;>rfl
theorem Wi{E:Nat->σ->Option σ}{x:σ}(h:Gt E (qs.take k) x=none):Gt E qs x=none:=by grind [List.take_append_drop,RX]
def Es(num:Int->Int->σ->Option (Int×σ))(IE:σ->Option σ)(g:Nat->Nat):Nat->Nat->σ->Option σ
 |0,_,_=>none
 |f+1,p,x=>
  if g p=115 then IE x
  else if g p=97 then Gt (Es num IE g f) (List.replicate (g (p+1)-48) (p+2)) x
  else if g p=114 then Gt (Es num IE g f) (Pt.EW g f p) x
  else (num (FZ (g p)) (FD g f p) x).bind λr=>
   if g p=117 then Es num IE g f (Gj (Pt.EW g f p) r.1) r.2
   else if g p=113 then Gt (Es num IE g f) (List.replicate r.1.toNat (p+2)) r.2
   else some r.2
structure Kw(C:GX σ)(E:Nat->σ->Option σ)(qs:List Nat)(x:σ)(c M:Nat)(O:Nat->Prop)(w:Aa)(k:Nat)(w':Aa)(xk:σ)(c':Nat)(O':Nat->Prop):Prop where
 a:Gt E (qs.take k) x=some xk
 le:c'<=c+k*M
 st:C.St w' c' xk O'
 kept:Kept O O' w w'
def acI(C:GX σ)(E:Nat->σ->Option σ)(qs:List Nat)(x:σ)(c M:Nat)(O:Nat->Prop)(w:Aa)(k:Nat)(w':Aa):Prop:=∃xk c' O',Kw C E qs x c M O w k w' xk c' O'
theorem YP{C:GX σ}{E:Nat->σ->Option σ}{x:σ}{O:Nat->Prop}{g:σ}{a:Nat->Prop}(h:Kw C E qs x c M O w k w' g c' a)(n:qs[k]?=q)(l:Kept a a w' w1):
  ∀e f,Ml C (E q g) a (c'+M) w1 e f->SE C.er (C.No (Gt E qs x=none)) (acI C E qs x c M O w (k+1)) e f:=by
 have i:Gt E (qs.take (k+1)) x=E q g:=by rw[Wj n,h.a];rfl
 rintro e f (⟨rfl,hn,o⟩|⟨rfl,r,p,c2,j,m,d,b⟩)
 .exact Aj ⟨I,Wi (i.trans hn),o⟩
 .refine Am ⟨I,r,c2,j,i.trans p,?_,d,h.kept.trans (l.trans b)⟩;have:=h.le
  grind
theorem U2{C:GX σ}(hC:PS C){d:Af}{E:Nat->σ->Option σ}(m:kD C (.agg #[.int .u8 y0,Z y1,.slice d yn yk]) (E q) M)(n:Nat)(hn:n<=9){x:σ}{O:Nat->Prop}(k:C.St w c x O)(hc:c+n*M<=40000):
  ET 256 #[Z n,.agg #[.int .u8 y0,Z y1,.slice d yn yk],C.Iq] w (Ml C (Gt E (List.replicate n q) x) O (c+n*M) w):=by
 have f:=(AA w.heap.size w).alloc (Ar _) (.cells #[.int .u8 y0,Z y1,.slice d yn yk] 262);have a:¬O w.heap.size:=λh=>by have:=(hC.fresh k _ h).2;omega
 have⟨p,r,s,_⟩:=(NZ.new w (.int .u8 y0) (Z y1) (.slice d yn yk)).facts;refine(iP C.tid C.er C.ptr w y0 y1 d yn yk n (C.No (Gt E (List.replicate n q) x=none)) (acI C E (List.replicate n q) x c M O (w.alloc (.cells #[.int .u8 y0,Z y1,.slice d yn yk] 262))) hn ⟨x,c,O,I,U,hC.go k f,Kept.refl _ _⟩ ?_).mono ?_
 .rintro j l o ⟨u,i,g,h⟩;have b:w.heap.size<(w.alloc (.cells #[.int .u8 y0,Z y1,.slice d yn yk] 262)).heap.size:=Ev;refine⟨(h.kept.cell b a).trans p,(h.kept.cell b a).trans r,(h.kept.cell b a).trans s,?_⟩;refine(m l i u g h.st ?_).mono (YP h (q:=q) ?_ (Kept.refl _ _))
  .have e1:(j+1)*M<=n*M:=BL M o;rw[Nat.add_mul,Nat.one_mul]at e1;have:=h.le;omega
  grind
 .rintro e l (h|⟨rfl,t,i,g,h⟩)
  .exact Aj h
  .refine Am ⟨I,t,?_,i,g,h.le,h.st,(Kept.of_below f).trans h.kept⟩;have:=h.a
   grind
theorem nQ{S:Nat->Prop}{c2:Ad}(h:NP w0 S g (f+1) p c0 c1 c2):c0=.int .u8 (g p)/\c1=Z (Gl g p)/\∃k t,c2=.slice k (Pt.EW g f p) t/\(∀j q,(Pt.EW g f p)[j]?=some q->∃b v x y A z,k=(Y b 0) /\
   (∀w,DY w0 w->w.cell? (Y b (j*3))=some (.int .u8 v)/\w.cell? (Y b (j*3+1))=Z x/\w.cell? (Y b (j*3+2))=some (.slice y A z))/\NP w0 S g f q (.int .u8 v) (Z x) (.slice y A z)):=by
 have⟨n,E,K,s,hi⟩:=h;obtain⟨k,t,i⟩:∃a c,c2=.slice a (Pt.EW g f p).length c:=by
  rcases s.1.2 with ⟨rfl,n⟩|⟨b,cap,m,rfl,_⟩;all_goals grind
 refine⟨n,E,k,t,i,λj q F=>?_⟩;have⟨d0,d1,d2,a0,a1,a2,u⟩:=hi j q F;subst i;obtain⟨b,rfl,e⟩:∃b,k=some (Y b 0)/\b<w0.heap.size:=by
  rcases s.1.2 with ⟨G,n⟩|⟨b,cap,m,G,_,J,_⟩;all_goals grind
 have d:=s.1.cells (g:=b) I;have l:∀o,((Y b 0):Addr).add o=(Y b o):=λo=>by simp[Addr.add];omega
 obtain⟨⟨H,rfl⟩,⟨x1,rfl⟩,⟨B,D,C,rfl⟩⟩:=GN u;refine⟨b,H,x1,B,D,C,I,λw r=>⟨?_,?_,?_⟩,u⟩
 .rw[r.cell (p:=(Y b (j*3))) e,<-l,BZ];exact d _ _ a0
 .rw[r.cell (p:=(Y b (j*3+1))) e,<-l,BZ];exact d _ _ a1
 .rw[r.cell (p:=(Y b (j*3+2))) e,<-l,BZ];exact d _ _ a2
theorem le_top{a:Nat}(h:a∈l):a<=Pt.top l:=by
 induction l with
 |nil=>cases h
 |cons b l ih=>grind [Pt.top]
def QF(C:GX σ)(s:Ab)(f:Nat):Prop:=∀p S c0 c1 c2,NP C.w0 S (nx s) f p c0 c1 c2->N4 s f p->kD C (.agg #[c0,c1,c2]) (Es C.num C.a (nx s) f p) (10 ^ Pt.Lj (nx s) f p)
variable {σ:Type}
theorem S8{C:GX σ}{r:Option (Int×σ)}{E:Option σ}(g:E=r.bind λr=>r.2){O:Nat->Prop}(k:Kept O O w w1)(n:1<=M):
  ∀e a,SE C.er (C.No (r=none)) (λa=>∃i b,r=some (i,b)/\C.Lv O (c+1) b w1 a) e a->Ml C E O (c+M) w e a:=by
 rintro e a (⟨rfl,d,l⟩|⟨rfl,i,b,d,j,h,m,f,hk⟩)
 .exact Aj ⟨I,by rw[g,d];rfl,l⟩
 .exact Am ⟨I,b,by rw[g,d];rfl,j,h,U,f,k.trans hk⟩
theorem au{C:GX σ}{E:Option σ}{O:Nat->Prop}(h1:Kept O O w w1)(hc:c<=c2):
  ∀e w',Ml C E O c w1 e w'->Ml C E O c2 w e w':=by
 exact abO
theorem Wl{C:GX σ}{E a:Option σ}{O b:Nat->Prop}(h1:Kept O b w w1)(d:a=E)(hc:c<=c2):
  ∀e w',Ml C E b c w1 e w'->Ml C a O c2 w e w':=by
 subst d;exact abO
theorem dh{C:GX σ}(hC:PS C)(ih:QF C s f):QF C s (f+1):=by
 intro p S c0 c1 c2 hR hO;obtain⟨rfl,rfl,va,K,rfl,ah⟩:=nQ hR;obtain⟨T,hT⟩:∃T,T=Pt.top ((Pt.EW (nx s) f p).map (Pt.Lj (nx s) f)):=DR;have hM:10 ^ Pt.Lj (nx s) (f+1) p=10*10 ^ T:=by rw[Pt.Lj,<-hT,Nat.pow_succ,BZ]
 have aN:1<=10 ^ T:=Nat.one_le_pow _ _ Em;have X:∀j q,(Pt.EW (nx s) f p)[j]?=some q->N4 s f q->∃d u v y A z,va=some (Y d 0) /\
   (∀w,DY C.w0 w->EB w d (j*3) (.int .u8 u)/\EB w d (j*3+1) (Z v)/\EB w d (j*3+2) (.slice y A z))/\kD C (.agg #[.int .u8 u,Z v,.slice y A z]) (Es C.num C.a (nx s) f q) (10 ^ T):=by
  intro j q l ho;have⟨d,u,v,y,A,z,G,a,hr⟩:=ah j q l;refine⟨d,u,v,y,A,z,G,a,(ih q S _ _ _ hr ho).mono ?_⟩;refine CS Em ?_;rw[hT];exact le_top (Cy.2 ⟨q,Ap l,I⟩)
 rw[hM];generalize 10 ^ T=M at *;intro w c x O E hc;have ac:=hC.h E;have b:∀o,DY w (w.alloc o):=λo=>(AA w.heap.size w).alloc (Ar _) o
 have ae:¬O w.heap.size:=λh=>by have:=(hC.fresh E _ h).2;omega
 rcases J2 hO with (h|h|h|h)|⟨h,_,ad,FU⟩|⟨h,_,ad,FU,N⟩|⟨h,_,ad,FU,N⟩|hl
 .have e:((nx s p:Nat):Int)=98:=by rw[h];rfl
  rw[e];refine(ad3 C.tid C.b C.er C.ptr hC.a w _ _ _ _ _ _ (hC.number 0 1 (hC.go E (b _)) U (Aj ⟨I,Em⟩))).mono (S8 ?_ (Kept.of_below (b _)) U);simp[Es,h,FZ,FD]
 .have e:((nx s p:Nat):Int)=99:=by rw[h];rfl
  rw[e];refine(ad4 C.tid C.b C.er C.ptr hC.a w _ _ _ _ _ _ (hC.number 0 65535 (hC.go E (b _)) U (Aj ⟨I,Em⟩))).mono (S8 ?_ (Kept.of_below (b _)) U);simp[Es,h,FZ,FD]
 .have e:((nx s p:Nat):Int)=105:=by rw[h];rfl
  rw[e];refine(ad6 C.tid C.b C.er C.ptr hC.a w _ _ _ _ _ _ (hC.number (-32768) 32767 (hC.go E (b _)) U (Am ⟨I,I⟩))).mono (S8 ?_ (Kept.of_below (b _)) U);simp[Es,h,FZ,FD]
 .have e:((nx s p:Nat):Int)=115:=by rw[h];rfl
  rw[e];have B:Es C.num C.a (nx s) (f+1) p x=C.a x:=by simp[Es,h]
  refine(ad9 C.tid C.c C.er C.ptr hC.b w _ _ _ _ _ _ (hC.text (hC.go E (b _)) U)).mono ?_;rw[B];exact au (Kept.of_below (b _)) U
 .have e:((nx s p:Nat):Int)=101:=by rw[h];rfl
  have H:Gl (nx s) p=(nx s (p+1):Int)-48:=by simp[Gl,h]
  rw[e,H];refine(ad5 C.tid C.b C.er C.ptr hC.a w _ _ _ _ _ _ U (hC.number 0 _ (hC.go E (b _)) U (Aj ⟨I,U⟩))).mono (S8 ?_ (Kept.of_below (b _)) U);simp[Es,h,FZ,FD]
 .have e:((nx s p:Nat):Int)=97:=by rw[h];rfl
  obtain⟨n,hn⟩:∃n,n=nx s (p+1)-48:=DR;have H:Gl (nx s) p=(n:Int):=by simp[Gl,h];omega
  have hk:Pt.EW (nx s) f p=[p+2]:=by simp[Pt.EW,h]
  obtain⟨d,u,v,y,A,z,rfl,a,k⟩:=X 0 (p+2) (by rw[hk];rfl) N;have B:Es C.num C.a (nx s) (f+1) p x=Gt (Es C.num C.a (nx s) f) (List.replicate n (p+2)) x:=by simp[Es,h,hn]
  rw[e,H,B];have ab:∀o,DY w (w.alloc o).drew:=λo=>(b o).drew
  have hf:=λo=>a (w.alloc o) (ac.trans ((b o).mono ac.size))
  have aw:n*M<=9*M:=BL M U;refine(ad2 C.tid C.er C.ptr w n d _ _ u v y A z _ _ (by rw[hk];simp) (λo=>(hf o).1) (λo=>(hf o).2.1) (λo=>(hf o).2.2) (U2 hC k n U (hC.go E (ab _)) U)).mono ?_;exact au (Kept.of_below (ab _)) U
 .have e:((nx s p:Nat):Int)=113:=by rw[h];rfl
  obtain⟨m,hm⟩:∃m,m=nx s (p+1)-48:=DR;have H:Gl (nx s) p=(m:Int):=by simp[Gl,h];omega
  have hk:Pt.EW (nx s) f p=[p+2]:=by simp[Pt.EW,h]
  obtain⟨d,u,v,y,A,z,rfl,a,k⟩:=X 0 (p+2) (by rw[hk];rfl) N;have B:Es C.num C.a (nx s) (f+1) p x=(C.num 0 m x).bind λr=>Gt (Es C.num C.a (nx s) f) (List.replicate r.1.toNat (p+2)) r.2:=by
   have:((nx s (p+1):Nat):Int)-48=(m:Int):=U;simp[Es,h,FZ,FD,this]
  rw[e,H];have⟨t0,t1,t2,_⟩:=(NZ.new w (.int .u8 113) (Z m) (EJ d (Pt.EW (nx s) f p).length K)).facts;refine ad7 C.tid C.b C.er C.ptr hC.a w m d _ _ u v y A z (C.No (Es C.num C.a (nx s) (f+1) p x=none)) _ (λi g=>∃t,C.num 0 m x=some (i,t)/\C.Lv O (c+1) t (w.alloc (Gb 113 m (some (Y d 0)) (Pt.EW (nx s) f p).length K)) g) (by rw[hk];simp) ((hC.number 0 m (hC.go E (b _)) U (Aj ⟨I,U⟩)).mono ?_) ?_
  .rintro e g (⟨rfl,hr,hb⟩|h)
   .exact Aj ⟨I,by rw[B,hr];rfl,hb⟩
   .exact Am h
  .rintro i g ⟨t,P,W,Q,ao,F,D⟩;have⟨aq,ar⟩:=hC.range P;obtain⟨n,rfl⟩:∃n:Nat,i=n:=⟨i.toNat,U⟩;have L:w.heap.size<(w.alloc (Gb 113 m (some (Y d 0)) (Pt.EW (nx s) f p).length K)).heap.size:=Ev;have⟨f0,f1,f2⟩:=a g (hC.h F);have aw:n*M<=9*M:=BL M U;refine⟨(D.cell L ae).trans t2,f0,f1,f2,(U2 hC k n U F U).mono ?_⟩;refine Wl ((Kept.of_below (b _)).trans D) ?_ U;rw[B,P];simp
 .rcases hl.here with h|h
  .have e:((nx s p:Nat):Int)=114:=by rw[h];rfl
   have B:Es C.num C.a (nx s) (f+1) p x=Gt (Es C.num C.a (nx s) f) (Pt.EW (nx s) f p) x:=by simp[Es,h]
   have h6:=Jj (nx s) f p;rw[e,B];refine(ad8 C.tid C.er C.ptr w _ va _ K (C.No (Gt (Es C.num C.a (nx s) f) (Pt.EW (nx s) f p) x=none)) (acI C (Es C.num C.a (nx s) f) (Pt.EW (nx s) f p) x c M O (w.alloc (Gb 114 (Gl (nx s) p) va (Pt.EW (nx s) f p).length K))) h6 ⟨x,c,O,I,U,hC.go E (b _),Kept.refl _ _⟩ ?_).mono ?_
   .rintro j g hj ⟨xj,W,Q,J⟩;obtain⟨q,l⟩:∃q,(Pt.EW (nx s) f p)[j]?=some q:=⟨_,Ah hj⟩;have⟨d,u,v,y,A,z,G,a,k⟩:=X j q l (JQ hl q (Ap l)).2;have⟨f0,f1,f2⟩:=a g (hC.h J.st);have aa:∀o,DY g (g.alloc o):=λo=>(AA g.heap.size g).alloc (Ar _) o
    refine⟨d,u,v,y,A,z,G,f0,f1,f2,(k _ W xj Q (hC.go J.st (aa _)) ?_).mono (YP J l (Kept.of_below (aa _)))⟩;have e1:(j+1)*M<=6*M:=BL M U;rw[Nat.add_mul,Nat.one_mul]at e1;have:=J.le;omega
   .rintro e g (h|⟨rfl,t,W,Q,J⟩)
    .exact Aj h
    .have l:=J.a;rw[A7 (Ar _)]at l;refine Am ⟨I,t,l,W,Q,?_,J.st,(Kept.of_below (b _)).trans J.kept⟩;have e1:=BL M h6;have:=J.le;omega
  .have e:((nx s p:Nat):Int)=117:=by rw[h];rfl
   have h6:=Jj (nx s) f p;have B:Es C.num C.a (nx s) (f+1) p x=(C.num 0 (((Pt.EW (nx s) f p).length:Int)-1) x).bind λr=>Es C.num C.a (nx s) f (Gj (Pt.EW (nx s) f p) r.1) r.2:=by simp[Es,h,FZ,FD]
   have az:∃q,(Pt.EW (nx s) f p)[0]?=some q:=by simp[Pt.EW,h]
   have⟨q0,ak⟩:=az;obtain⟨d,_,_,_,_,_,rfl,_,_⟩:=X 0 q0 ak (JQ hl q0 (Ap ak)).2;rw[e];have⟨t0,t1,t2,_⟩:=(NZ.new w (.int .u8 117) (Z (Gl (nx s) p)) (EJ d (Pt.EW (nx s) f p).length K)).facts;refine aea C.tid C.b C.er C.ptr hC.a w _ d _ K (C.No (Es C.num C.a (nx s) (f+1) p x=none)) _ (λj g=>j<(Pt.EW (nx s) f p).length/\∃t,C.num 0 (((Pt.EW (nx s) f p).length:Int)-1) x=some ((j:Int),t)/\C.Lv O (c+1) t (w.alloc (Gb 117 (Gl (nx s) p) (some (Y d 0)) (Pt.EW (nx s) f p).length K)) g) h6 ((hC.number 0 _ (hC.go E (b _)) U (Aj ⟨I,U⟩)).mono ?_) ?_
   .rintro e g (⟨rfl,hr,hb⟩|⟨i,rfl,t,P,av⟩)
    .exact Aj ⟨I,by rw[B,hr];rfl,hb⟩
    .have⟨aq,ar⟩:=hC.range P;obtain⟨n,rfl⟩:∃n:Nat,i=n:=⟨i.toNat,U⟩;exact Am ⟨_,I,n,I,U,U,t,P,av⟩
   .rintro j g ⟨hj,t,P,W,Q,ao,F,D⟩;obtain⟨q,l⟩:∃q,(Pt.EW (nx s) f p)[j]?=some q:=⟨_,Ah hj⟩;have⟨aS,u,v,y,A,z,G,a,k⟩:=X j q l (JQ hl q (Ap l)).2;cases G;have⟨f0,f1,f2⟩:=a g (hC.h F);have L:w.heap.size<(w.alloc (Gb 117 (Gl (nx s) p) (some (Y d 0)) (Pt.EW (nx s) f p).length K)).heap.size:=Ev;refine⟨u,v,y,A,z,(D.cell L ae).trans t2,f0,f1,f2,(k g W t Q F U).mono ?_⟩;refine Wl ((Kept.of_below (b _)).trans D) ?_ U;rw[B,P];simp[Gj,l]
theorem VI{C:GX σ}(hC:PS C)(s:Ab):∀f,QF C s f:=by
 intro f;induction f with
 |zero=>intro p S c0 c1 c2 h;exact h.elim
 |succ f ih=>exact dh hC ih
abbrev D5:=List It×List UInt8
def QC(lo hi:Int)(x:D5):Option (Int×D5):=match x.1 with
 |[]=>none
 |i :: r=>if i.2.size=0/\lo<=i.1/\i.1<=hi then some (i.1,(r,x.2++EU i.1)) else none
def Rq(x:D5):Option D5:=match x.1 with
 |[]=>none
 |i :: r=>if i.1=0/\i.2.size<=14 then some (r,x.2++KL true i) else none
def O9(w0:Aa)(Ov:Ad):Nat->Prop:=λk=>k=w0\/Ov.ownBlock=k
def Im(w0:Aa):GX D5 where
 tid:=302
 b:=281
 c:=282
 er:=4
 ptr:=(EN w0 0)
 w0:=w0
 St:=λw c x O=>∃L Ov,WS w0 w L x.1 Ov x.2/\O=O9 w0 Ov/\x.1.length<=9000000000000/\x.2<=17*c
 num:=QC
 a:=Rq
theorem Wk.kept(h:Wk w0 O O' w w'):Kept (O9 w0 O) (O9 w0 O') w w':=by grind [Wk,Kept,O9]
theorem U8(w0:Aa):PS (Im w0) where
 h:=by
  rintro w c x O ⟨L,j,h,_⟩;exact h.h
 fresh:=by
  rintro w c x O ⟨L,j,h,rfl,_⟩ k (rfl|hk)
  .exact⟨Ar _,h.wr.lt⟩
  .have:=h.row hk;exact⟨by simp only[Im];omega,this.2⟩
 go:=by
  rintro w c x O f ⟨L,j,h,r⟩ g;exact⟨L,j,h.go g,r⟩
 range:=by
  rintro lo hi ⟨v,out⟩ n p h;simp only[Im,QC]at h;cases v with
  |nil=>cases h
  |cons i r=>
   simp only at h;split at h
   .rename_i hc;cases h;exact⟨hc.2.1,hc.2.2⟩
   .cases h
 a:=⟨λ_=>by kernel_rfl,λ_ _=>rfl⟩
 b:=⟨λ_=>by kernel_rfl,λ_ _=>rfl⟩
 number:=by
  rintro w c ⟨v,out⟩ O lo hi ⟨L,j,h,rfl,hn,u⟩ hc _;simp only at h hn u;cases v with
  |nil=>
   refine cm (Zs h) λf g=>?_
   exact Aj ⟨I,I,g⟩
  |cons x v=>
   simp only[A4]at hn;by_cases d:x.2.size=0/\lo<=x.1/\x.1<=hi
   .refine cm (mK h U (toList_nil.2 d.1) U U U) ?_;rintro f ⟨t,q,o,m⟩;refine Am ⟨x.1,I,(v,out++EU x.1),by simp[Im,QC,d],c+1,O9 w0 q,Ar _,⟨t,q,o,I,by simp only;omega,?_⟩,m.kept⟩;simp only[AJ,EU,A4,List.length_nil];omega
   .have l:(Im w0).num lo hi (x :: v,out)=none:=by simp only[Im,QC];rw[Ao d]
    have fin:∀e f,e=EQ 4 0/\DY w0 f->xY (Im w0).er ((Im w0).No ((Im w0).num lo hi (x :: v,out)=none)) (λi f=>∃p,(Im w0).num lo hi (x :: v,out)=some (i,p)/\(Im w0).Lv (O9 w0 j) (c+1) p w f) e f:=by
     rintro e f ⟨rfl,g⟩;exact Aj ⟨I,l,g⟩
    by_cases s:x.2.toList=[]
    .have:=toList_nil.1 s;by_cases hl:x.1<lo
     .exact(Zp h U s hl).mono fin
     .exact(Zr h U s hl U).mono fin
    .exact(Zo h U s).mono fin
 text:=by
  rintro w c ⟨v,out⟩ O ⟨L,j,h,rfl,hn,u⟩ hc;simp only at h hn u;cases v with
  |nil=>
   refine cm (o8 h) λf g=>?_
   exact Aj ⟨I,I,g⟩
  |cons x v=>
   simp only[A4]at hn;by_cases d:x.1=0/\x.2.size<=14
   .refine cm (aav h U d.1 d.2 U) ?_;rintro f ⟨t,q,o,m⟩;refine Am ⟨I,(v,out++KL true x),by simp[Im,Rq,d],c+1,O9 w0 q,Ar _,⟨t,q,o,I,by simp only;omega,?_⟩,m.kept⟩;have:=(jA true x (λ_=>d.2));simp only[AJ];omega
   .have l:(Im w0).a (x :: v,out)=none:=by simp only[Im,Rq];rw[Ao d]
    have fin:∀e f,e=EQ 4 0/\DY w0 f->SE (Im w0).er ((Im w0).No ((Im w0).a (x :: v,out)=none)) (λf=>∃p,(Im w0).a (x :: v,out)=some p/\(Im w0).Lv (O9 w0 j) (c+1) p w f) e f:=by
     rintro e f ⟨rfl,g⟩;exact Aj ⟨I,l,g⟩
    by_cases y:x.1=0
    .exact(o7 h U (by simp[y]) U).mono fin
    .exact(oZ h U (by simpa using y)).mono fin
theorem LM:∀(k1 k2:List Bool) (v:List It),k1<=v.length->Et (k1++k2) v=Et k1 v++Et k2 (v.drop k1):=by
 intro k1;induction k1 with
 |nil=>intro k2 v _;simp[Et]
 |cons a k1 ih=>
  intro k2 v h;cases v with
  |nil=>simp at h
  |cons x v=>grind [Et]
def Ss(v:List It)(out:Ac)(e:GB):Option D5:=e.map λa=>(a.2,out++Et a.1 v)
theorem Rp{v r:List It}{out:Ac}(b:r=v.drop k0)(hk:k0<=v.length)(e:GB):Ss v out (Gu k0 e)=Ss r (out++Et k0 v) e:=by
 cases e with
 |none=>rfl
 |some a=>grind [Gu,Ss,LM]
theorem ay{E:Nat->List It->GB}{F:Nat->D5->Option D5}:∀qs,(∀q∈qs,Mk (E q))->(∀q∈qs,∀v out,F q (v,out)=Ss v out (E q v))->∀v out,Gt F qs (v,out)=Ss v out (E6 E qs v):=by
 intro qs;induction qs with
 |nil=>intro _ _ v out;simp[Gt,E6,Ss,Et]
 |cons q qs ih=>
  intro b a v out;simp only[Gt,E6];rw[a q Ev v out]
  grind [Mk,Ss,Rp]
theorem lC(g:Nat->Nat):∀f p v out,Es QC Rq g f p (v,out)=Ss v out (Hg g f p v):=by
 intro f;induction f with
 |zero=>intro p v out;rfl
 |succ f ih=>
  intro p v out;have h:=λj=>ay (E:=Hg g f) (F:=Es QC Rq g f) j (λq _=>Hs g f q) (λq _=>ih q)
  by_cases b:g p=97
  .have a:EO g f p v=some ([],List.replicate (g (p+1)-48) (p+2),v):=by simp[EO,b]
   rw[H9 a,KU,<-h];simp[Es,b]
  by_cases d:g p=114
  .have a:EO g f p v=some ([],Pt.EW g f p,v):=by simp[EO,d]
   rw[H9 a,KU,<-h];simp[Es,d]
  cases v with
  |nil=>grind [EO,La,Es,Rq,QC,Ss]
  |cons x v=>
   by_cases e:g p=115
   .by_cases hc:x.1=0/\x.2.size<=14
    .have a:EO g f p (x :: v)=some ([true],[],v):=by simp[EO,e,hc]
     rw[H9 a]
     grind [Es,Rq,E6,Gu,Ss,Et]
    grind [EO,La,Es,Rq,Ss]
   .by_cases hc:x.2.size=0/\FZ (g p)<=x.1/\x.1<=FD g f p
    .have hn:QC (FZ (g p)) (FD g f p) (x :: v,out)=some (x.1,(v,out++EU x.1)):=by simp[QC,hc]
     have i:out++EU x.1=out++Et [false] (x :: v):=by simp[Et,KL]
     have c:Es QC Rq g (f+1) p (x :: v,out)=if g p=117 then Es QC Rq g f (Gj (Pt.EW g f p) x.1) (v,out++EU x.1) else if g p=113 then Gt (Es QC Rq g f) (List.replicate x.1.toNat (p+2)) (v,out++EU x.1) else some (v,out++EU x.1):=by grind [Es]
     have a:EO g f p (x :: v)=some ([false],(if g p=117 then [Gj (Pt.EW g f p) x.1] else if g p=113 then List.replicate x.1.toNat (p+2) else []),v):=by simp[EO,b,d,e,hc]
     rw[H9 a,Rp (k0:=[false]) (v:=x :: v) (r:=v) I Ev,<-i,c];exact abm
    exact abm
def IK(ks:List Bool)(v:List It):Prop:=∀(i:Nat) (k:Bool) (x:It),ks[i]?=k->v[i]?=x->(k=true->x.2.size<=14)/\(k=false->-32768<=x.1/\x.1<=65535)
theorem Ud{v r:List It}(c:r=v.drop k1)(a:IK k1 v)(b:IK k2 r):IK (k1++k2) v:=by grind [IK]
def WJ(E:List It->GB)(M:Nat):Prop:=∀v ks r,E v=some (ks,r)->ks<=M/\IK ks v
theorem oG{E:Nat->List It->GB}:∀b,(∀q∈b,Mk (E q))->(∀q∈b,WJ (E q) M)->WJ (E6 E b) (b*M):=by
 intro b;induction b with
 |nil=>intro _ _ v g r h;simp[E6]at h;obtain⟨rfl,rfl⟩:=h;exact⟨Ev,λi k x hk=>by simp at hk⟩
 |cons a b ih=>
  intro d f v g r h;simp only[E6]at h;cases ha:E a v with
  |none=>rw[ha]at h;cases h
  |some e=>
   have⟨k,c⟩:=e;rw[ha]at h;simp only at h;have⟨j,l⟩:=d a Ev v k c ha;have⟨s1,s2⟩:=f a Ev v k c ha;cases hs:E6 E b c with
   |none=>rw[hs]at h;cases h
   |some e'=>grind [WJ,Gu,Ud,Nat.add_mul]
theorem dV(h:N4 s (f+1) p){v:List It}{r:List It}(b:EO (nx s) f p v=(k0,qs,r)):
  k0.length<=1/\IK k0 v/\k0+qs.length<=10/\∀q∈qs,q∈Pt.EW (nx s) f p/\N4 s f q:=by
 have n:FD (nx s) f p<=65535:=by
  have l:=Jj (nx s) f p;rcases J2 h with (h|h|h|h)|⟨h,_,a,FU⟩|⟨h,_,a,FU,c⟩|⟨h,_,a,FU,c⟩|hl
  .simp[FD,h]
  .simp[FD,h]
  .simp[FD,h]
  .simp[FD,h];omega
  .simp[FD,h];omega
  .simp[FD,h];omega
  .simp[FD,h];omega
  .rcases hl.here with h|h;all_goals grind [FD]
 have o:-32768<=FZ (nx s p)/\FZ (nx s p)<=0:=by grind [FZ]
 have l:=Jj (nx s) f p;have e:IK [] v:=λi k x hk=>by simp at hk
 unfold EO at b;split at b
 .rename_i m;cases b;rcases J2 h with (h|h|h|h)|⟨h,_,a,FU⟩|⟨h,_,a,FU,c⟩|⟨h,_,a,FU,c⟩|hl;all_goals grind [Pt.EW,WH]
 .rename_i m;split at b
  .rename_i j;cases b;have hl:WH s f p:=⟨Aj j,h⟩;exact⟨Ev,e,Fy,λq d=>⟨d,(JQ hl q d).2⟩⟩
  .rename_i j;cases v with
   |nil=>cases b
   |cons x v=>
    simp only at b;split at b
    .split at b
     .rename_i hc;cases b;refine⟨Ev,?_,Ev,λq d=>by simp at d⟩;intro i k y hk z;all_goals grind
     .cases b
    .rename_i A;split at b
     .rename_i hc;cases b;refine⟨Ev,?_,?_,?_⟩
      .intro i k y hk z;all_goals grind
      .split
       .simp
       .split
        .rename_i d;have:FD (nx s) f p<=9:=by
          rcases J2 h with (h|h|h|h)|⟨h,_,a,FU⟩|⟨h,_,a,FU,c⟩|⟨h,_,a,FU,c⟩|hl
          .omega
          .omega
          .omega
          .omega
          .omega
          .omega
          .simp[FD,h];omega
          .have:=hl.here;omega
         simp;omega
        .simp
      .split
       .rename_i hu;have hl:WH s f p:=⟨Am hu,h⟩;intro q d;simp at d;subst d;have u:0<=x.1:=by all_goals grind [FZ]
        have w:x.1<=((Pt.EW (nx s) f p).length:Int)-1:=by all_goals grind [FD]
        have t:x.1.toNat<(Pt.EW (nx s) f p).length:=U;have g:Gj (Pt.EW (nx s) f p) x.1∈Pt.EW (nx s) f p:=by all_goals grind [Gj]
        exact⟨g,(JQ hl _ g).2⟩
       .split;all_goals grind [Pt.EW,J2,WH]
     .cases b
theorem QO(s:Ab):∀f p,N4 s f p->WJ (Hg (nx s) f p) (10 ^ Pt.Lj (nx s) f p):=by
 intro f;induction f with
 |zero=>intro p _ v c r h;cases h
 |succ f ih=>
  intro p n v c r h;obtain⟨T,d⟩:∃T,T=Pt.top ((Pt.EW (nx s) f p).map (Pt.Lj (nx s) f)):=DR;have k:10 ^ Pt.Lj (nx s) (f+1) p=10*10 ^ T:=by rw[Pt.Lj,<-d,Nat.pow_succ,BZ]
  have e:1<=10 ^ T:=Nat.one_le_pow _ _ Em;rw[k];cases hh:EO (nx s) f p v with
  |none=>rw[La hh]at h;cases h
  |some a=>
   have⟨k0,g,i⟩:=a;rw[H9 hh]at h;have⟨j,y⟩:=Qe hh;have⟨g1,g2,g3,g4⟩:=dV n hh;cases hs:E6 (Hg (nx s) f) g i with
   |none=>rw[hs]at h;cases h
   |some e'=>
    have⟨t,u⟩:=e';rw[hs]at h;simp only[Gu,Option.some.injEq,Prod.mk.injEq]at h;obtain⟨rfl,rfl⟩:=h;have⟨s1,s2⟩:=oG (M:=10 ^ T) g (λq _=>Hs _ f q) (λq o v c r l=>by
     have⟨m,b⟩:=g4 q o;have⟨w,x⟩:=ih q b v c r l;refine⟨Br w (CS Em ?_),x⟩;rw[d];exact le_top (Cy.2 ⟨q,m,I⟩)) i t u hs
    refine⟨?_,Ud j g2 s2⟩;generalize 10 ^ T=M at *;rw[AJ];have e1:=BL M g3
    grind
theorem vm{out:Ac}(h:w.ownsRow B 5 1 O out (Ku out)):(convert 281 9 O).run prog w=.ok (.string ⟨out.toArray⟩) w:=by
 have hcl:=λg=>h.cells (g:=g)
 exact afv
def Sw(e:GB)(v:List It):Nat×List UInt8:=match e with
 |none=>(4,[])
 |some (ks,r)=>if r=[] then (if 70<(Et ks v).length then (5,[]) else (0,Et ks v)) else (4,[])
def i7(res:Nat×List UInt8)(e:Ending):Prop:=if res.1=0 then e=.returned (.string ⟨res.2.toArray⟩) else e=EQ res.1 0
theorem Mf(n:Nat)(w:Aa):D7 227 #[Z n] w (.bool (decide (70<n))) λa=>a=w:=by
 have e:(decide (70<n))=(decide ((70:Int)<n)):=by
  rw[BH];simp;omega
 rw[e]
 delta D7
 go_in
 go_wp2
 go_ret
 exact DN
abbrev pR(V:Ad):Obj:=.cells #[V,.slice none 0 0] 300
theorem iU(w:Aa)(f x1:Int)(b h:Af)(en c j i:Nat)
  (g:ET 225 #[.agg #[.int .u8 f,Z x1,.slice b en c],.iface 302 (.pointer (DG w 0))] ((w.alloc (Gb f x1 b en c)).alloc (pR (.slice h j i))) λe d=>e=EQ 4 0/\DY w d):
  ET 177 #[.agg #[.int .u8 f,Z x1,.slice b en c],.slice h j i] w λe d=>e=EQ 4 0/\DY w d:=by
 have a:=Dx g;clear g
 delta ET
 go_in
 go_wp2_with fail
 refine cm a λl k=>?_
 go_wp2;exact⟨I,I,k⟩
structure i6(w w':Aa)(n:Nat)(out:Ac)(a:Af)(cap:Nat)(O:Ad):Prop where
 left:w'.cell? ⟨w.heap.size+1,0,none⟩=some (.slice a n cap)
 b:w'.cell? ⟨w.heap.size+1,1,none⟩=some O
 own:w'.ownsRow (w.heap.size+2) 5 1 O out.length (Ku out)
 h:Below w.heap.size w w'
theorem iT(w:Aa)(j x1:Int)(c m:Af)(en d p o:Nat)(n:Nat)(out:Ac)(hn:0<n)
  (k:D7 225 #[.agg #[.int .u8 j,Z x1,.slice c en d],.iface 302 (.pointer (DG w 0))] ((w.alloc (Gb j x1 c en d)).alloc (pR (.slice m p o))) Ep λi=>∃a cap O,i6 w i n out a cap O):
  ET 177 #[.agg #[.int .u8 j,Z x1,.slice c en d],.slice m p o] w λe i=>e=EQ 4 0/\DY w i:=by
 have⟨b,q⟩:=FU k JP;clear k
 delta ET
 go_in
 go_wp2_with fail
 refine cm b ?_;rintro r ⟨a,cap,O,f⟩;have c0:=f.left;have l:=f.h;have h:=l.size;clear f;go_wp2_with fail
 refine cm (q _) λs g=>?_
 go_wp2;exact⟨I,I,l.trans (g.mono h)⟩
theorem pT(w:Aa)(k x1:Int)(f n:Af)(en h p o:Nat)(out:Ac)(hn:70<out.length)
  (m:D7 225 #[.agg #[.int .u8 k,Z x1,.slice f en h],.iface 302 (.pointer (DG w 0))] ((w.alloc (Gb k x1 f en h)).alloc (pR (.slice n p o))) Ep λj=>∃a cap O,i6 w j 0 out a cap O):
  ET 177 #[.agg #[.int .u8 k,Z x1,.slice f en h],.slice n p o] w λe j=>e=EQ 5 0/\DY w j:=by
 have⟨d,l⟩:=FU m (λw=>Mf out.length w);rw[show decide (70<out.length)=true by simp[hn]]at l;clear m hn
 delta ET
 go_in
 go_wp2_with fail
 refine cm d ?_;rintro v ⟨a,cap,O,b⟩;have c0:=b.left;have c1:=b.b;have s:=b.h;obtain⟨t,u,rfl⟩:∃a c,O=.slice a out.length c:=by
  rcases b.own.2 with ⟨i,r⟩|⟨g,cap,q,i,_⟩
  .exact⟨none,0,by rw[i,r]⟩
  .exact⟨_,_,i⟩
 clear b;go_wp2_with fail
 refine cs (l _) ?_;go_wp2;exact⟨I,I,s⟩
theorem xU(w:Aa)(i x1:Int)(e l:Af)(en f n m:Nat)(out:Ac)(hn:¬70<out.length)
  (k:D7 225 #[.agg #[.int .u8 i,Z x1,.slice e en f],.iface 302 (.pointer (DG w 0))] ((w.alloc (Gb i x1 e en f)).alloc (pR (.slice l n m))) Ep λs=>∃a cap O,i6 w s 0 out a cap O):
  D7 177 #[.agg #[.int .u8 i,Z x1,.slice e en f],.slice l n m] w (.string ⟨out.toArray⟩) (DY w):=by
 have⟨d,j⟩:=FU k (λw=>Mf out.length w);rw[show decide (70<out.length)=false by simp;omega]at j;clear k hn
 delta D7
 go_in
 go_wp2_with fail
 refine cm d ?_;rintro v ⟨a,cap,O,b⟩;have c0:=b.left;have c1:=b.b;have q:=b.h;have r:=vm b.own;obtain⟨t,u,rfl⟩:∃a c,O=.slice a out.length c:=by
  rcases b.own.2 with ⟨h,p⟩|⟨g,cap,o,h,_⟩
  .exact⟨none,0,by rw[h,p]⟩
  .exact⟨_,_,h⟩
 clear b;go_wp2_with fail
 refine cs (j _) ?_;go_wp2
 go_ret
 exact⟨I,q⟩
theorem Ru(s:Ab)(S:Nat->Prop)(c0 c1 c2 V:Ad)(v:List It)(w:Aa)(A:NP w S (nx s) (s+1) 0 c0 c1 c2)(D:N4 s (s+1) 0)(hd:Pt.Lj (nx s) (s+1) 0<=4)(z:Ff w V v)(hn:v.length<=9000000000000):
  ET 177 #[.agg #[c0,c1,c2],V] w λe w'=>i7 (Sw (Hg (nx s) (s+1) 0 v) v) e/\DY w w':=by
 obtain⟨⟨x0,rfl⟩,⟨x1,rfl⟩,⟨ea,en,ec,rfl⟩⟩:=GN A;obtain⟨g,i,rfl⟩:∃a c,V=.slice a v.length c:=by
  have⟨a,c,h,_⟩:=z;exact⟨a,c,h⟩
 have d:DY w (w.alloc (Gb x0 x1 ea en ec)):=(AA w.heap.size w).alloc (Ar _) _;have n:=GM ⟨d.size,λk _ hl=>d.block k hl⟩ A;have hz:(w.alloc (Gb x0 x1 ea en ec)).heap.size=w.heap.size+1:=Ev;have p:WS (w.alloc (Gb x0 x1 ea en ec)) ((w.alloc (Gb x0 x1 ea en ec)).alloc (pR (.slice g v.length i))) (.slice g v.length i) v Dz []:=by
  refine⟨?_,z.h d,F9,AZ _ _ _ _⟩;unfold Wr;exact abR
 have J:10 ^ Pt.Lj (nx s) (s.size+1) 0<=10 ^ 4:=CS Em hd;have f:=VI (U8 (w.alloc (Gb x0 x1 ea en ec))) s (s.size+1) 0 S _ _ _ n D _ 0 (v,[]) _ ⟨_,_,p,I,hn,Ar _⟩ U;have l:(Im (w.alloc (Gb x0 x1 ea en ec))).Iq=.iface 302 (.pointer (some (DG w 0))):=by
  show Value.iface 302 (.pointer (some ⟨(w.alloc (Gb x0 x1 ea en ec)).heap.size,0,none⟩))=_;rw[hz]
 rw[l]at f;have o:=lC (nx s) (s.size+1) 0 v [];rw[show Es (Im (w.alloc (Gb x0 x1 ea en ec))).num (Im (w.alloc (Gb x0 x1 ea en ec))).a (nx s) (s.size+1) 0 (v,[])=Es QC Rq (nx s) (s.size+1) 0 (v,[]) from rfl,o]at f;have hbb:∀w',Below (w.alloc (Gb x0 x1 ea en ec)).heap.size (w.alloc (Gb x0 x1 ea en ec)) w'->DY w w':=λw' h=>d.trans (h.mono U)
 cases he:Hg (nx s) (s.size+1) 0 v with
 |none=>
  rw[he]at f;refine(iU w x0 x1 ea g en ec v.length i (f.mono ?_)).mono ?_
  .exact acs
  .rintro e w' ⟨rfl,hb⟩;exact⟨I,hb⟩
 |some a=>
  have⟨B,r⟩:=a;rw[he]at f;have q:D7 225 #[.agg #[.int .u8 x0,Z x1,.slice ea en ec],.iface 302 (.pointer (some (DG w 0)))] ((w.alloc (Gb x0 x1 ea en ec)).alloc (pR (.slice g v.length i))) Ep λw'=>∃a cap O,i6 w w' r.length (Et B v) a cap O:=by
   refine f.mono ?_;rintro e w' (⟨rfl,hx,_⟩|⟨rfl,x',hx,H,G,_,⟨L,C,b,_⟩,_⟩)
   .cases hx
   .cases hx;simp only[Cc]at b;have⟨E,F,m,_⟩:=b.J;subst m;have t:=b.wr.left;have u:=b.wr.out;have x:=b.own;rw[hz]at t u x;exact⟨I,E,F,C,t,u,x,hbb w' b.h⟩
  cases r with
  |cons y r=>
   refine cm (iT w x0 x1 ea g en ec v.length i _ _ Ev q) λw' hb=>?_
   exact⟨I,hb⟩
  |nil=>
   by_cases j:70<(Et B v).length
   .refine cm (pT w x0 x1 ea g en ec v.length i _ j q) λw' hb=>?_
    grind [i7,Sw]
   grind [xU,i7,Sw]
theorem Od(n q:Nat)(w:Aa):(Instr.field 161 (Gk n q) 0).run prog w=.ok (Z n) w:=EL
abbrev M0(r:Nat×Nat):Ending:=.returned (.tuple #[Z r.1,Z r.2])
theorem Qn(s:Ab)(w:Aa):ET 109 #[.string s] w λe b=>e=M0 (Pt.O7 (nx s) s)/\DY w b:=by
 by_cases a:s.size<=40
 .have h:=nM s w a
  grind [Pt.aaf,Ot]
 grind [Pt.O7,uU]
theorem own:ownKnob prog.godebug=none:=EL
structure Good(s:Ab):Prop where
 size:s.size<=40
 ok:N4 s (s.size+1) 0
 a:Pt.Lj (nx s) (s.size+1) 0<=4
theorem Nw(h:(Pt.O7 (nx s) s).1=0):Good s:=by
 unfold Pt.O7 at h;split at h
 .cases h
 .split at h
  .rename_i b a;split at h
   .cases h
   .split at h
    .cases h
    .exact⟨U,⟨AV _,U,a⟩,U⟩
  .cases h
theorem oJ(h:(Pt.O7 (nx s) s).1=0):ET 173 #[.string s] w λe b=>(∃c0 c1 c2,e=.returned (.agg #[c0,c1,c2])/\NP b (λk=>w<=k) (nx s) (s+1) 0 c0 c1 c2)/\DY w b:=by
 obtain⟨f,⟨_,_,a⟩,hd⟩:=Nw h;obtain⟨_,c,_⟩:=Pt.agree (g:=nx s) (n:=s.size) (λp d=>Ot d) (s.size+1) 0 0 1 0 [] U U;have q:=c a;have i:¬(Pt.ty (nx s) (s.size+1) 0).2<s.size:=by grind [Pt.O7]
 exact uO s w f a U U
def Jk(s:Ab)(v:List It):Nat×List UInt8:=if (Pt.O7 (nx s) s).1=0 then Sw (Hg (nx s) (s+1) 0 v) v else ((Pt.O7 (nx s) s).1,[])
theorem jD{v:List It}:(vI 0 (Hg g f p v)==v)=(match Hg g f p v with|none=>false|some (_,r)=>r.isEmpty):=by
 cases he:Hg g f p v with
 |none=>simp[vI]
 |some a=>
  obtain⟨b,r⟩:=a;obtain⟨c,d⟩:=Hs g f p v b r he;have hl:r.length=v.length-b.length:=by rw[c,A9]
  simp only[vI];cases r with
  |nil=>simp at hl ⊢;omega
  |cons y r=>simp at hl ⊢;omega
theorem Ue{v:List It}(h:IK ks v)(hl:ks=v.length):Vz ks v:=⟨hl,h⟩
end V
namespace R
abbrev It:=Int×ByteArray
structure Cf where
 b:Int
 a:Int
 c:Int
 e:Int
 d:Int
structure En where
 f:Int
 b:Int
 H:Int
 a:Int
 g:Int
 arg:List It
 D:List It
structure Fl where
 to:Int
 s:List UInt8
 a:Bool
structure Sv where
 J:Int
 T:Bool
 log:List En
structure Ln where
 a:Int
 d:Int
 D:List It
 c:Int
 to:ByteArray
 b:List UInt8
 X:Int
 H:List UInt8
 f:Int
 C:Int
 e:Int
structure Cl where
 b:Int
 d:List Int
 a:List Ln
structure Sn where
 a:Int
 c:Int
 b:List UInt8
 f:Int
 d:Int
 D:List UInt8
 at':Int
 g:Bool
 C:Int
 e:Int
structure Jb where
 f:Int
 H:Int
 b:Int
 a:Int
 c:Int
structure Wd where
 c:Cf
 e:List (List UInt8)
 f:List Int
 a:List Sv
 D:List Fl
 b:List Cl
 C:List Int
 J:List Sn
 d:List Jb
def Vm:Ln:=⟨0,0,[],0,⟨#[]⟩,[],0,[],0,0,0⟩
def Ic:Sn:=⟨0,0,[],0,0,[],0,false,0,0⟩
def RF(life:Int)(lines:Int):Cl:=⟨life,[],List.replicate lines.toNat Vm⟩
def GA(c:Cf):Prop:=(1<=c.b/\c.b<=3)/\(1<=c.a/\c.a<=3)/\(1<=c.c/\c.c<=8)/\(1<=c.e/\c.e<=6)/\(1<=c.d/\c.d<=9)
instance (c:Cf):Decidable (GA c):=by unfold GA;infer_instance
def fh(c:Cf):Option Wd:=if GA c then some ⟨c,[],[],[],[],List.replicate c.b.toNat (RF 1 c.a),[0,0,0],List.replicate 9 Ic,[]⟩ else none
def Gf(s:Ac):Bool:=decide (1<=s.length)&&decide (s.length<=8)&&s.all λb=>decide (97<=b.toNat)&&decide (b.toNat<=122)
def Gi(w:Wd)(name:Ac):Option Nat:=w.e.findIdx? (·==name)
def GR(w:Wd)(uid:Int):Wd:=
 {w with
  a:=w.a.modify (uid-1).toNat λs=>{s with T:=false}
  J:=w.J.map λr=>if r.c=uid/\r.d<3 then {r with d:=4} else r}
def E4(w:Wd)(name:Ac)(kind:Int):(Int×Int)×Wd:=
 if Gf name=false then ((0,10),w)
 else if kind<0\/2<kind then ((0,9),w)
 else match Gi w name with
  |none=>
   if w.e.length=6 then ((0,12),w)
   else if w.a.length=255 then ((0,11),w)
   else (((w.a.length:Int)+1,0),{w with e:=w.e++[name],f:=w.f++[(w.a.length:Int)+1],a:=w.a++[⟨kind,true,[]⟩]})
  |some k=>
   if w.a.length=255 then ((0,11),w)
   else
    let w1:=GR w (w.f.getD k 0)
    (((w.a.length:Int)+1,0),{w1 with f:=w1.f.set k ((w.a.length:Int)+1),a:=w1.a++[⟨kind,true,[]⟩]})
def Fb(w:Wd)(name:Ac):Int×Wd:=match Gi w name with
 |none=>(10,w)
 |some k=>
  let w1:=GR w (w.f.getD k 0)
  (0,{w1 with e:=w1.e.eraseIdx k,f:=w1.f.eraseIdx k})
def FV(w:Wd)(client:Int)(name:Ac):(Int×Int×Int)×Wd:=
 if client<0\/(w.b.length:Int)<=client then ((0,0,13),w)
 else match Gi w name with
  |none=>((0,0,10),w)
  |some k=>
   let uid:=w.f.getD k 0
   ((uid,((w.a[(uid-1).toNat]?).map (·.J)).getD 0,0),{w with b:=w.b.modify client.toNat λc=>{c with d:=c.d++[uid]}})
def DL(s:Ac):Int:=(((s+7) / 8:Nat):Int)
def EY(s:Ac)(k:Int):List UInt8:=(s.drop (8*k.toNat)).take 8
def E9(w:Wd)(to:Int)(p:Pk):Wd:=if w.D.length<40 then {w with D:=w.D++[⟨to,Gq p,false⟩]} else w
def Ia(w:Wd)(client line:Int):Ln:=((w.b[client.toNat]?).bind λc=>c.a[line.toNat]?).getD Vm
def Qj(w:Wd)(client:Int):Int:=((w.b[client.toNat]?).map (·.b)).getD 0
def Eh(w:Wd)(client line:Int)(l:Ln):Wd:={w with b:=w.b.modify client.toNat λc=>{c with a:=c.a.set line.toNat l}}
def EG(w:Wd)(client line:Int)(Ga:Bool):Wd:=
 let l:=Ia w client line
 E9 w (-1) ⟨1,client,Qj w client,line,l.a,l.c,l.X,DL l.b,Ga || decide (l.X<DL l.b-1),EY l.b l.X⟩
def Lq(w:Wd)(client line:Int):Wd:=
 let l:=Ia w client line
 E9 w (-1) ⟨3,client,Qj w client,line,l.a,l.c,0,1,true,[]⟩
def IE(l:Ac):ByteArray:=⟨l.toArray⟩
def IY(kind proc:Int):Option (ByteArray×ByteArray):=
 if kind=0/\proc=0 then (IE [105],IE [99])
 else if kind=0/\proc=1 then (IE [98],IE [99])
 else if kind=1/\proc=0 then (IE [115],IE [99])
 else if kind=1/\proc=1 then (IE [99],IE [113,52,115])
 else if kind=2/\proc=0 then (IE [114,40,101,51,113,51,105,41],IE [117,40,98,113,51,105,41])
 else none
def Fi(t:Ab)(v:List It):Option (List UInt8):=if (V.Jk t v).1=0 then (V.Jk t v).2 else none
def Gc(w:Wd)(client line uid proc:Int)(arg:List It):(Int×Int)×Wd:=
 if client<0\/(w.b.length:Int)<=client then ((0,13),w)
 else if line<0\/w.c.a<=line then ((0,14),w)
 else if ¬uid∈((w.b[client.toNat]?).map (·.d)).getD [] then ((0,15),w)
 else match IY (((w.a[(uid-1).toNat]?).map (·.J)).getD 0) proc with
  |none=>((0,16),w)
  |some (from',to)=>match Fi from' arg with
   |none=>((0,4),w)
   |some bs=>
    let l:=Ia w client line
    if l.d=1 then ((0,17),w)
    else if l.a=999 then ((0,11),w)
    else ((l.a+1,0),EG (Eh w client line ⟨l.a+1,1,[],uid,to,EU proc++bs,0,[],0,w.c.c,w.c.e⟩) client line false)
def KI(w:Wd)(client line:Int):Int×Int×List It×Int:=
 if client<0\/w.b<=client then (0,0,[],13)
 else if line<0\/w.c.a<=line then (0,0,[],14)
 else ((Ia w client line).d,(Ia w client line).a,(Ia w client line).D,0)
def EM(w:Wd)(client line:Int):Wd:=
 let l:=Ia w client line
 if l.d≠1 then w
 else if 1<l.C then Eh w client line {l with C:=l.C-1}
 else if l.e=0 then Eh w client line {l with C:=l.C-1,d:=3}
 else
  let w1:=Eh w client line {l with C:=w.c.c,e:=l.e-1}
  if 8*l.X<l.b then EG w1 client line true else Lq w1 client line
def EZ(w:Wd)(i:Nat):Sn:=(w.J[i]?).getD Ic
def EA(w:Wd)(i:Nat)(r:Sn):Wd:={w with J:=w.J.set i r}
def Ex(w:Wd)(i:Nat):Wd:=
 let r:=EZ w i
 E9 w ((i / 3:Nat):Int) ⟨5,((i / 3:Nat):Int),(w.C[i / 3]?).getD 0,((i % 3:Nat):Int),r.a,r.c,r.at',DL r.D,false,EY r.D r.at'⟩
def EH(w:Wd)(i:Nat):Wd:=
 let r:=EZ w i
 if r.g=false then w
 else if 1<r.C then EA w i {r with C:=r.C-1}
 else if r.e=0 then EA w i {r with C:=r.C-1,g:=false}
 else Ex (EA w i {r with C:=w.c.c,e:=r.e-1}) i
def Nh(w:Wd):Wd:=(List.range w.b).foldl (λw (i:Nat)=>(List.range w.c.a.toNat).foldl (λw (k:Nat)=>EM w i k) w) w
def Ni(w:Wd):Wd:=(List.range 9).foldl EH (Nh w)
def off(w:Wd)(i:Int):Prop:=i<0\/w.D<=i
instance (w:Wd) (i:Int):Decidable (off w i):=by unfold off;infer_instance
def MC(w:Wd)(i:Int):Int×List UInt8×Int:=if off w i then (0,[],9) else match w.D[i.toNat]? with
 |none=>(0,[],9)
 |some f=>(f.to,f.s,0)
def JM(w:Wd)(i:Int):Int×Wd:=if off w i then (9,w) else (0,{w with D:=w.D.eraseIdx i.toNat})
def JA(w:Wd)(i:Int):Int×Wd:=if off w i then (9,w) else if 40<=w.D.length then (12,w) else match w.D[i.toNat]? with
 |none=>(9,w)
 |some f=>(0,{w with D:=w.D++[f]})
def Jz(w:Wd)(i at' by':Int):Int×Wd:=if off w i then (9,w) else match w.D[i.toNat]? with
 |none=>(9,w)
 |some f=>
  if at'<0\/(f.s.length:Int)<=at'\/by'<1\/255<by' then (9,w)
  else if f.a=true then (18,w)
  else (0,{w with D:=w.D.set i.toNat ⟨f.to,f.s.set at'.toNat ((f.s.getD at'.toNat 0) ^^^ b8 by'),true⟩})
end R
def Gg(w:Aa)(F:D9)(V:Ad)(l:List R.It):Prop:=(l=[]/\V=.slice none 0 0)\/∃b off cap cur,l≠[]/\V=.slice (Y b off) l cap/\l<=cap/\F b/\w.heap[b]?=some (.cells cur 73 (0,0))/\∀j x,l[j]?=some x->cur[off+j*2]?=Z x.1/\cur[off+j*2+1]?=some (.string x.2)
theorem Gg.J{V:Ad}{l:List R.It}(h:Gg w F V l):Go.Proofs.YtblomippkddgiabGreatDoor.V.Ff w V l:=by grind [Gg,Go.Proofs.YtblomippkddgiabGreatDoor.V.Ff,World.cell?]
theorem Gg.nil(w:Aa)(F:D9):Gg w F Dz []:=Aj ⟨rfl,rfl⟩
theorem Gg.keep{V:Ad}{l:List R.It}(h:Gg w F V l)(hk:DF E w w')(c:∀b a,F b->Dy w b a 73->¬E b)(d:∀k,F k->F' k):Gg w' F' V l:=by grind [Gg,DF]
def OZ(w:Aa)(F:D9)(V:Ad)(l:List R.It):Prop:=(l=[]/\∃a,V=.slice a 0 0)\/Gg w F V l
theorem OZ.keep{V:Ad}{l:List R.It}(h:OZ w F V l)(hk:DF E w w')(c:∀b a,F b->Dy w b a 73->¬E b)(d:∀k,F k->F' k):OZ w' F' V l:=by
 rcases h with h|h
 .exact Aj h
 .exact Am (h.keep hk c d)
namespace R
variable {s:List UInt8}{i j k:Nat}
structure O0(l:Ln):Prop where
 a:0<=l.a/\l.a<=999
 one:l.d=1->1<=l.a/\(1<=l.c/\l.c<=255)/\(1<=l.b.length/\l.b.length<=72)/\(0<=l.X/\l.X<=DL l.b)/\(1<=l.C/\l.C<=8)/\(0<=l.e/\l.e<=6)
structure af2(G:Wd)(c:Cl):Prop where
 a:(c.a.length:Int)=G.c.a
 b:1<=c.b/\c.b<=255
 d:∀u∈c.d,1<=u/\u<=(G.a.length:Int)
 H:∀(k:Nat) (l:Ln),c.a[k]?=some l->O0 l
structure Wf(G:Wd):Prop where
 cf:GA G.c
 a:(G.b.length:Int)=G.c.b
 cl:∀(i:Nat) (c:Cl),G.b[i]?=some c->af2 G c
 X:G.D.length<=40
 b:∀f∈G.D,f.s.length<=21
 sv:G.a.length<=255
 e:∀s∈G.a,0<=s.J/\s.J<=2
 nm:G.e.length<=6
 st:G.f.length=G.e.length
 nd:G.e.Nodup
 d:∀u∈G.f,1<=u/\u<=(G.a.length:Int)
theorem FH{G:Wd}{c:Cl}{l:Ln}(hc:G.b[i]?=c)(hl:c.a[k]?=l):Ia G i k=l:=by
 simp[Ia,hc,hl]
theorem GH{G:Wd}{c:Cl}(hc:G.b[i]?=c):Qj G i=c.b:=by
 simp[Qj,hc]
theorem Ft{G:Wd}{l:Ln}:(Eh G i k l).b[j]?=(G.b[j]?).map λc=>if i=j then {c with a:=c.a.set k l} else c:=by grind [Eh]
theorem Wf.h{G:Wd}(h:Wf G){l':Ln}(hl:O0 l'):Wf (Eh G i k l'):=by
 refine⟨h.cf,by simpa [R.Eh] using h.a,λj c hc=>?_,h.X,h.b,h.sv,h.e,h.nm,h.st,h.nd,h.d⟩;rw[Ft]at hc;cases hj:G.b[j]? with
 |none=>rw[hj]at hc;cases hc
 |some c0=>
  rw[hj]at hc;have a:=h.cl j c0 hj;simp only[Ce,Option.some.injEq]at hc;subst hc;split
  .refine⟨by simpa [R.Eh] using a.a,a.b,a.d,λm x b=>?_⟩;simp only[Bf]at b;split at b
   .split at b
    .cases b;exact hl
    .cases b
   .exact a.H m x b
  .exact⟨a.a,a.b,a.d,a.H⟩
theorem Wf.J{G:Wd}(h:Wf G){to:Int}{p:Pk}(d:EC p):Wf (E9 G to p):=by
 unfold R.E9;split
 .rename_i hl;refine⟨h.cf,h.a,λj c hc=>?_,Fy,λf a=>?_,h.sv,h.e,h.nm,h.st,h.nd,h.d⟩
  .have b:=h.cl j c hc;exact⟨b.a,b.b,b.d,b.H⟩
  .rcases Bj.1 a with a|a
   .exact h.b f a
   .simp only[Bg]at a;subst a;have:=Mm d;simp[Gq,Ha,nums,EU];omega
 .exact h
theorem ID(h:1<=s.length):1<=DL s:=by unfold DL;omega
theorem IV(h:s.length<=72):DL s<=9:=by unfold DL;omega
theorem LA{k:Int}:(EY s k)=min 8 (s-8*k.toNat):=by simp[EY]
theorem NB{k:Int}(a:0<=k):if k<DL s-1 then (EY s k).length=8 else (EY s k).length<=8:=by grind [LA,DL]
theorem LF{a:Int}:8*a<s↔a<DL s:=by unfold DL;omega
def Ns(G:Wd)(i k:Nat)(l:Ln)(Ga:Bool):Pk:=⟨1,i,Qj G i,k,l.a,l.c,l.X,DL l.b,Ga || decide (l.X<DL l.b-1),EY l.b l.X⟩
def Mx(G:Wd)(i k:Nat)(l:Ln):Pk:=⟨3,i,Qj G i,k,l.a,l.c,0,1,true,[]⟩
theorem Pv{G:Wd}(h:Wf G){c:Cl}{l:Ln}(hc:G.b[i]?=c)(hl:c.a[k]?=l)(b:l.d=1)(g:l.X<DL l.b)(Ga:Bool):EC (Ns G i k l Ga):=by
 have hi:=GG hc;have hk:=GG hl;have a:=h.cl i c hc;have⟨m,n,o,p,q,r⟩:=(a.H k l hl).one b;have j:=(a.H k l hl).a;have hn:=h.a;have d:=h.cf;have f:=a.a;have e:=a.b
 grind [Ln,DL,EC,Ns,IV,NB,GH,GA,Ju]
theorem Ow{G:Wd}(h:Wf G){c:Cl}{l:Ln}(hc:G.b[i]?=c)(hl:c.a[k]?=l)(b:l.d=1):EC (Mx G i k l):=by
 have hi:=GG hc;have hk:=GG hl;have a:=h.cl i c hc;have⟨j,m,n,o,p,q⟩:=(a.H k l hl).one b;have g:=(a.H k l hl).a;have hn:=h.a;have d:=h.cf;have f:=a.a;have e:=a.b
 grind [EC,Mx,GH,GA,Ju]
theorem MK{G:Wd}{l:Ln}(hl:Ia G i k=l)(Ga:Bool):EG G i k Ga=E9 G (-1) (Ns G i k l Ga):=by
 unfold EG;rw[hl];rfl
theorem V4{G:Wd}{l:Ln}(hl:Ia G i k=l):Lq G i k=E9 G (-1) (Mx G i k l):=by
 unfold Lq;rw[hl];rfl
end R
namespace V
variable {G b cap j k m:Nat}{O:Value}
abbrev str(l:Ac):ByteArray:=⟨l.toArray⟩
theorem Er(l:Ac):(str l)=l.length:=by simp[ByteArray.size]
theorem Ho(l:Ac)(a b:Nat):(str l).extract a b=str ((l.drop a).take (b-a)):=by
 exact wO
theorem UG(w:Aa)(l:Ac)(M:Array Value)(a:M=l.length):
  (Builtin.copy_ #[281,9] 3 #[EJ w l l,.string (str l)]).run prog (w.alloc (.cells M 5))=.ok (goInt l) ((w.alloc (.cells M 5)).setRow w (Ku l).toArray):=by
 have h:=Lib.run_copy_row_string (P:=prog) (w.alloc (.cells M 5)) 281 9 3 5 w.heap.size 0 l.length l.length (str l) M 5 underlying281 EL (AF w _) (by rw[Er];exact Ar _) (by rw[Er];omega);exact abQ
theorem UH(w:Aa)(l:Ac)(M:Array Value)(a:l≠[])(hl:l.length<=1000):
  (Builtin.unsafeString_ #[330,3] 9 #[.pointer (EN w 0),Z l]).run prog ((w.alloc (.cells M 5)).setRow w (Ku l).toArray)=.ok (.string (str l)) (((w.alloc (.cells M 5)).setRow w (Ku l).toArray).freeze (EN w 0) l):=by
 have b:=setRow_heap (w.alloc (.cells M 5)) w.heap.size M (Ku l).toArray 5 (0,0) (AF w _);have c:(Ku l).toArray.size=l.length:=by simp[Ku]
 refine Lib.run_unsafeString_row (P:=prog) _ 330 3 9 5 underlying330 EL w.heap.size l.length ?_ l a (Ar _) U λj x d=>?_
 .grind [World.shape?]
 .refine Lib.cells_of_row b l.length j _ ?_
  grind [Ku]
theorem QN(l:Ac)(w:Aa)(hl:l.length<=1000):D7 200 #[.string (str l)] w (.string (str l)) (DY w):=by
 have hsz:=Er l;by_cases h0:l=[]
 .exact acD
 .have⟨i0,hi,hz0,hz1,hz2⟩:=A1 info5;have a:=Cg.2 h0;obtain⟨M,hM⟩:∃M,M=madeCells (Value.int .u8 0).cells (l.length*1):=DR;have hMs:M.size=l.length:=by rw[hM,Dg];omega
  have b:∀W:World,(Instr.makeSlice 281 (Z (l.length:Int)) (Z (l.length:Int))).run prog W=.ok (EJ W.heap.size l.length l.length) (W.alloc (.cells M 5)):=λW=>by
   exact afR
  exact afw
theorem Kr(l:Ac)(w:Aa)(hl:l.length<=1000):D7 146 #[.string (str l)] w (.string (str l)) (DY w):=by
 have H:=Dx (QN l w hl);generalize hS:str l=S at *;clear hS;exact acd
def Rd(w:Aa)(b:Nat)(l:Ac)(O:Ad):Prop:=w.heap[b]?=some (.cells #[.string (str l),Z 6,O] 306 (0,0))
theorem Rd.left{l:Ac}(h:Rd w b l O):w.cell? (Y b 0)=some (.string (str l)):=by grind [Rd,World.cell?]
theorem Rd.WC{l:Ac}(h:Rd w b l O):w.cell? (Y b 1)=Z 6:=by grind [Rd,World.cell?]
theorem Rd.J{l:Ac}(h:Rd w b l O):w.cell? (Y b 2)=O:=by
 unfold Rd at h;simp[World.cell?,h]
theorem Rd.thaw{l:Ac}(h:Rd w b l O)(o:Nat):DJ w b o:=by grind [Rd,World.frozen?]
theorem Rd.lt{l:Ac}(h:Rd w b l O):b<w:=Dv h
theorem Rd.set0{l:Ac}(h:Rd w b l O)(l':Ac):Rd (w.setCell (Y b 0) (.string (str l'))) b l' O:=by grind [Rd,World.setCell]
theorem Rd.set1{l:Ac}(h:Rd w b l O)(x:Ad):Rd (w.setCell (Y b 2) x) b l x:=by
 unfold Rd at h ⊢;exact xw
theorem Rd.h{l:Ac}(h:Rd w b l O)(a:DY w w'):Rd w' b l O:=by
 have hl:=h.lt;unfold Rd at h ⊢;rw[a.block b hl];exact h
theorem RQ(c:EB w b 1 (Z 6)):ET 213 #[.pointer (Y b 0)] w λe a=>e=EQ 6 0/\a=w:=by
 delta ET
 go_in
 go_wp2;exact⟨I,I,I⟩
theorem JR(b:Nat)(l:Ac)(O:Ad)(w:Aa)(h:Rd w b l O):ET 213 #[.pointer (Y b 0)] w λe a=>e=EQ 6 0/\a=w:=RQ h.WC
theorem ME(b:Nat)(l:Ac)(O:Ad)(n:Nat)(w:Aa)(h:Rd w b l O)(hn:n<=l)(hl:l.length<=1000):
  D7 246 #[.pointer (Y b 0),Z n] w (.string (str (l.take n))) λa=>a=w.setCell (Y b 0) (.string (str (l.drop n))):=by
 have c:=h.left;have d:=h.thaw 0;have hsz:=Er l;have e1:(str l).extract 0 n=str (l.take n):=by rw[Ho];simp
 have e2:(str l).extract n (str l).size=str (l.drop n):=by
  exact wI
 generalize hS:str l=S at *;generalize hA:str (l.take n)=A at *;generalize hB:str (l.drop n)=B at *;clear hS hA hB h;exact adR
def flat:List It->List Value
 |[]=>[]
 |x :: v=>.int .i64 x.1 :: .string x.2 :: flat v
theorem I5:∀v:List It,(flat v).length=v.length*2
 |[]=>rfl
 |x :: v=>by simp only[flat,A4,I5 v];omega
theorem flat_get:∀(v:List It) (j:Nat) (x:It),v[j]?=some x->(flat v)[j*2]?=some (Z x.1)/\(flat v)[j*2+1]?=some (.string x.2)
 |[],j,x,h=>by simp at h
 |y :: v,0,x,h=>by
  simp at h;subst h;exact DN
 |y :: v,j+1,x,h=>by
  have:=flat_get v j x (by simpa using h);rw[show (j+1)*2=j*2+1+1 by omega];simpa [flat] using this
theorem Oe:∀v:List It,∀u∈flat v,u.oneCell'=true
 |[],u,h=>by cases h
 |x :: v,u,h=>by
  simp only[flat,CX]at h;rcases h with rfl|rfl|h
  .rfl
  .rfl
  .exact Oe v u h
theorem eD{d:Addr}{v:List It}(h:Ff w (.slice (d) v cap) v):∀j u,(flat v)[j]?=some u->w.cell? (d.add j)=some u:=by
 have⟨a,e,g,_,h⟩:=h;cases g;rcases h with rfl|⟨b,off,i,hl,n⟩
 .intro j u f;simp[flat]at f
 .cases i;intro j u f;have k:j<v.length*2:=by grind [I5]
  obtain⟨x,c⟩:∃x,v[j / 2]?=some x:=⟨_,Ah U⟩;have⟨l,m⟩:=flat_get v (j / 2) x c
  grind [Addr.add]
theorem LQ:(prog.info? 73).map (λi=>(i.zero,i.size,i.bytes))=some (some (.agg #[Z 0,.string ⟨#[]⟩]),2,24):=EL
theorem zp:(prog.info? 73).map (·.size)=some 2:=EL
theorem oA{P:Program}(w:Aa)(n r ty c:Ag)(g b f:Nat)(a:Addr)(d l:Nat)(e:Array Value)(t:Ag)(cs:Ae)
  (hu:P.underlying n=some (.slice c)) (o:(P.info? c).map (·.size)=some 2)
  (q:Dy w g e t) (hn:cs=Nat.min d b*2)
  (k:∀j v,cs[j]?=some v->w.cell? (a.add j)=some v) (h:cs<=e.size) (p:∀v∈cs,v.oneCell'=true):
  (Builtin.copy_ #[n,r] ty #[EJ g b f,.slice (a) d l]).run P w =
   .ok (goInt (Nat.min d b)) (w.setRow g (cs++e.toList.drop cs).toArray):=by
 have m:=run_storeCells_at P g 0 t cs 0 e w q (by simpa using h) p;cases hq:P.info? c with
 |none=>simp[hq]at o
 |some i=>
  have hi:i.size=2:=by simpa [hq] using o
  simp[Builtin.copy_,run_underlying hu,Builtin.lenOf,Builtin.firstCells,sizeOf,typeInfo,hq,hi,hn.symm,(run_loadCells_list (P:=P) w a cs k),m]
def Iu:It:=(-77,⟨#[98,101,121,111,110,100]⟩)
abbrev Tp(x:It):Value:=.agg #[Z x.1,.string x.2]
def I9(w:Aa)(G m k:Nat)(l:List It):Prop:=∃cur,w.heap[G]?=some (.cells cur 73 (0,0))/\cur=m*2/\∀j x,k<=j->l[j]?=some x->cur[j*2]?=Z x.1/\cur[j*2+1]?=some (.string x.2)
theorem I9.lt{l:List It}(h:I9 w G m k l):G<w:=by grind [I9]
theorem I9.h{l:List It}(h:I9 w G m k l)(b:DY w w'):I9 w' G m k l:=by
 have⟨a,c,r⟩:=h;exact⟨a,by rw[b.block G h.lt];exact c,r⟩
theorem I9.at{l:List It}(h:I9 w G m k l){x:It}(hk:k<=j)(a:l[j]?=x):w.cell? (Y G (j*2))=Z x.1/\w.cell? (Y G (j*2+1))=some (.string x.2):=by grind [I9,World.cell?]
theorem I9.has{l:List It}(h:I9 w G m k l)(e:j<m):∃a b,w.cell? (Y G (j*2))=some a/\w.cell? (Y G (j*2+1))=some b:=by
 have⟨c,d,f,_⟩:=h;refine⟨c[j*2]'U,c[j*2+1]'U,?_,?_⟩;all_goals grind [World.cell?]
theorem I9.thaw{l:List It}(h:I9 w G m k l)(o:Nat):DJ w G o:=by grind [I9,World.frozen?]
theorem I9.set{l:List It}(h:I9 w G m k l)(d:j<m)(x:It):
  I9 ((w.setCell (Y G (j*2)) (Z x.1)).setCell (Y G (j*2+1)) (.string x.2)) G m k (if j<l then l.set j x else l++[x])\/¬j<=l:=by
 by_cases hl:j<=l.length
 .refine Aj ?_;have⟨a,c,b,r⟩:=h;refine⟨(a.setIfInBounds (j*2) (Z x.1)).setIfInBounds (j*2+1) (.string x.2),?_,by simp[b],λi y hi e=>?_⟩;all_goals grind [World.setCell]
 .exact Am hl
theorem I9.snoc{l:List It}(h:I9 w G m k l)(a:l<m)(x:It):
  I9 ((w.setCell (Y G (l*2)) (Z x.1)).setCell (Y G (l*2+1)) (.string x.2)) G m k (l++[x]):=by
 rcases h.set a x with h|h;all_goals grind
theorem I9.from{l:List It}(h:I9 w G m k l)(a b:Ad):
  I9 ((w.setCell (Y G (k*2)) a).setCell (Y G (k*2+1)) b) G m (k+1) l:=by
 have⟨c,e,d,r⟩:=h;refine⟨(c.setIfInBounds (k*2) a).setIfInBounds (k*2+1) b,?_,by simp[d],λi y hi f=>?_⟩;all_goals grind [World.setCell]
theorem I9.J{l:List It}(h:I9 w G m 0 l){v e:List It}(hl:l=v++e)(b:v<=m):Ff w (EJ G v m) v:=by
 refine⟨_,_,I,b,Am ⟨G,0,I,h.lt,λj x a=>?_⟩⟩;have:=h.at (j:=j) (x:=x) (AV _) (by rw[hl,A6 (GG a)];exact a);simpa using this
theorem Zc(w:Aa)(n:Nat)(v:List It)(a:v=n)(z:Array Value):
  I9 ((w.alloc (.cells (madeCells z ((n+6)*2)) 73)).setRow w (flat v++(madeCells z ((n+6)*2)).toList.drop (flat v)).toArray) w (n+6) 0 v:=by
 refine⟨(flat v++(madeCells z ((n+6)*2)).toList.drop (flat v).length).toArray,?_,?_,λj x _ b=>?_⟩
 .simp only[World.setRow,Cv,CQ];show Option.map _ ((w.heap.push _)[w.heap.size]?)=_;rw[Bz];rfl
 .simp[size_madeCells,I5,a];omega
 grind [flat_get,List.getElem?_append_left]
theorem Tx(w:Aa):D7 175 #[] w (Tp Iu) (DY w):=by
 delta D7
 go_in
 go_wp2;exact Bm (v:=Tp Iu) (by simp[results,results175,go_sem,Iu]) I ⟨I,F9⟩
theorem notNil(a:Addr)(n cap:Nat)(w:Aa):(binOp .eql 37 (.slice (a) n cap) Dz).run prog w=.ok DI w:=EL
theorem isNil(n cap:Nat)(w:Aa):(binOp .eql 37 (.slice none n cap) Dz).run prog w=.ok DC w:=EL
theorem US(v:List It)(k:Nat)(x:It):v++List.replicate k x++[x]=v++List.replicate (k+1) x:=by grind [List.replicate_succ']
theorem sN(w:Aa)(o:Addr)(cap:Nat)(v:List It)(h:Ff w (.slice (o) v cap) v)(hn:v.length<=9000000000000):
  D7 110 #[.slice (o) v cap] w (EJ w v (v+6)) λN=>I9 N w (v+6) 0 (v++List.replicate 6 Iu)/\DY w N:=by
 obtain⟨n,c⟩:∃n,n=v.length:=DR;have⟨i0,hi,G,H,J⟩:=A1 LQ;obtain⟨z,r⟩:∃z:Array Value,z=(Value.agg #[Z 0,.string ⟨#[]⟩]).cells:=DR;have W:∀u:World,(Instr.makeSlice 37 (Z ((n:Int)+6)) (Z ((n:Int)+6))).run prog u=.ok (EJ u.heap.size (n+6) (n+6)) (u.alloc (.cells (madeCells z ((n+6)*2)) 73)):=λu=>by
  have h:=run_make (P:=prog) u 37 73 i0 _ underlying37 hi G .i64 .i64 ((n:Int)+6) ((n:Int)+6) U (BK _) (by rw[J];omega) U;have e:((n:Int)+6).toNat=n+6:=U;rw[e,H,<-r]at h;exact h
 have⟨HF,O⟩:=FU (eD h) Tx;rw[<-c];have C:=Dx c;have aa:n<=9000000000000:=U;have K:=Dx (Zc w n v c.symm z);have E:(flat v).length=n*2:=by rw[I5,<-c]
 have Q:Hid (Dy (w.alloc (.cells (madeCells z ((n+6)*2)) 73)) w.heap.size (madeCells z ((n+6)*2)) 73):=by
  show (w.heap.push _)[w.heap.size]?=_;rw[Bz]
 have A:Hid (∀j u,(flat v)[j]?=some u->(w.alloc (.cells (madeCells z ((n+6)*2)) 73)).cell? (o.add j)=some u):=by
  intro j u T;have L:=HF j u T;exact(AR (w:=w) (AL w _ _ (by
   rcases CR (o.add j).block w.heap.size with F|F
   .exact F
   .simp[World.cell?,Array.getElem?_eq_none F]at L))).trans L
 have M:=notNil o n cap;have f:Nat.min n (n+6)=n:=Ct U;have p:=oA (P:=prog) (w.alloc (.cells (madeCells z ((n+6)*2)) 73)) 37 37 3 73 w.heap.size (n+6) (n+6) o n cap (madeCells z ((n+6)*2)) 73 (flat v) underlying37 zp Q (by rw[E,f]) A (by rw[Dg];omega) (Oe v);rw[f]at p;obtain⟨D,l⟩:∃D,D=(w.alloc (.cells (madeCells z ((n+6)*2)) 73)).setRow w.heap.size (flat v++(madeCells z ((n+6)*2)).toList.drop (flat v).length).toArray:=DR;have y:Hid (DY w D):=by
  rw[l];exact below_setRow F9 (Ar _) _
 rw[<-l]at p K;clear r h c hn l
 delta D7
 go_in
 go_wp2;go_loopw [5] (λiv wr=>∃i:Nat,n<=i/\i<=n+6/\iv=Z i/\I9 wr w.heap.size (n+6) 0 (v++List.replicate (i-n) Iu)/\DY w wr) (λiv _=>n+6-(intOf iv).toNat)
 case atStart=>
  refine⟨n,Ar _,U,I,?_,y⟩;rw[CZ,List.replicate_zero,Cb];exact Dw K
 case round=>
  obtain⟨i,X,S,rfl,s,t⟩:=hrel;by_cases q:i<n+6
  .have g:=Dx s;have d:=Dx t;clear s t;go_wp2_with fail
   refine cm (O _) λw1 m=>?_
   have a:=g.h m;have⟨a0,a1,c0,c1⟩:=a.has q;have z0:=a.thaw (i*2);have z1:=a.thaw (i*2+1);have b:(v++List.replicate (i-n) Iu).length=i:=by rw[AJ,BN,<-Dw C];omega
   have k:=a.snoc (by rw[b];exact q) Iu;rw[b,US,show i-n+1=i+1-n by omega]at k;have⟨B,x⟩:=FU k (d.trans (m.mono d.size));clear a k m b;go_wp2;go_roundw
   case rel=>exact⟨i+1,U,U,Kc,B,(x.setCell Ev _).setCell Ev _⟩
   case measure=>exact Kt
  .obtain rfl:i=n+6:=U;have⟨g,d⟩:=FU s t;clear s t;go_wp2
   go_ret
   refine⟨I,?_,d⟩;have:=Dw g;rw[show n+6-n=6 by omega]at this;exact this
end V
end Go.Proofs.YtblomippkddgiabGreatDoor
