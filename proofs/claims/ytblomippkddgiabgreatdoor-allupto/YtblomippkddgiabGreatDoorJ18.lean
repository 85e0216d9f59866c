import Derived.Test.YtblomippkddgiabGreatDoorJ17
set_option maxRecDepth 100000
set_option maxHeartbeats 4000000
namespace Go.Proofs.YtblomippkddgiabGreatDoor
open Go.Proofs.Tryz RowKit ChangeShapes WideShapes ChangeAt WideMaps WideElems
variable {L:List V.Kp}{A N b c c0 cc g i n n0 q vb:Nat}{z:Nat→Option Obj}{o:LD}{K X lv v:Value}{W w w0 w2 wr:World}
namespace V
open Go.ChangeMaps (open_string shut_string)
theorem we:∃a b,prog.underlying 73=some (.struct #[a,b])/\a.offset=0/\b.offset=1/\a.type=3/\b.type=9:=⟨_,_,underlying73,rfl,rfl,rfl,rfl⟩
theorem sF{H:Type}{enc:TypeId×Value->H}{d:DataW H}{p:List MemPlace}{a0:Af}(z:v=.slice a0 n0 c0)(h:DataW.Trod enc prog W 0 (λ_=>true) true 37 v d p):
  (v=Dz)\/∃(t:Addr) (cap:Nat) (l:List It) (g C:List (DataW H)),v=.slice (t) l cap/\Ff W v l/\d=.slice g C/\g=l.length:=by
 subst z;have⟨fuel,h⟩:=h;simp only[Value.cells]at h;have⟨E,F,w,A,B,r,s⟩:=we;rcases Deep.open_slice_pairs underlying37 w EL A B (by rw[r];kernel_rfl) (by rw[s];kernel_rfl) h with ⟨h1,_⟩|⟨a,len,cap,m,n,V0,V1,D0,D1,P0,P1,h1,_,hl,hm,hmm,hx,hc⟩
 .left;simpa using h1
 .right;have q:Value.slice a0 n0 c0=.slice (some a) len cap:=by simpa using h1
  rw[Ay rfl]at hmm;have each:∀i,i<len->∃x:It,V0 i=Z x.1/\V1 i=.string x.2:=by
   intro i hi;have⟨_,_,g0,g1⟩:=hc i U;rw[r]at g0;rw[s]at g1;have⟨k,e0,_⟩:=DataW.trod_int underlying3 g0;have⟨S,e1,_⟩:=DataW.trod_string underlying9 g1;exact⟨(k,S),by simpa using e0,by simpa using e1⟩
  obtain⟨X,G⟩:∃X:Nat->It,∀i,i<len->V0 i=Z (X i).1/\V1 i=.string (X i).2:=by
   refine⟨λi=>if h:i<len then Classical.choose (each i h) else (0,⟨#[]⟩),λi hi=>?_⟩
   grind
  have c:((List.range len).map X).length=len:=Ev;simp only[Prod.mk.injEq]at hx;refine⟨a,cap,(List.range len).map X,_,_,by rw[c];exact q,?_,hx.1,Ev⟩;rw[q];refine⟨some a,cap,by rw[c],by rw[c];exact hl,?_⟩;by_cases u:len=0
  .left;rw[u];rfl
  .right;have⟨f,_,_,_⟩:=hc 0 U;have e:a.spot=none:=by
    cases e:a.spot with
    |none=>rfl
    |some y=>grind [World.cell?,Addr.add]
   have⟨b,off,D⟩:=a;simp only at e;subst e;refine⟨b,off,I,lt_of_cell (o:=off+0*2) (v:=V0 0) (by simpa [Addr.add] using f),λj x J=>?_⟩
   grind [Addr.add]
theorem yA:prog.bytesOf 73=24:=EL
theorem ag7(s:Ab)(w:Aa)(b:¬s.size<=40):
  ET 173 #[.string s] w λe a=>e=EQ 1 0/\DY w a:=by
 have h:(40:Int)<(s.size:Int):=U
 delta ET
 go_in
 go_wp2;exact⟨I,I,F9⟩
theorem agZ(s:Ab)(w:Aa)(b:s.size<=40)(a:(Pt.ty (nx s) (s+1) 0).1=false):
  ET 173 #[.string s] w λe c=>e=EQ 2 (Pt.ty (nx s) (s+1) 0).2/\DY w c:=by
 have H:=adp s b w;unfold Ja at H;simp only[a,agx,agv]at H
 delta ET
 go_in
 go_wp2_with fail
 refine cm H λd hk=>?_
 go_wp2;exact⟨I,I,qK (((DF.refl _ _).alloc _).trans hk) U⟩
theorem ag8(s:Ab)(w:Aa)(i:s.size<=40)(d:(Pt.ty (nx s) (s+1) 0).1=true)(p:(Pt.ty (nx s) (s+1) 0).2<s):
  ET 173 #[.string s] w λe j=>e=EQ 2 (Pt.ty (nx s) (s+1) 0).2/\DY w j:=by
 have H:=adp s i w;unfold Ja at H;simp only[d,CQ]at H;generalize (Pt.ty (nx s) (s.size+1) 0).2=q at *;have g:(q:Int)<(s.size:Int):=U
 delta ET
 go_in
 go_wp2_with fail
 refine H.mono ?_;rintro e r ⟨c0,c1,c2,rfl,hk,a,h⟩;obtain⟨⟨u,rfl⟩,⟨x1,rfl⟩,⟨k,m,l,rfl⟩⟩:=GN h;have n:=λo=>(a.alloc o).place
 have b:=((DF.refl (w.heap.size+1) (w.alloc IZ)).alloc _).trans hk;have f:=a.lt;go_wp2_with fail
 refine cm (pU (w.heap.size+1) q s _ (a.alloc _)) λt c=>?_
 go_wp2;exact⟨I,I,qK ((b.alloc _).trans c) U⟩
theorem ag6(s:Ab)(w:Aa)(T:s.size<=40)(N:(Pt.ty (nx s) (s+1) 0).1=true)(Q:(Pt.ty (nx s) (s+1) 0).2=s):
  ET 173 #[.string s] w λe r=>(if 4<Pt.Lj (nx s) (s+1) 0 then e=EQ 3 0 else ∃c0 c1 c2,e=.returned (.agg #[c0,c1,c2])/\NP r (λk=>w<=k) (nx s) (s+1) 0 c0 c1 c2)/\DY w r:=by
 have H:=adp s T w;unfold Ja at H;simp only[N,CQ,Q]at H;have M:=λS c0 c1 c2 r h=>lJ (nx s) (s.size+1) U 0 S c0 c1 c2 r h
 generalize hd:Pt.Lj (nx s) (s.size+1) 0=d at *;have J:d<=41:=by have:=dA (nx s) (s.size+1) 0;omega
 have E:=Dx M;by_cases G:4<d
 .have x:(4:Int)<d:=U;simp only[G,CQ]
  delta ET
  go_in
  go_wp2_with fail
  refine H.mono ?_;rintro e j ⟨c0,c1,c2,rfl,hk,q,m⟩;obtain⟨⟨i,rfl⟩,⟨x1,rfl⟩,⟨c,g,f,rfl⟩⟩:=GN m;have P:=λo=>(q.alloc o).place
  have b:=((DF.refl (w.heap.size+1) (w.alloc IZ)).alloc _).trans hk;have n:=Dx (λo=>GM ((Hq.refl _ _).alloc o) m);go_wp2_with fail
  refine cm (E _ _ _ _ _ (Dw n _)) λt a=>?_
  go_wp2;refine⟨I,I,(qK (b.alloc (.cells #[.int .u8 i,Z x1,.slice c g f] 262)) U).trans (a.mono ?_)⟩;have:=b.size;simp at this ⊢;omega
 .have x:¬(4:Int)<d:=U;simp only[G,agv]
  delta ET
  go_in
  go_wp2_with fail
  refine H.mono ?_;rintro e j ⟨c0,c1,c2,rfl,hk,q,m⟩;obtain⟨⟨i,rfl⟩,⟨x1,rfl⟩,⟨c,g,f,rfl⟩⟩:=GN m;have P:=λo=>(q.alloc o).place
  have b:=((DF.refl (w.heap.size+1) (w.alloc IZ)).alloc _).trans hk;have F:=((NZ.new w (.int .u8 0) (Z 0) (.slice none 0 0)).H b U).alloc (.cells #[.int .u8 i,Z x1,.slice c g f] 262);have K:=NZ.new j (.int .u8 i) (Z x1) (.slice c g f);have O:=F.lt;have W:w.heap.size+1<j.heap.size:=q.lt;have n:=Dx m;go_wp2_with fail
  refine cm (E _ _ _ _ _ (GM ((Hq.refl _ _).alloc _) n)) λt a=>?_
  have y:∀k o,k<j.heap.size+1->t.cell? (Y k o)=(j.alloc (.cells #[.int .u8 i,Z x1,.slice c g f] 262)).cell? (Y k o):=λk o hk=>a.cell (p:=Y k o) (by simpa using hk)
  have z:∀k o,k<j.heap.size+1->t.frozen? (Y k o)=(j.alloc (.cells #[.int .u8 i,Z x1,.slice c g f] 262)).frozen? (Y k o):=λk o hk=>a.frozen (p:=Y k o) (by simpa using hk)
  obtain⟨u0,u1,u2,X,v1,v2⟩:=F.facts;obtain⟨B,C,D,y0,y1,y2⟩:=K.facts;rw[<-y _ _ U]at u0 u1 u2 B C D;rw[<-z _ _ U]at X v1 v2 y0 y1 y2;go_wp2;have A:=a.size;have l:=hk.size;simp at A l;refine Bm (v:=.agg #[.int .u8 i,Z x1,.slice c g f]) (by simp[results,results173,go_sem,u0,u1,u2]) I ⟨⟨_,_,_,I,?_⟩,?_⟩
  .have u:NP j (λk=>w.heap.size+2<=k) (nx s) (s.size+1) 0 (.int .u8 i) (Z x1) (.slice c g f):=by simpa using Dw n
   have L:=GM (((Hq.refl _ _).alloc (.cells #[.int .u8 i,Z x1,.slice c g f] 262)).trans (⟨a.size,λk _ hl=>a.block k hl⟩:Hq (λk=>w.heap.size+2<=k) _ t)) u;refine Ke (λk hk _=>by omega) (GM ?_ L);exact(((Hq.refl _ _).setCell Ev _).setCell Ev _).setCell Ev _
  .have u:=(qK (b.alloc (.cells #[.int .u8 i,Z x1,.slice c g f] 262)) U).trans (a.mono Fy);exact((u.setCell Ev _).setCell Ev _).setCell Ev _
theorem agV(a0 a1 B:Nat)(n q:Nat)(a:List PanicEntry)(w:Aa)(d:w.cell? ⟨a0,0,none⟩=some (.int .i64 0))(f:w.cell? ⟨a1,0,none⟩=some (.int .i64 0))(j:w.frozen? ⟨a0,0,none⟩=false)(k:w.frozen? ⟨a1,0,none⟩=false)(g:B<=a0)(h:B<=a1)(s:¬a0=a1):
  CallsD Tryz.prog 172 #[.pointer (some ⟨a0,0,none⟩),.pointer (some ⟨a1,0,none⟩)] (.panicking ({v:=.iface 161 (Gk n q),recovered:=false} :: a)) w λe x i=>
   e=.returned (.tuple #[])/\x=.panicking ({v:=.iface 161 (Gk n q),recovered:=true} :: a)/\i.cell? ⟨a0,0,none⟩=some (.int .i64 n)/\i.cell? ⟨a1,0,none⟩=some (.int .i64 q)/\Below B w i:=by
 refine callsD_of_wpS Tryz.func172 I λr cs hu=>?_
 apply wpS_seq;apply wpS_region;simp[wpOpsS,go_sem,recoverD,hu,Tryz.ntmps172,Exit.thenS];rw[show (#[Value.pointer (some {block:=a0,off:=0}),Value.pointer (some {block:=a1,off:=0})]++((Array.replicate 11 undef).setIfInBounds 2 (Value.iface 161 (Gk n q))).setIfInBounds 0 (Value.iface 161 (Gk n q)))=#[.pointer (some {block:=a0,off:=0}),.pointer (some {block:=a1,off:=0}),.iface 161 (Gk n q),undef,.iface 161 (Gk n q),undef,undef,undef,undef,undef,undef,undef,undef] from rfl];refine wpS_of_wp ?_;go_wp2_with fail
 refine(Px n q _).mono ?_;rintro e b ⟨rfl,c⟩;have l0:=lt_of_cell d;have l1:=lt_of_cell f;have s1:=c.size;have g0:b.cell? ⟨a0,0,none⟩=some (.int .i64 0):=(c.cell (p:=⟨a0,0,none⟩) l0).trans d;have g1:b.cell? ⟨a1,0,none⟩=some (.int .i64 0):=(c.cell (p:=⟨a1,0,none⟩) l1).trans f;have y:b.frozen? ⟨a0,0,none⟩=false:=(c.frozen (p:=⟨a0,0,none⟩) l0).trans j;have z:b.frozen? ⟨a1,0,none⟩=false:=(c.frozen (p:=⟨a1,0,none⟩) l1).trans k;have t:a0<b.heap.size:=by omega
 have u:a1<b.heap.size:=by omega
 have e0:¬b.heap.size=a0:=by omega
 have e1:¬b.heap.size=a1:=by omega
 have e2:¬a1=a0:=by omega
 clear d f j k;go_wp2
 go_region
 have l:((((b.setCell {block:=a0,off:=0} (Value.int IntKind.i64 ↑n)).setCell {block:=a1,off:=0} (Value.int IntKind.i64 ↑q)).alloc (Obj.cells #[Value.int IntKind.i64 ↑n,Value.int IntKind.i64 ↑q] 161)).drew).cell? ⟨a0,0,none⟩=some (.int .i64 n):=by simp[go_sem,g0,t]
 have m:((((b.setCell {block:=a0,off:=0} (Value.int IntKind.i64 ↑n)).setCell {block:=a1,off:=0} (Value.int IntKind.i64 ↑q)).alloc (Obj.cells #[Value.int IntKind.i64 ↑n,Value.int IntKind.i64 ↑q] 161)).drew).cell? ⟨a1,0,none⟩=some (.int .i64 q):=by simp[go_sem,g1,u]
 have o:Below B w ((((b.setCell {block:=a0,off:=0} (Value.int IntKind.i64 ↑n)).setCell {block:=a1,off:=0} (Value.int IntKind.i64 ↑q)).alloc (Obj.cells #[Value.int IntKind.i64 ↑n,Value.int IntKind.i64 ↑q] 161)).drew):=
  (((((c.mono (by omega)).setCell (by simpa using g) _).setCell (by simpa using h) _).alloc (by simp;omega) _)).drew
 show bodyPostS Tryz.prog Tryz.f172 r cs _ _ _ _ _;exact⟨I,_,I,_,results_none I _ _ _,I,I,l,m,o⟩
abbrev ag1(w:Aa):World:=(w.alloc (.cells #[.int .i64 0] 41)).alloc (.cells #[.int .i64 0] 3)
theorem agK(s:Ab)(w:Aa)(n q:Nat)(H:ET 173 #[.string s] (ag1 w) λe l=>e=EQ n q/\Below (ag1 w) (ag1 w) l):
  D7 108 #[.string s] w (.tuple #[Z n,Z q]) (DY w):=by
 have j:∀(fn:Fn) (first cap:Array Value) (w:Aa),(Instr.makeFunc fn first cap).run prog w=.ok (.func fn first cap) w:=λ_ _ _ _=>rfl
 have d:=Dx H
 go_enter_defers func108,ntmps108
 go_wp2_with fail
 refine cm d λb a=>?_
 have k:=a.size;simp at k;have c0:Kk b w 0 (Z 0):=(a.cell (p:=EN w 0) Fy).trans Vb;have c1:b.cell? (DG w 0)=some (Z 0):=(a.cell (p:=DG w 0) Ev).trans Vb;have o:b.frozen? (EN w 0)=false:=(a.frozen (p:=EN w 0) Fy).trans Vb;have r:b.frozen? (DG w 0)=false:=(a.frozen (p:=DG w 0) Ev).trans Vb;have c:DY w b:=(F9.alloc Ev _).trans (a.mono Fy);go_wp2;refine leaves_cons (f:=172) (args:=#[.pointer (some (EN w 0)),.pointer (some (DG w 0))]) Ev Vb ?_;refine(agV w.heap.size (w.heap.size+1) w.heap.size n q [] _ c0 c1 o r (Ar _) U U).mono ?_;rintro e t m ⟨rfl,rfl,g,h,i⟩;simp[Leaves,settle,results,results108,go_sem,g,h];exact c.trans i
theorem aho(s:Ab)(w:Aa)(H:ET 173 #[.string s] (ag1 w) λe i=>(∃c0 c1 c2,e=.returned (.agg #[c0,c1,c2]))/\Below (ag1 w) (ag1 w) i):
  D7 108 #[.string s] w (.tuple #[Z 0,Z 0]) (DY w):=by
 have g:∀(fn:Fn) (first cap:Array Value) (w:Aa),(Instr.makeFunc fn first cap).run prog w=.ok (.func fn first cap) w:=λ_ _ _ _=>rfl
 have d:=Dx H
 go_enter_defers func108,ntmps108
 go_wp2_with fail
 refine d.mono ?_;rintro e b ⟨⟨l,x1,x2,rfl⟩,a⟩;have h:=a.size;simp at h;have c0:Kk b w 0 (Z 0):=(a.cell (p:=EN w 0) Fy).trans Vb;have c1:b.cell? (DG w 0)=some (Z 0):=(a.cell (p:=DG w 0) Ev).trans Vb;have m:b.frozen? (EN w 0)=false:=(a.frozen (p:=EN w 0) Fy).trans Vb;have n:b.frozen? (DG w 0)=false:=(a.frozen (p:=DG w 0) Ev).trans Vb;have c:DY w b:=(F9.alloc Ev _).trans (a.mono Fy);go_wp2;refine leaves_cons (f:=172) (args:=#[.pointer (some (EN w 0)),.pointer (some (DG w 0))]) Ev Vb ?_;refine(Pw _ _ _).mono ?_;rintro e k j ⟨rfl,rfl,rfl⟩;simp[Leaves,settle,results,results108,go_sem,c0,c1];exact(c.setCell Ev _).setCell Ev _
theorem aht(s:Ab)(w:Aa):ET 108 #[.string s] w λe f=>e=M0 (Pt.O7 (nx s) s)/\DY w f:=by
 by_cases c:s.size<=40
 .have hn:¬40<s.size:=U;cases hT:(Pt.ty (nx s) (s.size+1) 0).1 with
  |false=>
   have e1:Pt.O7 (nx s) s.size=(2,(Pt.ty (nx s) (s.size+1) 0).2):=by simp[Pt.O7,hn,hT]
   rw[e1];exact agK s w _ _ (agZ s (ag1 w) c hT)
  |true=>
   obtain⟨_,d,_⟩:=Pt.agree (g:=nx s) (n:=s.size) (λp i=>Ot i) (s.size+1) 0 0 1 0 [] U U;obtain⟨j,k⟩:=d hT;by_cases b:(Pt.ty (nx s) (s.size+1) 0).2<s.size
   .have e1:Pt.O7 (nx s) s.size=(2,(Pt.ty (nx s) (s.size+1) 0).2):=by simp[Pt.O7,hn,hT,b]
    rw[e1];exact agK s w _ _ (ag8 s (ag1 w) c hT b)
   .have H:=ag6 s (ag1 w) c hT U;by_cases a:4<Pt.Lj (nx s) (s.size+1) 0
    .have e1:Pt.O7 (nx s) s.size=(3,0):=by simp[Pt.O7,hn,hT,b,a]
     rw[e1];simp only[a,CQ]at H;exact agK s w _ _ H
    .have e1:Pt.O7 (nx s) s.size=(0,0):=by simp[Pt.O7,hn,hT,b,a]
     rw[e1];simp only[a,agv]at H;refine aho s w (H.mono ?_);rintro e f ⟨⟨c0,c1,c2,h,_⟩,d⟩;exact⟨⟨c0,c1,c2,h⟩,d⟩
 .have e1:Pt.O7 (nx s) s.size=(1,0):=by
   have:40<s.size:=U;simp[Pt.O7,this]
  rw[e1];exact agK s w _ _ (ag7 s (ag1 w) c)
theorem ahC(s:Ab)(w:Aa):D7 67 #[.string s] w DC (DY w):=by
 obtain⟨e,f⟩:=FU (λw=>aht s w) (λw=>Qn s w);generalize Pt.O7 (nx s) s.size=res at *;obtain⟨a,b⟩:=res
 delta D7
 go_in
 go_wp2_with fail
 refine cm (e _) λg c=>?_
 go_wp2_with fail
 refine cm (f _) λh d=>?_
 go_wp2_with (go_at_call 66;go_in)
 go_ret
 exact⟨I,c.trans (d.mono c.size)⟩
theorem agH(a0 a1 B:Nat)(n q:Nat)(a:List PanicEntry)(w:Aa)(d:w.cell? ⟨a0,0,none⟩=some (.string ⟨#[]⟩))(f:w.cell? ⟨a1,0,none⟩=some (.int .i64 0))(j:w.frozen? ⟨a0,0,none⟩=false)(k:w.frozen? ⟨a1,0,none⟩=false)(g:B<=a0)(h:B<=a1)(t:¬a0=a1):
  CallsD Tryz.prog 176 #[.pointer (some ⟨a0,0,none⟩),.pointer (some ⟨a1,0,none⟩)] (.panicking ({v:=.iface 161 (Gk n q),recovered:=false} :: a)) w λe u i=>
   e=.returned (.tuple #[])/\u=.panicking ({v:=.iface 161 (Gk n q),recovered:=true} :: a)/\i.cell? ⟨a0,0,none⟩=some (.string ⟨#[]⟩)/\i.cell? ⟨a1,0,none⟩=some (.int .i64 n)/\Below B w i:=by
 refine callsD_of_wpS Tryz.func176 I λr cs hu=>?_
 apply wpS_seq;apply wpS_region;simp[wpOpsS,go_sem,recoverD,hu,Tryz.ntmps176,Exit.thenS];rw[show (#[Value.pointer (some {block:=a0,off:=0}),Value.pointer (some {block:=a1,off:=0})]++((Array.replicate 7 undef).setIfInBounds 1 (Value.iface 161 (Gk n q))).setIfInBounds 0 (Value.iface 161 (Gk n q)))=#[.pointer (some {block:=a0,off:=0}),.pointer (some {block:=a1,off:=0}),.iface 161 (Gk n q),.iface 161 (Gk n q),undef,undef,undef,undef,undef] from rfl];refine wpS_of_wp ?_;have s:=Od n q;have l0:=lt_of_cell d;have l1:=lt_of_cell f;go_wp2_with fail
 refine(Px n q _).mono ?_;rintro e b ⟨rfl,c⟩;have s1:=c.size;have g0:b.cell? ⟨a0,0,none⟩=some (.string ⟨#[]⟩):=(c.cell (p:=⟨a0,0,none⟩) l0).trans d;have g1:b.cell? ⟨a1,0,none⟩=some (.int .i64 0):=(c.cell (p:=⟨a1,0,none⟩) l1).trans f;have z:b.frozen? ⟨a0,0,none⟩=false:=(c.frozen (p:=⟨a0,0,none⟩) l0).trans j;have A:b.frozen? ⟨a1,0,none⟩=false:=(c.frozen (p:=⟨a1,0,none⟩) l1).trans k;have x:a0<b.heap.size:=by omega
 have y:a1<b.heap.size:=by omega
 have e2:¬a1=a0:=by omega
 clear d f j k;go_wp2;have l:((b.setCell {block:=a0,off:=0} (.string ⟨#[]⟩)).setCell {block:=a1,off:=0} (Value.int IntKind.i64 ↑n)).cell? ⟨a0,0,none⟩=some (.string ⟨#[]⟩):=by simp[go_sem,g0]
 have m:((b.setCell {block:=a0,off:=0} (.string ⟨#[]⟩)).setCell {block:=a1,off:=0} (Value.int IntKind.i64 ↑n)).cell? ⟨a1,0,none⟩=some (.int .i64 n):=by simp[go_sem,g1]
 have o:Below B w ((b.setCell {block:=a0,off:=0} (.string ⟨#[]⟩)).setCell {block:=a1,off:=0} (Value.int IntKind.i64 ↑n)):=
  ((c.mono (by omega)).setCell (by simpa using g) _).setCell (by simpa using h) _
 show bodyPostS Tryz.prog Tryz.f176 r cs _ _ _ _ _;exact⟨I,_,I,_,results_none I _ _ _,I,I,l,m,o⟩
theorem ahi(a b:Addr)(w:Aa):
  CallsD prog 176 #[.pointer (a),.pointer (b)] .returning w λe d f=>e=.returned Ep/\d=.returning/\f=w:=by
 refine callsD_of_wpS func176 I λc cs hu=>?_
 apply wpS_seq;apply wpS_region;simp[wpOpsS,go_sem,recoverD,hu,ntmps176,Exit.thenS];rw[show (#[Value.pointer (some a),Value.pointer (some b)]++((Array.replicate 7 undef).setIfInBounds 1 (Value.nilIface)).setIfInBounds 0 (Value.nilIface))=#[.pointer (some a),.pointer (some b),.nilIface,.nilIface,undef,undef,undef,undef,undef] from rfl];refine wpS_of_wp ?_;go_wp2;exact⟨I,.returning,by cases c;simp_all,_,results_none I _ _ _,I,I,I⟩
abbrev agA(w:Aa):World:=(w.alloc (.cells #[.string ⟨#[]⟩] 9)).alloc (.cells #[.int .i64 0] 41)
theorem ahh(s:Ab)(V:Ad)(w:Aa)(n q:Nat)(H:ET 173 #[.string s] (agA w) λe l=>e=EQ n q/\Below (agA w) (agA w) l):
  D7 111 #[.string s,V] w (.tuple #[.string ⟨#[]⟩,Z n]) (DY w):=by
 have j:∀(fn:Fn) (first cap:Array Value) (w:Aa),(Instr.makeFunc fn first cap).run prog w=.ok (.func fn first cap) w:=λ_ _ _ _=>rfl
 have d:=Dx H
 go_enter_defers func111,ntmps111
 go_wp2_with fail
 refine cm d λb a=>?_
 have k:=a.size;simp at k;have c0:Kk b w 0 (.string ⟨#[]⟩):=(a.cell (p:=EN w 0) Fy).trans Vb;have c1:b.cell? (DG w 0)=some (Z 0):=(a.cell (p:=DG w 0) Ev).trans Vb;have o:b.frozen? (EN w 0)=false:=(a.frozen (p:=EN w 0) Fy).trans Vb;have r:b.frozen? (DG w 0)=false:=(a.frozen (p:=DG w 0) Ev).trans Vb;have c:DY w b:=(F9.alloc Ev _).trans (a.mono Fy);go_wp2;refine leaves_cons (f:=176) (args:=#[.pointer (some (EN w 0)),.pointer (some (DG w 0))]) Ev Vb ?_;refine(agH w.heap.size (w.heap.size+1) w.heap.size n q [] _ c0 c1 o r (Ar _) U U).mono ?_;rintro e t m ⟨rfl,rfl,g,h,i⟩;simp[Leaves,settle,results,results111,go_sem,g,h];exact c.trans i
def agN(s:Ab)(w:Aa)(e:Ending)(w':Aa):Prop:=
 (if (Pt.O7 (nx s) s).1=0 then ∃c0 c1 c2,e=.returned (.agg #[c0,c1,c2])/\NP w' (λk=>w<=k) (nx s) (s+1) 0 c0 c1 c2 else e=EQ (Pt.O7 (nx s) s).1 (Pt.O7 (nx s) s).2)/\Below w w w'
theorem ag9(s:Ab)(w:Aa):ET 173 #[.string s] w (agN s w):=by
 unfold agN;by_cases c:s.size<=40
 .have hn:¬40<s.size:=U;cases hT:(Pt.ty (nx s) (s.size+1) 0).1 with
  |false=>
   have e1:Pt.O7 (nx s) s.size=(2,(Pt.ty (nx s) (s.size+1) 0).2):=by simp[Pt.O7,hn,hT]
   rw[e1];exact agZ s w c hT
  |true=>
   obtain⟨_,d,_⟩:=Pt.agree (g:=nx s) (n:=s.size) (λp e=>Ot e) (s.size+1) 0 0 1 0 [] U U;obtain⟨f,h⟩:=d hT;by_cases b:(Pt.ty (nx s) (s.size+1) 0).2<s.size
   .have e1:Pt.O7 (nx s) s.size=(2,(Pt.ty (nx s) (s.size+1) 0).2):=by simp[Pt.O7,hn,hT,b]
    rw[e1];exact ag8 s w c hT b
   .have H:=ag6 s w c hT U;by_cases a:4<Pt.Lj (nx s) (s.size+1) 0
    .have e1:Pt.O7 (nx s) s.size=(3,0):=by simp[Pt.O7,hn,hT,b,a]
     rw[e1];simp only[a,CQ]at H;exact H
    .have e1:Pt.O7 (nx s) s.size=(0,0):=by simp[Pt.O7,hn,hT,b,a]
     rw[e1];simp only[a,agv]at H;exact H
 .have e1:Pt.O7 (nx s) s.size=(1,0):=by
   have:40<s.size:=U;simp[Pt.O7,this]
  rw[e1];exact ag7 s w c
abbrev ahg(r:Nat×List UInt8):Ending:=.returned (.tuple #[.string ⟨r.2.toArray⟩,.int .i64 r.1])
theorem ahP{e:GB}{v:List It}(h:¬(Sw e v).1=0):(Sw e v).2=[]:=by
 unfold Sw at h ⊢;split
 .rfl
 .rename_i c r;simp only at h ⊢;split
  .rename_i b;split
   .rfl
   .rename_i a;rw[Ay b,Ao a]at h;exact absurd I h
  .rfl
theorem agT(s:Ab)(V:Ad)(v:List It)(w:Aa)(G:Ff w V v)(hn:v.length<=9000000000000):
  ET 111 #[.string s,V] w λe c=>e=ahg (Jk s v)/\DY w c:=by
 have J:DY w (agA w):=F9.alloc Ev _;have H:=ag9 s (agA w);unfold agN at H;by_cases hc:(Pt.O7 (nx s) s.size).1=0
 .have A:=Nw hc;simp only[hc,CQ]at H;have j:Jk s v=Sw (Hg (nx s) (s.size+1) 0 v) v:=by simp[Jk,hc]
  rw[j];have z:ET 173 #[.string s] (agA w) λe c=>∃T,e=.returned T/\(∃c0 c1 c2,T=.agg #[c0,c1,c2]/\NP c (λk=>(agA w).heap.size<=k) (nx s) (s.size+1) 0 c0 c1 c2)/\Below (agA w).heap.size (agA w) c:=by
   refine H.mono ?_;rintro e c ⟨⟨c0,c1,c2,rfl,x⟩,a⟩;exact⟨_,I,⟨c0,c1,c2,I,x⟩,a⟩
  have o:∀T c,(∃c0 c1 c2,T=.agg #[c0,c1,c2]/\NP c (λk=>(agA w).heap.size<=k) (nx s) (s.size+1) 0 c0 c1 c2)->Below (agA w).heap.size (agA w) c->ET 177 #[T,V] c λe l=>i7 (Sw (Hg (nx s) (s.size+1) 0 v) v) e/\DY c l:=by
   rintro T c ⟨c0,c1,c2,rfl,x⟩ a;exact Ru s _ c0 c1 c2 V v c x A.ok A.a ((G.h J).h a) hn
  generalize hres:Sw (Hg (nx s) (s.size+1) 0 v) v=res at *;have m:¬res.1=0->res.2=[]:=by rw[<-hres];exact ahP
  obtain⟨n,bs⟩:=res;simp only at m;by_cases t:n=0
  .subst t;simp only[i7,CQ]at o;have u:∀(fn:Fn) (first cap:Array Value) (w:Aa),(Instr.makeFunc fn first cap).run prog w=.ok (.func fn first cap) w:=λ_ _ _ _=>rfl
   obtain⟨r,g⟩:=FU z o
   go_enter_defers func111,ntmps111
   go_wp2_with fail
   refine r.mono ?_;rintro e w0 ⟨T,rfl,hB,b⟩;have q:=Dx (g T w0 hB b);go_wp2_with fail
   refine cm q λd i=>?_
   have a:=b.trans (i.mono b.size);have y:=a.size;simp at y;have c0:Kk d w 0 (.string ⟨#[]⟩):=(a.cell (p:=EN w 0) Fy).trans Vb;have c1:d.cell? (DG w 0)=some (Z 0):=(a.cell (p:=DG w 0) Ev).trans Vb;have B:d.frozen? (EN w 0)=false:=(a.frozen (p:=EN w 0) Fy).trans Vb;have C:d.frozen? (DG w 0)=false:=(a.frozen (p:=DG w 0) Ev).trans Vb;have h:DY w d:=(F9.alloc Ev _).trans (a.mono Fy);go_wp2;refine leaves_cons (f:=176) (args:=#[.pointer (some (EN w 0)),.pointer (some (DG w 0))]) Ev Vb ?_;refine(ahi _ _ _).mono ?_;rintro e K l ⟨rfl,rfl,rfl⟩;simp[Leaves,settle,results,results111,go_sem,c0,c1];exact(h.setCell Ev _).setCell Ev _
  .have:=m t;subst this;simp only[i7,Ao t]at o;have u:∀(fn:Fn) (first cap:Array Value) (w:Aa),(Instr.makeFunc fn first cap).run prog w=.ok (.func fn first cap) w:=λ_ _ _ _=>rfl
   obtain⟨r,g⟩:=FU z o
   go_enter_defers func111,ntmps111
   go_wp2_with fail
   refine r.mono ?_;rintro e w0 ⟨T,rfl,hB,b⟩;have q:=Dx (g T w0 hB b);go_wp2_with fail
   refine cm q λd i=>?_
   have a:=b.trans (i.mono b.size);have y:=a.size;simp at y;have c0:Kk d w 0 (.string ⟨#[]⟩):=(a.cell (p:=EN w 0) Fy).trans Vb;have c1:d.cell? (DG w 0)=some (Z 0):=(a.cell (p:=DG w 0) Ev).trans Vb;have B:d.frozen? (EN w 0)=false:=(a.frozen (p:=EN w 0) Fy).trans Vb;have C:d.frozen? (DG w 0)=false:=(a.frozen (p:=DG w 0) Ev).trans Vb;have h:DY w d:=(F9.alloc Ev _).trans (a.mono Fy);go_wp2;refine leaves_cons (f:=176) (args:=#[.pointer (some (EN w 0)),.pointer (some (DG w 0))]) Ev Vb ?_;refine(agH w.heap.size (w.heap.size+1) w.heap.size n 0 [] _ c0 c1 B C (Ar _) U U).mono ?_;rintro e K l ⟨rfl,rfl,D,E,F⟩;simp[Leaves,settle,results,results111,go_sem,D,E];exact h.trans F
 .simp only[hc,agv]at H;have j:Jk s v=((Pt.O7 (nx s) s.size).1,[]):=by simp[Jk,hc]
  rw[j];exact ahh s V w _ _ H
theorem ahc(s:Ab)(V:Ad)(w:Aa)(n q:Nat)(hn:¬n=0)(H:ET 109 #[.string s] w λe a=>e=M0 (n,q)/\DY w a):
  ET 112 #[.string s,V] w λe a=>e=ahg (n,[])/\DY w a:=by
 have b:=Dx H;have d:((n:Int) != 0)=true:=Fy
 delta ET
 go_in
 go_wp2_with fail
 refine cm b λf c=>?_
 go_wp2
 go_ret2
 exact⟨I,c⟩
theorem agU(s:Ab)(V:Ad)(w:Aa)(H:ET 109 #[.string s] w λe f=>e=M0 (0,0)/\DY w f)
  (HF:∀a,DY w a->D7 178 #[.string s,V] a DI (DY a)):
  ET 112 #[.string s,V] w λe f=>e=ahg (4,[])/\DY w f:=by
 obtain⟨h,b⟩:=FU H HF
 delta ET
 go_in
 go_wp2_with fail
 refine cm h λa c=>?_
 have g:=Dx (b a c);go_wp2_with fail
 refine cm g λi d=>?_
 go_wp2
 go_ret2
 exact⟨I,c.trans (d.mono c.size)⟩
theorem ahd(s:Ab)(V:Ad)(w:Aa)(out:Ac)(t:out.length<=1000000)(H:ET 109 #[.string s] w λe m=>e=M0 (0,0)/\DY w m)
  (HF:∀c,DY w c->D7 178 #[.string s,V] c DC (DY c))
  (o:∀c,DY w c->D7 179 #[.string s,V] c (.string ⟨out.toArray⟩) (DY c)):
  ET 112 #[.string s,V] w λe m=>e=ahg (if 70<out.length then (5,[]) else (0,out))/\DY w m:=by
 obtain⟨p,i,f⟩:=Ll H HF o;obtain⟨S,j⟩:∃S:ByteArray,S=⟨out.toArray⟩:=DR;have u:S.size=out.length:=by rw[j];simp[ByteArray.size]
 rw[<-j]at f;have r:=Dx j;clear H HF o j;by_cases q:70<out.length
 .rw[Ay q];have l:(70:Int)<(S.size:Int):=U
  delta ET
  go_in
  go_wp2_with fail
  refine cm p λc a=>?_
  have k:=Dx (i c a);go_wp2_with fail
  refine cm k λn g=>?_
  have b:=a.trans (g.mono a.size);have d:=Dx (f n b);go_wp2_with fail
  refine cm d λv h=>?_
  go_wp2
  go_ret2
  exact⟨I,b.trans (h.mono b.size)⟩
 .rw[Ao q];have l:¬(70:Int)<(S.size:Int):=U
  delta ET
  go_in
  go_wp2_with fail
  refine cm p λc a=>?_
  have k:=Dx (i c a);go_wp2_with fail
  refine cm k λn g=>?_
  have b:=a.trans (g.mono a.size);have d:=Dx (f n b);go_wp2_with fail
  refine cm d λv h=>?_
  go_wp2
  go_ret2
  refine⟨?_,b.trans (h.mono b.size)⟩;rw[Dw r];rfl
theorem agJ(s:Ab)(V:Ad)(v:List It)(w:Aa)(g:Ff w V v)(hn:v.length<=9000000000000):
  ET 112 #[.string s,V] w λe n=>e=ahg (Jk s v)/\DY w n:=by
 have H:=Qn s w;by_cases hc:(Pt.O7 (nx s) s.size).1=0
 .have f:=Nw hc;have k:Pt.O7 (nx s) s.size=(0,0):=by
   unfold Pt.O7 at hc ⊢;split at hc
   .cases hc
   .rename_i i;rw[Ao i];split at hc
    .rename_i l;rw[Ay l];split at hc
     .cases hc
     .rename_i o;rw[Ao o];split at hc
      .cases hc
      .rename_i p;rw[Ao p]
    .cases hc
  rw[k]at H;have c:Jk s v=Sw (Hg (nx s) (s.size+1) 0 v) v:=by simp[Jk,hc]
  rw[c];obtain⟨a,cap,q,_,_⟩:=id g;have HF:∀b,DY w b->D7 178 #[.string s,V] b (.bool (vI 0 (Hg (nx s) (s.size+1) 0 v)==(v.length:Int))) (DY b):=by
   intro b d;have u:=Wx s V v f.size hn (s.size+1) 0 0 b f.ok (AV _) (g.h d);exact YT s V a cap v b q _ u
  rw[jD]at HF;cases he:Hg (nx s) (s.size+1) 0 v with
  |none=>
   simp only[he]at HF;exact agU s V w H HF
  |some x=>
   obtain⟨h,r⟩:=x;simp only[he]at HF;cases r with
   |cons y r=>exact agU s V w H HF
   |nil=>
    obtain⟨i,l⟩:=Hs _ _ _ _ _ _ he;obtain⟨s1,s2⟩:=QO s _ _ f.ok _ _ _ he;have hl:h.length=v.length:=by
     have:=CG List.length i;rw[A9]at this;simp at this;omega
    have z:10 ^ Pt.Lj (nx s) (s.size+1) 0<=10 ^ 4:=CS Em f.a;have m:=Ue s2 hl;have j:=df m v.length (Ar _);rw[A7 U,A7 U]at j;refine(ahd s V w (Et h v) U H HF λb d=>?_).mono ?_
    .have t:=Ws s V v b f.size hn (g.h d) (s.size+1) 0 Dz [] h [] b f.ok ⟨AZ _ _ _ _,AA _ _⟩ he;exact VH s V v h b (g.h d) U m t
    .rintro e n ⟨rfl,d⟩;exact⟨I,d⟩
 .have c:Jk s v=((Pt.O7 (nx s) s.size).1,[]):=by simp[Jk,hc]
  rw[c];exact ahc s V w _ _ hc H
theorem agI(a0 a1 B:Nat)(n q:Nat)(a:List PanicEntry)(w:Aa)(d:w.cell? ⟨a0,0,none⟩=Dz)(f:w.cell? ⟨a1,0,none⟩=some (.int .i64 0))(j:w.frozen? ⟨a0,0,none⟩=false)(k:w.frozen? ⟨a1,0,none⟩=false)(g:B<=a0)(h:B<=a1)(t:¬a0=a1):
  CallsD Tryz.prog 180 #[.pointer (some ⟨a0,0,none⟩),.pointer (some ⟨a1,0,none⟩)] (.panicking ({v:=.iface 161 (Gk n q),recovered:=false} :: a)) w λe u i=>
   e=.returned (.tuple #[])/\u=.panicking ({v:=.iface 161 (Gk n q),recovered:=true} :: a)/\i.cell? ⟨a0,0,none⟩=Dz/\i.cell? ⟨a1,0,none⟩=some (.int .i64 n)/\Below B w i:=by
 refine callsD_of_wpS Tryz.func180 I λr cs hu=>?_
 apply wpS_seq;apply wpS_region;simp[wpOpsS,go_sem,recoverD,hu,Tryz.ntmps180,Exit.thenS];rw[show (#[Value.pointer (some {block:=a0,off:=0}),Value.pointer (some {block:=a1,off:=0})]++((Array.replicate 7 undef).setIfInBounds 1 (Value.iface 161 (Gk n q))).setIfInBounds 0 (Value.iface 161 (Gk n q)))=#[.pointer (some {block:=a0,off:=0}),.pointer (some {block:=a1,off:=0}),.iface 161 (Gk n q),.iface 161 (Gk n q),undef,undef,undef,undef,undef] from rfl];refine wpS_of_wp ?_;have s:=Od n q;have l0:=lt_of_cell d;have l1:=lt_of_cell f;go_wp2_with fail
 refine(Px n q _).mono ?_;rintro e b ⟨rfl,c⟩;have s1:=c.size;have g0:b.cell? ⟨a0,0,none⟩=some Dz:=(c.cell (p:=⟨a0,0,none⟩) l0).trans d;have g1:b.cell? ⟨a1,0,none⟩=some (.int .i64 0):=(c.cell (p:=⟨a1,0,none⟩) l1).trans f;have z:b.frozen? ⟨a0,0,none⟩=false:=(c.frozen (p:=⟨a0,0,none⟩) l0).trans j;have A:b.frozen? ⟨a1,0,none⟩=false:=(c.frozen (p:=⟨a1,0,none⟩) l1).trans k;have x:a0<b.heap.size:=by omega
 have y:a1<b.heap.size:=by omega
 have e2:¬a1=a0:=by omega
 clear d f j k;go_wp2;have l:((b.setCell {block:=a0,off:=0} Dz).setCell {block:=a1,off:=0} (Value.int IntKind.i64 ↑n)).cell? ⟨a0,0,none⟩=some Dz:=by simp[go_sem,g0]
 have m:((b.setCell {block:=a0,off:=0} Dz).setCell {block:=a1,off:=0} (Value.int IntKind.i64 ↑n)).cell? ⟨a1,0,none⟩=some (.int .i64 n):=by simp[go_sem,g1]
 have o:Below B w ((b.setCell {block:=a0,off:=0} Dz).setCell {block:=a1,off:=0} (Value.int IntKind.i64 ↑n)):=
  ((c.mono (by omega)).setCell (by simpa using g) _).setCell (by simpa using h) _
 show bodyPostS Tryz.prog Tryz.f180 r cs _ _ _ _ _;exact⟨I,_,I,_,results_none I _ _ _,I,I,l,m,o⟩
theorem ahm(a b:Addr)(w:Aa):
  CallsD prog 180 #[.pointer (a),.pointer (b)] .returning w λe d f=>e=.returned Ep/\d=.returning/\f=w:=by
 refine callsD_of_wpS func180 I λc cs hu=>?_
 apply wpS_seq;apply wpS_region;simp[wpOpsS,go_sem,recoverD,hu,ntmps180,Exit.thenS];rw[show (#[Value.pointer (some a),Value.pointer (some b)]++((Array.replicate 7 undef).setIfInBounds 1 (Value.nilIface)).setIfInBounds 0 (Value.nilIface))=#[.pointer (some a),.pointer (some b),.nilIface,.nilIface,undef,undef,undef,undef,undef] from rfl];refine wpS_of_wp ?_;go_wp2;exact⟨I,.returning,by cases c;simp_all,_,results_none I _ _ _,I,I,I⟩
abbrev agB(w:Aa):World:=(w.alloc (.cells #[.slice none 0 0] 37)).alloc (.cells #[.int .i64 0] 41)
theorem ag4(s S:Ab)(w:Aa)(n q:Nat)(H:ET 173 #[.string s] (agB w) λe k=>e=EQ n q/\Below (agB w) (agB w) k):
  D7 114 #[.string s,.string S] w (.tuple #[Dz,Z n]) (DY w):=by
 have i:∀(fn:Fn) (first cap:Array Value) (w:Aa),(Instr.makeFunc fn first cap).run prog w=.ok (.func fn first cap) w:=λ_ _ _ _=>rfl
 go_enter_defers func114,ntmps114
 go_wp2_with fail
 refine cm (Dx H) λb a=>?_
 have j:=a.size;simp at j;have c0:Kk b w 0 Dz:=(a.cell (p:=EN w 0) Fy).trans Vb;have c1:b.cell? (DG w 0)=some (Z 0):=(a.cell (p:=DG w 0) Ev).trans Vb;have m:b.frozen? (EN w 0)=false:=(a.frozen (p:=EN w 0) Fy).trans Vb;have o:b.frozen? (DG w 0)=false:=(a.frozen (p:=DG w 0) Ev).trans Vb;have c:DY w b:=(F9.alloc Ev _).trans (a.mono Fy);go_wp2;refine leaves_cons (f:=180) (args:=#[.pointer (some (EN w 0)),.pointer (some (DG w 0))]) Ev Vb ?_;refine(agI w.heap.size (w.heap.size+1) w.heap.size n q [] _ c0 c1 m o (Ar _) U U).mono ?_;rintro e r l ⟨rfl,rfl,d,g,h⟩;simp[Leaves,settle,results,results114,go_sem,d,g];exact c.trans h
theorem agW(s S:Ab)(w:Aa)(n q:Nat)(B:Value->World->Prop)(H:ET 173 #[.string s] (agB w) λe b=>∃T,e=.returned T/\B T b/\Below (agB w) (agB w) b)
  (k:∀T b,B T b->Below (agB w) (agB w) b->ET 181 #[T,.string S] b λe d=>e=EQ n q/\DY b d):
  D7 114 #[.string s,.string S] w (.tuple #[Dz,Z n]) (DY w):=by
 have t:∀(fn:Fn) (first cap:Array Value) (w:Aa),(Instr.makeFunc fn first cap).run prog w=.ok (.func fn first cap) w:=λ_ _ _ _=>rfl
 obtain⟨l,h⟩:=FU H k
 go_enter_defers func114,ntmps114
 go_wp2_with fail
 refine l.mono ?_;rintro e w0 ⟨T,rfl,hB,a⟩;go_wp2_with fail
 refine cm (Dx (h T w0 hB a)) λg j=>?_
 have c:=a.trans (j.mono a.size);have u:=c.size;simp at u;have c0:Kk g w 0 Dz:=(c.cell (p:=EN w 0) Fy).trans Vb;have c1:g.cell? (DG w 0)=some (Z 0):=(c.cell (p:=DG w 0) Ev).trans Vb;have v:g.frozen? (EN w 0)=false:=(c.frozen (p:=EN w 0) Fy).trans Vb;have x:g.frozen? (DG w 0)=false:=(c.frozen (p:=DG w 0) Ev).trans Vb;have i:DY w g:=(F9.alloc Ev _).trans (c.mono Fy);go_wp2;refine leaves_cons (f:=180) (args:=#[.pointer (some (EN w 0)),.pointer (some (DG w 0))]) Ev Vb ?_;refine(agI w.heap.size (w.heap.size+1) w.heap.size n q [] _ c0 c1 v x (Ar _) U U).mono ?_;rintro e y d ⟨rfl,rfl,m,o,r⟩;simp[Leaves,settle,results,results114,go_sem,m,o];exact i.trans r
theorem ag0(s S:Ab)(v:List It)(w:Aa)(B:Value->World->Prop)(H:ET 173 #[.string s] (agB w) λe a=>∃T,e=.returned T/\B T a/\Below (agB w) (agB w) a)
  (r:∀T a,B T a->Below (agB w) (agB w) a->ET 181 #[T,.string S] a λe d=>(∃O,e=.returned O/\Row d a O v)/\DY a d):
  ET 114 #[.string s,.string S] w λe a=>∃O,e=.returned (.tuple #[O,Z 0])/\Row a w O v/\DY w a:=by
 have u:∀(fn:Fn) (first cap:Array Value) (w:Aa),(Instr.makeFunc fn first cap).run prog w=.ok (.func fn first cap) w:=λ_ _ _ _=>rfl
 obtain⟨t,j⟩:=FU H r
 go_enter_defers func114,ntmps114
 go_wp2_with fail
 refine t.mono ?_;rintro e w0 ⟨T,rfl,hB,b⟩;go_wp2_with fail
 refine(Dx (j T w0 hB b)).mono ?_;rintro e h ⟨⟨O,rfl,c⟩,l⟩;have i:=b.size;have g:=b.trans (l.mono b.size);have x:=g.size;simp at x i;obtain⟨n,on,o,m⟩:=Ei c;subst m;have c0:Kk h w 0 Dz:=(g.cell (p:=EN w 0) Fy).trans Vb;have c1:h.cell? (DG w 0)=some (Z 0):=(g.cell (p:=DG w 0) Ev).trans Vb;have z:h.frozen? (EN w 0)=false:=(g.frozen (p:=EN w 0) Fy).trans Vb;have A:h.frozen? (DG w 0)=false:=(g.frozen (p:=DG w 0) Ev).trans Vb;have k:DY w h:=(F9.alloc Ev _).trans (g.mono Fy);have q:Hid (Row ((h.setCell (EN w 0) (.slice n on o)).setCell (DG w 0) (Z 0)) w.heap.size (.slice n on o) v):=
  GL (Qq (Qq c U) U) (B:=w0.heap.size) U
 go_wp2;refine leaves_cons (f:=180) (args:=#[.pointer (some (EN w 0)),.pointer (some (DG w 0))]) Ev Vb ?_;refine(ahm _ _ _).mono ?_;rintro e y d ⟨rfl,rfl,rfl⟩;simp[Leaves,settle,results,results114,go_sem,c0,c1];exact⟨Dw q,(k.setCell Ev _).setCell Ev _⟩
theorem ahN{r:Option OJ}{l:Ac}(h:¬(MO r l).1=0):(MO r l).2=[]:=by
 unfold MO at h ⊢;split
 .rfl
 .rename_i c;rw[Ao c]at h;cases r with
  |none=>rfl
  |some a=>
   obtain⟨d,v⟩:=a;simp only at h ⊢;split
   .rename_i b;rw[Ay b]at h;exact absurd I h
   .rfl
theorem ag3(s:Ab)(l:Ac)(w:Aa):
  ET 114 #[.string s,.string (str l)] w λe a=>∃O,e=.returned (.tuple #[O,Z (I8 s l).1])/\Row a w O (I8 s l).2/\DY w a:=by
 have H:=ag9 s (agB w);unfold agN at H;by_cases hc:(Pt.O7 (nx s) s.size).1=0
 .have m:=Nw hc;simp only[hc,CQ]at H;have b:I8 s l=MO (Es Fx Il (nx s) (s.size+1) 0 (l,[])) l:=by simp[I8,hc]
  rw[b];have j:ET 173 #[.string s] (agB w) λe a=>∃T,e=.returned T/\(∃c0 c1 c2,T=.agg #[c0,c1,c2]/\NP a (λk=>(agB w).heap.size<=k) (nx s) (s.size+1) 0 c0 c1 c2)/\Below (agB w).heap.size (agB w) a:=by
   refine H.mono ?_;rintro e a ⟨⟨c0,c1,c2,rfl,i⟩,c⟩;exact⟨_,I,⟨c0,c1,c2,I,i⟩,c⟩
  have g:∀T a,(∃c0 c1 c2,T=.agg #[c0,c1,c2]/\NP a (λk=>(agB w).heap.size<=k) (nx s) (s.size+1) 0 c0 c1 c2)->Below (agB w).heap.size (agB w) a->ET 181 #[T,.string (str l)] a λe f=>qd a.heap.size (MO (Es Fx Il (nx s) (s.size+1) 0 (l,[])) l) e f/\DY a f:=by
   rintro T a ⟨c0,c1,c2,rfl,i⟩ c;exact pH _ i m.ok m.a
  generalize hres:MO (Es Fx Il (nx s) (s.size+1) 0 (l,[])) l=res at *;have d:¬res.1=0->res.2=[]:=by rw[<-hres];exact ahN
  obtain⟨n,bs⟩:=res;simp only at d;by_cases h:n=0
  .subst h;simp only[qd,CQ]at g;exact ag0 s (str l) bs w _ j g
  .have:=d h;subst this;simp only[qd,Ao h]at g;refine cm (agW s (str l) w n 0 _ j g) λa c=>?_
   exact⟨_,I,My _ _,c⟩
 .simp only[hc,agv]at H;have b:I8 s l=((Pt.O7 (nx s) s.size).1,[]):=by simp[I8,hc]
  rw[b];refine cm (ag4 s (str l) w _ _ H) λa c=>?_
  exact⟨_,I,My _ _,c⟩
end V
theorem agR(a0 a1 B:Nat)(n q:Nat)(a:List PanicEntry)(w:Aa)(d:w.cell? ⟨a0,0,none⟩=some (.string ⟨#[]⟩))(f:w.cell? ⟨a1,0,none⟩=some (.int .i64 0))(j:w.frozen? ⟨a0,0,none⟩=false)(k:w.frozen? ⟨a1,0,none⟩=false)(g:B<=a0)(h:B<=a1)(t:¬a0=a1):
  CallsD Tryz.prog 184 #[.pointer (some ⟨a0,0,none⟩),.pointer (some ⟨a1,0,none⟩)] (.panicking ({v:=.iface 161 (Gk n q),recovered:=false} :: a)) w λe u i=>
   e=.returned (.tuple #[])/\u=.panicking ({v:=.iface 161 (Gk n q),recovered:=true} :: a)/\i.cell? ⟨a0,0,none⟩=some (.string ⟨#[]⟩)/\i.cell? ⟨a1,0,none⟩=some (.int .i64 n)/\Below B w i:=by
 refine callsD_of_wpS Tryz.func184 I λr cs hu=>?_
 apply wpS_seq;apply wpS_region;simp[wpOpsS,go_sem,recoverD,hu,Tryz.ntmps184,Exit.thenS];rw[show (#[Value.pointer (some {block:=a0,off:=0}),Value.pointer (some {block:=a1,off:=0})]++((Array.replicate 7 undef).setIfInBounds 1 (Value.iface 161 (Gk n q))).setIfInBounds 0 (Value.iface 161 (Gk n q)))=#[.pointer (some {block:=a0,off:=0}),.pointer (some {block:=a1,off:=0}),.iface 161 (Gk n q),.iface 161 (Gk n q),undef,undef,undef,undef,undef] from rfl];refine wpS_of_wp ?_;have s:=Od n q;have l0:=lt_of_cell d;have l1:=lt_of_cell f;go_wp2_with fail
 refine(Px n q _).mono ?_;rintro e b ⟨rfl,c⟩;have s1:=c.size;have g0:b.cell? ⟨a0,0,none⟩=some (.string ⟨#[]⟩):=(c.cell (p:=⟨a0,0,none⟩) l0).trans d;have g1:b.cell? ⟨a1,0,none⟩=some (.int .i64 0):=(c.cell (p:=⟨a1,0,none⟩) l1).trans f;have z:b.frozen? ⟨a0,0,none⟩=false:=(c.frozen (p:=⟨a0,0,none⟩) l0).trans j;have A:b.frozen? ⟨a1,0,none⟩=false:=(c.frozen (p:=⟨a1,0,none⟩) l1).trans k;have x:a0<b.heap.size:=by omega
 have y:a1<b.heap.size:=by omega
 have e2:¬a1=a0:=by omega
 clear d f j k;go_wp2;have l:((b.setCell {block:=a0,off:=0} (.string ⟨#[]⟩)).setCell {block:=a1,off:=0} (Value.int IntKind.i64 ↑n)).cell? ⟨a0,0,none⟩=some (.string ⟨#[]⟩):=by simp[go_sem,g0]
 have m:((b.setCell {block:=a0,off:=0} (.string ⟨#[]⟩)).setCell {block:=a1,off:=0} (Value.int IntKind.i64 ↑n)).cell? ⟨a1,0,none⟩=some (.int .i64 n):=by simp[go_sem,g1]
 have o:Below B w ((b.setCell {block:=a0,off:=0} (.string ⟨#[]⟩)).setCell {block:=a1,off:=0} (Value.int IntKind.i64 ↑n)):=
  ((c.mono (by omega)).setCell (by simpa using g) _).setCell (by simpa using h) _
 show bodyPostS Tryz.prog Tryz.f184 r cs _ _ _ _ _;exact⟨I,_,I,_,results_none I _ _ _,I,I,l,m,o⟩
theorem ahk(a b:Addr)(w:Aa):
  CallsD prog 184 #[.pointer (a),.pointer (b)] .returning w λe d f=>e=.returned Ep/\d=.returning/\f=w:=by
 refine callsD_of_wpS func184 I λc cs hu=>?_
 apply wpS_seq;apply wpS_region;simp[wpOpsS,go_sem,recoverD,hu,ntmps184,Exit.thenS];rw[show (#[Value.pointer (some a),Value.pointer (some b)]++((Array.replicate 7 undef).setIfInBounds 1 (Value.nilIface)).setIfInBounds 0 (Value.nilIface))=#[.pointer (some a),.pointer (some b),.nilIface,.nilIface,undef,undef,undef,undef,undef] from rfl];refine wpS_of_wp ?_;go_wp2;exact⟨I,.returning,by cases c;simp_all,_,results_none I _ _ _,I,I,I⟩
abbrev ahT(k c li ln sq u pa o:Int)(pl:Bool)(S:Ab):Array Value:=#[.int .i64 k,.int .i64 c,.int .i64 li,.int .i64 ln,.int .i64 sq,.int .i64 u,.int .i64 pa,.int .i64 o,.bool pl,.string S]
def ahl(p:Pk)(w:Aa)(e:Ending)(w':Aa):Prop:=Below w w w'/\((EC p/\e=.returned (.tuple #[.string (str (Gq p)),.int .i64 0]))\/(¬EC p/\e=.returned (.tuple #[.string ⟨#[]⟩,.int .i64 7])))
theorem ahG(p:Pk)(w:Aa):ET 120 #[pv p] w (ahl p w):=by
 have C:∀(fn:Fn) (first cap:Array Value) (w:Aa),(Instr.makeFunc fn first cap).run prog w=.ok (.func fn first cap) w:=λ_ _ _ _=>rfl
 obtain⟨d,a⟩:∃d,d=ahl p w:=DR;have n:Hid (∀h,DY w h->¬EC p->d (.returned (.tuple #[.string ⟨#[]⟩,Z 7])) h):=by
  rw[a];exact λh b l=>⟨b,Am ⟨l,I⟩⟩
 have i:Hid (∀h,DY w h->EC p->d (.returned (.tuple #[.string (str (Gq p)),Z 0])) h):=by
  rw[a];exact λh b l=>⟨b,Aj ⟨l,I⟩⟩
 rw[<-a];clear a;have y:=Dx (λw=>Ru p w);generalize hSB:str (Gq p)=SB at *;obtain⟨k,c,D,ln,F,u,pa,o,E,j⟩:=p;have t:=Dx ((((AA w.heap.size w).alloc (Ar _) (.cells (ahT k c D ln F u pa o E (str j)) 82)).alloc Ev (.cells #[.string ⟨#[]⟩] 9)).alloc Fy (.cells #[Z 0] 41))
 go_enter_defers func120,ntmps120
 go_wp2_with fail
 refine(y _).mono ?_;rintro e g ⟨b,⟨l,rfl⟩|⟨hn,rfl⟩⟩
 .have r:=b.size;simp at r;have c0:g.cell? (DG w 0)=some (.string ⟨#[]⟩):=(b.cell (p:=DG w 0) Ev).trans Vb;have c1:g.cell? ⟨w.heap.size+2,0,none⟩=some (Z 0):=(b.cell (p:=⟨w.heap.size+2,0,none⟩) Ev).trans Vb;have v:g.frozen? (DG w 0)=false:=(b.frozen (p:=DG w 0) Ev).trans Vb;have x:g.frozen? ⟨w.heap.size+2,0,none⟩=false:=(b.frozen (p:=⟨w.heap.size+2,0,none⟩) Ev).trans Vb;have m:=Dx (t.trans (b.mono Fy));rw[hSB];clear b;go_wp2;refine leaves_cons (f:=184) (args:=#[.pointer (some (DG w 0)),.pointer (some ⟨w.heap.size+2,0,none⟩)]) Ev Vb ?_;refine(ahk _ _ _).mono ?_;rintro e G s ⟨rfl,rfl,rfl⟩;simp[Leaves,settle,results,results120,go_sem,c0,c1];exact i _ ((m.setCell Ev _).setCell Fy _) l
 .have r:=b.size;simp at r;have c0:g.cell? (DG w 0)=some (.string ⟨#[]⟩):=(b.cell (p:=DG w 0) Ev).trans Vb;have c1:g.cell? ⟨w.heap.size+2,0,none⟩=some (Z 0):=(b.cell (p:=⟨w.heap.size+2,0,none⟩) Ev).trans Vb;have v:g.frozen? (DG w 0)=false:=(b.frozen (p:=DG w 0) Ev).trans Vb;have x:g.frozen? ⟨w.heap.size+2,0,none⟩=false:=(b.frozen (p:=⟨w.heap.size+2,0,none⟩) Ev).trans Vb;have q:DY w g:=t.trans (b.mono Fy);go_wp2;refine leaves_cons (f:=184) (args:=#[.pointer (some (DG w 0)),.pointer (some ⟨w.heap.size+2,0,none⟩)]) Ev Vb ?_;refine(agR (w.heap.size+1) (w.heap.size+2) w.heap.size 7 0 [] _ c0 c1 v x U U U).mono ?_;rintro e G s ⟨rfl,rfl,z,A,B⟩;simp[Leaves,settle,results,results120,go_sem,z,A];exact n _ (q.trans B) hn
abbrev agP(p:Pk):Ending:=if EC p then .returned (.tuple #[.string (str (Gq p)),.int .i64 0]) else .returned (.tuple #[.string ⟨#[]⟩,.int .i64 7])
theorem ahj(p:Pk)(w:Aa):ET 121 #[pv p] w λe x=>e=agP p/\DY w x:=by
 have g:=Dx (λw=>XF p w);by_cases f:EC p
 .have hd:decide (EC p)=true:=decide_eq_true f;rw[hd]at g;have t:=Dx (λw=>Ph p w f);have s:agP p=.returned (.tuple #[.string (str (Gq p)),Z 0]):=Ay f;rw[s];generalize str (Gq p)=SS at *;obtain⟨k,c,h,ln,j,u,pa,o,i,a⟩:=p;have l:=Dx (cW w k c h ln j u pa o i (str a));have q:=AF w (.cells #[Z k,Z c,Z h,Z ln,Z j,Z u,Z pa,Z o,.bool i,.string (str a)] 82);have v:=Dx q
  delta ET
  go_in
  go_wp2_with fail
  refine cm (g _) λy d=>?_
  have r:=(d.block w.heap.size Ev).trans (Dw v);obtain⟨z,A,B,C,D,E,F,G,H,J⟩:=Yy r;have b:=Dx (l.trans (d.mono Ev));go_wp2_with fail
  refine cm (t _) λK n=>?_
  have m:=Dx (b.trans (n.mono b.size));go_wp2
  go_ret2
  exact⟨I,m⟩
 .have hd:decide (EC p)=false:=decide_eq_false f;rw[hd]at g;have s:agP p=.returned (.tuple #[.string ⟨#[]⟩,Z 7]):=Ao f;rw[s];obtain⟨k,c,h,ln,j,u,pa,o,i,a⟩:=p;have l:=Dx (cW w k c h ln j u pa o i (str a))
  delta ET
  go_in
  go_wp2_with fail
  refine cm (g _) λy d=>?_
  have b:=Dx (l.trans (d.mono Ev));go_wp2
  go_ret2
  exact⟨I,b⟩
namespace V
theorem agL(s:Ab)(V O:Ad)(r:Nat×List UInt8)(w:Aa)(b Q:World->Prop)
  (g:Hid (D7 110 #[V] w O b))
  (d:Hid (∀a,b a->ET 111 #[.string s,O] a λe c=>e=ahg r/\b c))
  (f:Hid (∀a,b a->ET 112 #[.string s,V] a λe c=>e=ahg r/\b c))
  (h:Hid (∀a,b a->D7 113 #[O,V] a DC Q)):
  D7 68 #[.string s,V] w DC Q:=by
 obtain⟨n,bs⟩:=r;obtain⟨B,hB⟩:∃B:ByteArray,B=⟨bs.toArray⟩:=DR;simp only[ahg,<-hB]at d f
 delta D7
 go_in
 go_wp2_with fail
 refine cm g λa m=>?_
 have j:=Dx (d a m);go_wp2_with fail
 refine cm j λt o=>?_
 have k:=Dx (f t o);go_wp2_with fail
 refine cm k λu p=>?_
 have l:=Dx (h u p);go_wp2_with fail
 refine cm l λv q=>?_
 have i:=Dx q;go_wp2_with (go_at_call 66;go_in)
 go_ret
 exact⟨I,i⟩
theorem ahb(s:Ab)(V:Ad)(v:List It)(w:Aa)(j:Ff w V v)(hn:v.length<=9000000000000):D7 68 #[.string s,V] w DC (DY w):=by
 obtain⟨a,cap,rfl,hc,n⟩:=id j;have d:∀{f g:Aa},DY w f->DY f g->DY w g:=λh k=>h.trans (k.mono h.size)
 cases a with
 |none=>
  have l:v=[]:=by grind
  subst l;have m:∀W,Ff W Dz []:=λW=>⟨none,0,I,Ar _,Aj I⟩
  refine agL s _ Dz (Jk s []) w (λg=>DY w g) _ ?_ ?_ ?_ ?_
  .exact cs (sO _ _ w) ⟨I,AA _ _⟩
  .intro f c;exact cm (agT s _ [] f (m _) Ev) λg h=>⟨I,d c h⟩
  .intro f c;exact cm (agJ s _ [] f (j.h c) Ev) λg h=>⟨I,d c h⟩
  .intro f c;exact cs (pM _ _ _ f) ⟨I,c⟩
 |some ad=>
  refine agL s _ (EJ w.heap.size v.length (v.length+6)) (Jk s v) w (λg=>I9 g w.heap.size (v.length+6) 0 (v++List.replicate 6 Iu)/\DY w g) _ ?_ ?_ ?_ ?_
  .exact sN w ad cap v j hn
  .rintro f ⟨i,c⟩;exact cm (agT s _ v f (i.J I U) hn) λg h=>⟨I,i.h h,d c h⟩
  .rintro f ⟨i,c⟩;exact cm (agJ s _ v f (j.h c) hn) λg h=>⟨I,i.h h,d c h⟩
  .rintro f ⟨i,c⟩;refine cm (dW f ad cap w.heap.size v hn (j.h c) (λl e=>?_) i) λg h=>⟨I,c.trans (h.h c.size λk e=>by omega)⟩
   rcases n with q|⟨b,off,q,o,_⟩
   .exact l q
   .cases q;exact absurd e (Nat.ne_of_lt o)
end V
theorem ahH(p:Pk)(w:Aa):ET 120 #[pv p] w λe c=>e=agP p/\DY w c:=by
 refine(ahG p w).mono ?_;rintro e c ⟨b,⟨a,rfl⟩|⟨a,rfl⟩⟩
 .exact⟨(Ay a).symm,b⟩
 .exact⟨(Ao a).symm,b⟩
theorem ahF(l:Ac)(w:Aa)(hl:l.length<=9223372036854775807):ET 54 #[.string (str l)] w λe c=>e=zL (Ut l)/\DY w c:=by
 refine(Zy hl).mono ?_;rw[Zx];rintro e c ⟨b,⟨a,rfl⟩|⟨p,a,rfl⟩⟩
 .rw[a];exact⟨I,b⟩
 .rw[a];exact⟨I,b⟩
theorem ahB(p:Pk)(w:Aa):D7 71 #[pv p] w DC (DY w):=by
 obtain⟨h,i⟩:=FU (λw=>ahH p w) (λw=>ahj p w);obtain⟨S,n,t⟩:∃(S:Ab) (n:Int),agP p=.returned (.tuple #[.string S,Z n]):=by
  by_cases j:EC p
  .exact⟨_,_,Ay j⟩
  .exact⟨_,_,Ao j⟩
 rw[t]at h i;obtain⟨k,c,l,ln,q,u,pa,o,m,b⟩:=p;have r:=Dx (cW w k c l ln q u pa o m (str b));have s:=Dx (AF w (.cells #[Z k,Z c,Z l,Z ln,Z q,Z u,Z pa,Z o,.bool m,.string (str b)] 82))
 delta D7
 go_in
 go_wp2_with fail
 refine cm (h _) λG e=>?_
 have a:=(e.block w.heap.size Ev).trans (Dw s);have v:=EI a 0;have x:=EI a 1;have y:=EI a 2;have z:=EI a 3;have A:=EI a 4;have B:=EI a 5;have C:=EI a 6;have D:=EI a 7;have E:=EI a 8;have F:=EI a 9;have d:=Dx (r.trans (e.mono Ev));go_wp2_with fail
 refine cm (i _) λH g=>?_
 have f:=Dx (d.trans (g.mono d.size));go_wp2_with (go_at_call 66;go_in)
 go_ret
 exact⟨I,f⟩
theorem ahx(l:Ac)(w:Aa)(hl:l.length<=9223372036854775807):D7 72 #[.string (str l)] w DC (DY w):=by
 obtain⟨j,m⟩:=FU (λw=>ahF l w hl) (λw=>RP l w hl);obtain⟨k,c,f,ln,h,u,pa,o,g,S,n,q⟩:∃(k c f ln h u pa o:Int) (g:Bool) (S:Ab) (n:Int),zL (Ut l)=.returned (.tuple #[.agg #[Z k,Z c,Z f,Z ln,Z h,Z u,Z pa,Z o,.bool g,.string S],Z n]):=by
  cases Ut l<;>exact⟨_,_,_,_,_,_,_,_,_,_,_,rfl⟩
 rw[q]at j m;generalize str l=L at *
 delta D7
 go_in
 go_wp2_with fail
 refine cm (j _) λp i=>?_
 have b:=Dx i;go_wp2_with fail
 refine cm (m _) λs e=>?_
 have a:=(e.block p.heap.size Ev).trans (AF p (.cells #[Z k,Z c,Z f,Z ln,Z h,Z u,Z pa,Z o,.bool g,.string S] 82));have d:=Dx ((b.alloc b.size (.cells #[Z k,Z c,Z f,Z ln,Z h,Z u,Z pa,Z o,.bool g,.string S] 82)).trans (e.mono (by have:=b.size;simp;omega)));have r:=Dv a;have t:=EI a 0;have x1:=EI a 1;have x2:=EI a 2;have x3:=EI a 3;have x4:=EI a 4;have v:=EI a 5;have x:=EI a 6;have x7:=EI a 7;have x8:=EI a 8;have x9:=EI a 9;go_wp2_with (go_at_call 66;go_in)
 go_ret
 exact⟨I,d.alloc d.size _⟩
theorem ahI(k p:Int)(w:Aa)(h:JI w):D7 70 #[Z k,Z p] w DC (DY w):=by
 have⟨i,e,g⟩:=h;obtain⟨b,c⟩:=FU (rR e g) (Qn k p);obtain⟨S,T,n,f⟩:∃(S T:Ab) (n:Int),J5 k p=.tuple #[.string S,.string T,Z n]:=⟨_,_,_,rfl⟩;rw[f]at b c
 delta D7
 go_in
 go_wp2_with fail
 refine cm b λj a=>?_
 have d:=Dx a;go_wp2_with fail
 refine cs (c _) ?_;go_wp2_with (go_at_call 66;go_in)
 go_ret
 exact⟨I,d⟩
theorem ahJ{A:List Tw}(h:Hn w0 z b N A L lv K w)(s:Ab)(l:Ac)(hL:L.length<=1000000000000):
  D7 69 #[.pointer (Y b 1),.string s,.string (str l)] w DC λa=>∃o n,Hn w0 z b N A o lv n a/\o=L.length+1:=by
 have E:(V.I8 s l).2.length<=100:=by
  unfold V.I8;split
  .unfold V.MO;split
   .simp
   .rename_i u;have P:=V.tv (V.nx s) (s.size+1) 0 l [];cases hq:V.Es V.Fx V.Jf (V.nx s) (s.size+1) 0 (l,[]) with
    |none=>rw[P.1 hq];simp
    |some x=>
     have⟨l',v⟩:=x;have⟨v',ks,ah,T⟩:=P.2 l' v hq;have hv:v=v':=by have:=T.J;simpa using this
     subst hv;have h1:=TB ks v T.same;have h2:=CG List.length T.bytes;rw[AJ]at h2;have h3:=T.len;rw[T.back];split
     .simp
     .rename_i l2 v2 B;split at B
      .cases B;split
       .simp only;omega
       .simp
      .cases B
  .simp
 obtain⟨er,v,hu⟩:∃er v,V.I8 s l=(er,v):=⟨_,_,rfl⟩;rw[hu]at E;have X:Hid (ET 114 #[.string s,.string (str l)] w λe a=>∃c on d,e=.returned (.tuple #[.slice c on d,Z er])/\V.Row a w.heap.size (.slice c on d) v/\DY w a):=by
  refine(V.ag3 s l w).mono ?_;rintro e Q ⟨O,rfl,m,u⟩;rw[hu]at m ⊢;have⟨c,on,d,D⟩:=Ei m;subst D;exact⟨_,_,_,I,m,u⟩
 have H2:Hid (∀w,ET 115 #[.string s,.string (str l)] w λe a=>∃c on d,e=.returned (.tuple #[.slice c on d,Z er])/\V.Row a w.heap.size (.slice c on d) v/\DY w a):=λw=>by
  refine(V.V5 s l w).mono ?_;rintro e Q ⟨O,rfl,m,u⟩;rw[hu]at m ⊢;have⟨c,on,d,D⟩:=Ei m;subst D;exact⟨_,_,_,I,m,u⟩
 clear hu;generalize str l=S at *;have t:=Dx h;have aa:=Dv h.bo.cell;clear h
 delta D7
 go_in
 go_wp2_with fail
 refine X.mono ?_;rintro e Q ⟨c,on,d,rfl,q,p⟩;have⟨R1,F⟩:=FU q p;clear q p;go_wp2_with fail
 refine(H2 _).mono ?_;rintro e w2 ⟨pa,pn,pc,rfl,r,g⟩;have H:=Dx (ER R1 g);have G:=Dx (F.trans (g.mono F.size));have HS:=Dx (V.UI w2 _ _ v (V.KW H) (V.KW r) U);clear r g;go_wp2_with fail
 refine cm HS λW i=>?_
 have J:=Dx (ER H i);have y:=Dx (G.trans (i.mono G.size));have HT:Hid (D7 117 #[.pointer (some (Y b 1)),.slice c on d] W Ep λa=>∃o n,Hn w0 z b N A o lv n a/\o.length=L.length+1):=by
  refine cm (V.VG w W b L lv K _ v (t.bo.h y) y J hL U λj C=>t.lt j (Aj C)) ?_;rintro a ⟨n,k,hB,hw⟩;refine⟨I,L++[k],n,(t.h y).J (λj C=>?_) hB hw,Ev⟩;have h2:=(J.lt j C).1;have h1:=Dw t;exact abr
 clear i;go_wp2_with (go_at_call 66;go_in)
 refine cm HT λw4 M=>?_
 have H4:=Dx M;clear M;go_wp2
 go_ret
 exact⟨I,H4⟩
theorem ahy{l:List Tw}(h:Hn w0 z b N l L lv K w)(o:LD){v:List V.It}(p:acL o v (HF b l L lv K) w)(u:JI w0)(hL:L.length+1<=1000000000000):
  D7 41 #[ptr b,o.val] w DC λc=>∃a d,Hn w0 z b N l a lv d c/\a<=L.length+1:=by
 obtain⟨e,m⟩:∃e,w.alloc (.cells o.cells 84)=e:=DK;have n:DY w e:=by rw[<-m];exact F9
 have s:=h.h n;have fin:∀{c},DY e c->∃a d,Hn w0 z b N l a lv d c/\a.length<=L.length+1:=λj=>⟨L,K,s.h j,U⟩
 have q:=u.h s.a;have t:Dy e w.heap.size o.cells 84:=by rw[<-m];exact AF w _
 have y:Hid (D7 67 #[.string (str o.s)] e DC λc=>∃a d,Hn w0 z b N l a lv d c/\a.length<=L.length+1):=cm (V.ahC _ e) λc j=>⟨I,fin j⟩
 have A:Hid (D7 68 #[.string (str o.s),o.L] e DC λc=>∃a d,Hn w0 z b N l a lv d c/\a.length<=L.length+1):=cm (V.ahb _ _ v e (p.J.h n) p.len) λc j=>⟨I,fin j⟩
 have B:Hid (∀W,DY e W->D7 69 #[.pointer (some (Y b 1)),.string (str o.s),.string (str o.t)] W DC λc=>∃a d,Hn w0 z b N l a lv d c/\a.length<=L.length+1):=λW j=>cm (ahJ (s.h j) _ _ U) λc ⟨a,d,i,x⟩=>⟨I,a,d,i,U⟩
 have C:Hid (D7 70 #[Z o.a,Z o.b] e DC λc=>∃a d,Hn w0 z b N l a lv d c/\a.length<=L.length+1):=cm (ahI _ _ e q) λc j=>⟨I,fin j⟩
 have D:Hid (D7 71 #[pv o.P] e DC λc=>∃a d,Hn w0 z b N l a lv d c/\a.length<=L.length+1):=cm (ahB _ e) λc j=>⟨I,fin j⟩
 have E:Hid (D7 72 #[.string (str o.s)] e DC λc=>∃a d,Hn w0 z b N l a lv d c/\a.length<=L.length+1):=cm (ahx _ e (by have:=p.s;omega)) λc j=>⟨I,fin j⟩
 have F:Hid (∃a d,Hn w0 z b N l a lv d e/\a.length<=L.length+1):=fin (AA _ _);have lb:=Dv h.bo.cell;have g:=Dx m;have lx:=Dv t;have f6:=EI t 6;have f7:=EI t 7;have G:=n.size;have S:b<e.heap.size:=U;clear h s p q m fin t n u;obtain⟨i,H⟩:∃i,(o.J==1)=i:=DK;obtain⟨x,J⟩:∃i,(o.J==2)=i:=DK;obtain⟨T,M⟩:∃i,(o.J==3)=i:=DK;obtain⟨X,O⟩:∃i,(o.J==4)=i:=DK;obtain⟨q5,P⟩:∃i,(o.J==5)=i:=DK;obtain⟨q6,Q⟩:∃i,(o.J==6)=i:=DK;cases i
 .cases x
  .cases T
   .cases X
    .cases q5
     .cases q6
      .go_enter func41,ntmps41;go_wp2_with fail
       rw[Dw g];go_returns;exact⟨I,F⟩
      .go_enter func41,ntmps41;go_wp2_with fail
       rw[Dw g];refine cm E λr f=>?_
       have k:=Dx f;clear f;go_wp2;go_returns;exact⟨I,k⟩
     .go_enter func41,ntmps41;go_wp2_with fail
      rw[Dw g];refine cm D λr f=>?_
      have k:=Dx f;clear f;go_wp2;go_returns;exact⟨I,k⟩
    .go_enter func41,ntmps41;go_wp2_with fail
     rw[Dw g];refine cm C λr f=>?_
     have k:=Dx f;clear f;go_wp2;go_returns;exact⟨I,k⟩
   .go_enter func41,ntmps41;go_wp2_with fail
    rw[Dw g];go_region_with (go_at_call 69;refine cm (B _ (AA _ _).drew) λr f=>?_;have k:=Dx f;clear f)
    all_goals
     go_wp2;go_returns;exact⟨I,k⟩
  .go_enter func41,ntmps41;go_wp2_with fail
   rw[Dw g];refine cm A λr f=>?_
   have k:=Dx f;clear f;go_wp2;go_returns;exact⟨I,k⟩
 .go_enter func41,ntmps41;go_wp2_with fail
  rw[Dw g];refine cm y λr f=>?_
  have k:=Dx f;clear f;go_wp2;go_returns;exact⟨I,k⟩
theorem mF(c:Int)(n:Nat)(hc:Ya c)(hn:0<n)(h:n<=1000000000001):∃k,k<n/\∀w,D7 43 #[Z c,Z n] w (Z k) λi=>i=w:=by
 have⟨j,l⟩:=hc;have a:¬(n:Int)=0:=U;by_cases g:c<0
 .have d:=Int.emod_nonneg (-(c+1)) a;have f:=Int.emod_lt_of_pos (-(c+1)) (show (0:Int)<n by omega);refine⟨((-(c+1)) % n).toNat,U,λw=>?_⟩;have e:(-(c+1)).tmod n=(((-(c+1)) % n).toNat:Int):=by rw[Ca U];omega
  rw[Int.neg_tmod]at e;have b:=Dx e;clear e d f
  delta D7
  go_in
  go_wp2
  go_ret
  rw[Dw b];exact DN
 .have d:=Int.emod_nonneg c a;have f:=Int.emod_lt_of_pos c (show (0:Int)<n by omega);obtain⟨k,hk⟩:∃k:Nat,c % n=(k:Int):=⟨(c % n).toNat,U⟩;refine⟨k,U,λw=>?_⟩;have b:=Dx hk;clear hk d f
  delta D7
  go_in
  go_wp2
  go_ret
  rw[Dw b];exact DN
theorem fy(hk:o.J=7)(i j:World->Prop)(h:Hid (∀d,w.alloc (.cells o.cells 84)=d->D7 40 #[ptr b,fI o.W] d DC λc=>i c))
  (n:Hid (∀c,i c->b<c/\D7 44 #[.pointer (Y b 1)] c DC λg=>j g)):
  D7 23 #[ptr b,o.val] w DC λc=>j c:=by
 obtain⟨d,a⟩:∃d,w.alloc (.cells o.cells 84)=d:=DK;have⟨l,f⟩:=FU (h d a) a;have k0:o.J<7↔False:=by rw[hk];decide
 have q:decide (o.J<7)=false:=by rw[hk];rfl
 have r:(o.J==7)=true:=by rw[hk];rfl
 clear a h hk
 delta D7
 go_in
 go_wp2_with fail
 rw[Dw f];refine cm l λs k=>?_
 have⟨lb,e⟩:=n _ k;have m:=Dx e;clear k e;go_wp2_with fail
 refine cm m λt e=>?_
 have p:=Dx e;clear e;go_wp2;go_returns;exact⟨I,p⟩
theorem mR(hk:7<o.J){a:Af}(f:EB w b 0 (.slice a 0 cc))(i:World->Prop)
  (h:Hid (∀d,w.alloc (.cells o.cells 84)=d->D7 44 #[.pointer (Y b 1)] d DC λg=>i g)):
  D7 23 #[ptr b,o.val] w DC λn=>i n:=by
 obtain⟨d,c⟩:∃d,w.alloc (.cells o.cells 84)=d:=DK;have⟨k,e⟩:=FU (h d c) c;have lb:=Gv f;have m:decide (o.J<7)=false:=Fy;have p:(o.J==7)=false:=Fy;clear c h hk
 delta D7
 go_in
 go_wp2_with fail
 rw[Dw e];refine cm k λq j=>?_
 have l:=Dx j;clear j;go_wp2;go_returns;exact⟨I,l⟩
theorem fA{t:Tw}(hk:7<o.J)(hi:i<n)(m:w.cell? (Y b 0)=EJ g n cc)(q:w.cell? (Y g (i*2))=ptr t.p.x)(v:w.cell? (Y g (i*2+1))=Ey t.x)(hn:n<=1000000000001)
  (Q:Hid (∀w,ET 43 #[Z o.on,Z n] w λe a=>e=.returned (Z i)/\a=w)) (D E:World->Prop)
  (B:Hid (∀c,w.alloc (.cells o.cells 84)=c->ET 42 #[ptr b,t.val,o.val] c.drew λe a=>e=.returned DC/\D a))
  (N:Hid (∀a,D a->b<a/\ET 44 #[.pointer (Y b 1)] a λe A=>e=.returned DC/\E A)):
  ET 23 #[ptr b,o.val] w λe a=>e=.returned DC/\E a:=by
 obtain⟨c,d⟩:∃c,w.alloc (.cells o.cells 84)=c:=DK;have L:=Dx ((Dw B) c d);have y:=Dx d;have lg:=lt_of_cell q;have W:decide (o.J<7)=false:=Fy;have k7:(o.J==7)=false:=Fy;obtain⟨n0,i0,i1⟩:(0:Int)<n/\(0:Int)<=i/\(i:Int)<n:=U;have f:Dy c w.heap.size o.cells 84:=by
  rw[<-d];exact AF w _
 have f0:=ED f 0 _ I;have l:Below w.heap.size w c:=by
  rw[<-d];exact(AA _ _).alloc (Ar _) _
 have J:=(l.cell (p:=Y b 0) (lt_of_cell m)).trans m;have lx:=lt_of_cell J;have lw:=Dv f;have C:Hid (c.drew.cell? (Y b 0)=some (EJ g n cc)/\c.drew.cell? (Y w.heap.size 1)=some (Z o.on)/\c.drew.rangeAt g (i*2) (Vv t)/\c.drew.rangeAt w.heap.size 0 o.cells.toList):=by
  refine⟨J,ED f 1 _ I,λj u s=>?_,λj u s=>?_⟩
  .have z:j=0\/j=1:=by
    have:=(Bi.1 s).1;simp[Vv]at this;omega
   rcases z with rfl|rfl
   .cases s;exact(l.cell (p:=(Y g (i*2))) lg).trans q
   .cases s;exact(l.cell (p:=(Y g (i*2+1))) lg).trans v
  .rw[Cr];exact ED f j u (by simpa using s)
 clear d B hk f l m q v
 delta ET
 go_in
 go_upto_region 1 with fail
 rw[Dw y]
 go_upto_region 7 with fail
 refine WK.begin (S:=λ_=>True) (T:=λa=>a.cell? (Y b 0)=some (EJ g n cc)/\a.cell? (Y w.heap.size 1)=some (Z o.on)/\a.rangeAt g (i*2) (Vv t)/\a.rangeAt w.heap.size 0 o.cells.toList) (k:=16) EL BR ?_ ?_
 .exact Dw C
 refine DT 0 I ?_;refine DT 1 I ?_;refine DT 2 I ?_;refine DT 3 I ?_;refine Fw 4 I (.more (j:=14) (.of EL) (.more (j:=13) (.of EL) (.of EL))) ?_;refine DT 5 I ?_;refine Fw 6 I (.more (j:=14) (.of EL) (.more (j:=13) (.of EL) (.more (j:=12) (.of EL) (.of EL)))) ?_;refine DT 7 I ?_;refine DT 8 I ?_;refine DT 9 I ?_;refine Fw 10 I (.more (j:=14) (.of EL) (.more (j:=13) (.of EL) (.more (j:=12) (.of EL) (.more (j:=11) (.of EL) (.of EL))))) ?_;refine DT 11 I ?_;refine Iw 15 I (.of EL) (yieldsIf_load_mid Ky 84 (.tmp 3) I w.heap.size 0 I o.cells.toList _ (λw h=>h.2.2.2.2) underlying84 I afc) ?_;refine WK.one (i:=12) EL I (λK r=>?_);go_simp;refine((Dw Q) _).mono ?_;rintro e w5 ⟨rfl,x⟩;rw[x];clear x;go_wp2_with fail
 refine r.out _ _ BR (Dw C) ?_;clear r K;try simp only[Act.put,Al,Av,Ax,Az,Aq,Au]
 refine DT 13 I ?_;refine Iw 14 I (.of EL) (yieldsIf_load_mid Ky 106 (.tmp 39) I g (i*2) I (Vv t) _ (λw h=>h.2.2.2.1) underlying106 I abf) ?_;refine WK.store EL I (λK r=>?_);go_simp;refine(Dw L).mono ?_;rintro e w6 ⟨rfl,F⟩;have O:=Dx F;clear F;go_wp2_with fail
 refine r.out _ _ BR ?_;clear r K;try simp only[Act.put,Al,Av,Ax,Az,Aq,Au]
 refine DT 17 I ?_;refine WK.done EL ?_;have⟨X,G⟩:=(Dw N) _ (Dw O);have M:=Dx G;clear G;go_wp2_with fail
 refine(Dw M).mono ?_;rintro e w7 ⟨rfl,H⟩;have P:=Dx H;clear H;go_wp2;go_returns;exact⟨I,Dw P⟩
theorem ahr(w:Aa)(b:Nat)(o:LD)(hk:o.J<7)(k l:World->Prop)(i:Hid (∀c,w.alloc (.cells o.cells 84)=c->D7 41 #[ptr b,o.val] c DC λd=>k d))
  (r:Hid (∀d,k d->b<d/\D7 44 #[.pointer (Y b 1)] d DC λh=>l h)):
  D7 23 #[ptr b,o.val] w DC λd=>l d:=by
 obtain⟨c,a⟩:∃c,w.alloc (.cells o.cells 84)=c:=DK;have f:Dy c w.heap.size o.cells 84:=by rw[<-a];exact AF w _
 have⟨p,g⟩:=FU (i c a) a;have x:=EI f 0;have y:=Dv f;have v:decide (o.J<7)=true:=by simp[hk]
 have n:Hid (∀(j:Nat) (u:Ad),o.cells[j]?=some u->EB c w.heap.size (0+j) u):=λj u t=>by rw[Cr];exact ED f j u t
 clear a i hk f
 delta D7
 go_in
 go_upto_region 1 with fail
 rw[Dw g]
 go_upto_region 3 with fail
 refine Dh ?_;refine MF I (.tmp 0) I (ptr b) I ?_;refine xS I (.tmp 3) I w.heap.size 0 I o n ?_;simp only[Act.put,Al,Av,Ax];go_wp2_with fail
 refine cm p λz m=>?_
 have⟨lb,e⟩:=r _ m;have q:=Dx e;clear m e;go_wp2_with fail
 refine cm q λA e=>?_
 have s:=Dx e;clear e;go_wp2;go_returns;exact⟨I,s⟩
theorem ZD{k:List Tw}(h:Hn w0 z b N k L lv K w)(o:LD){v:List V.It}(d:acL o v (HF b k L lv K) w)(hk:o.J<=23)(P:JI w0)(hN:N<=900000000000)(hL:L.length<=900000000000)(X:k.length<=900000000000):
  D7 23 #[ptr b,o.val] w DC λj=>∃c l f p,Hn w0 z b (N+1) c l f p j/\l<=L.length+2/\c<=k.length+1/\∀t,k=[t]->7<o.J->∃H,c=[H]/\H.G=KP t.G o v:=by
 have n:DY w (w.alloc (.cells o.cells 84)):=F9;have looks:∀{O:Nat} {c:List Tw} {l:List V.Kp} {f p:Ad} {j:Aa},Hn w0 z b O c l f p j->l.length<=1000000000000->b<j.heap.size/\D7 44 #[.pointer (some (Y b 1))] j DC λs=>Hn w0 z b O c l f p s:=λM hl=>⟨Dv M.bo.cell,(V.cK _ b _ _ _ M.bo hl).mono (by
  rintro e s ⟨rfl,hb⟩;exact⟨I,M.h hb⟩)⟩
 by_cases T:o.J<7
 .have r:acL o v (HF b k L lv K) (w.alloc (.cells o.cells 84)):=⟨d.s,d.J.h n,d.len,d.off,d.c,d.on⟩;refine(ahr w b o T (λj=>∃l p,Hn w0 z b (N+1) k l lv p j/\l.length<=L.length+1) (λj=>∃l p,Hn w0 z b (N+1) k l lv p j/\l.length<=L.length+1) (λJ m=>?_) (λj D=>?_)).mono ?_
  .rw[<-m];exact ahy ((h.h n).more (Nat.le_succ N)) o r P U
  .have⟨l,p,x,y⟩:=D;have⟨F,G⟩:=looks x U;refine⟨F,G.mono ?_⟩;rintro e s ⟨rfl,B⟩;exact⟨I,l,p,B,y⟩
  grind
 by_cases W:o.J=7
 .refine(fy W (λj=>∃c f,Hn w0 z b (N+1) c L f K j/\c.length<=k.length+1) (λj=>∃c f,Hn w0 z b (N+1) c L f K j/\c.length<=k.length+1) (λJ m=>?_) (λj D=>?_)).mono ?_
  .rw[<-m];refine cm (Nn ((h.h n).more (Nat.le_succ N)) o.W U) ?_;rintro j ⟨c,f,x,y,_⟩;exact⟨I,c,f,x,y⟩
  .have⟨c,f,x,y⟩:=D;have⟨F,G⟩:=looks x U;refine⟨F,G.mono ?_⟩;rintro e s ⟨rfl,B⟩;exact⟨I,c,f,B,y⟩
  grind
 .cases hT:k with
  |nil=>
   have u:=h.row;rw[hT]at u;have⟨a,cc,A⟩:=Fa u;refine(mR U (ED h.bo.cell 0 _ (by rw[A];rfl)) (λj=>Hn w0 z b (N+1) k L lv K j) (λJ m=>?_)).mono ?_
   .rw[<-m];exact(looks ((h.h n).more (Nat.le_succ N)) U).2
   grind
  |cons t0 Ts0=>
   rw[<-hT];have C:0<k.length:=by rw[hT];simp
   have⟨i,hi,Q⟩:=mF o.on k.length d.on C U;obtain⟨t,E⟩:∃t,k[i]?=some t:=⟨_,Ah hi⟩;have⟨g,cap,A,aa,q,_⟩:=Jx kw U h.row E;have r:acL o v (HF b k L lv K) (w.alloc (.cells o.cells 84)).drew:=⟨d.s,d.J.h n.drew,d.len,d.off,d.c,d.on⟩;refine(fA U hi (ED h.bo.cell 0 _ (by rw[A];rfl)) (q 0 _ U I) (q 1 _ U I) U Q (λj=>EF w0 z b (N+1) k i L lv (KP t.G o v) j) (λj=>EF w0 z b (N+1) k i L lv (KP t.G o v) j) (λJ m=>?_) (λj D=>?_)).mono ?_
   .rw[<-m];exact bc (h.h n.drew) E o r U P U U
   .have⟨H,l,p,x,y,B⟩:=D;have⟨F,G⟩:=looks x U;refine⟨F,G.mono ?_⟩;rintro e s ⟨rfl,S⟩;exact⟨I,H,l,p,S,y,B⟩
   grind [EF]
def yb(k a c:Int)(s:Ac)(L:Ad):LD:=⟨k,0,a,0,c,0,s,[],L,⟨0,0,0,0,0,0,0,0,false,[]⟩,⟨0,0,0,0,0⟩⟩
def He(A:Nat):Nat->LD
 |0=>yb 8 0 0 [115,117,109] (.slice none 0 0)
 |1=>yb 8 1 0 [119,97,108,108] (.slice none 0 0)
 |2=>yb 10 0 0 [115,117,109] (.slice none 0 0)
 |3=>yb 10 1 0 [115,117,109] (.slice none 0 0)
 |4=>yb 10 1 0 [119,97,108,108] (.slice none 0 0)
 |_=>yb 11 0 1 [] (.slice (some ⟨A,0,none⟩) 1 1)
def QR(i:Nat):List V.It:=if i=5 then [(5,⟨#[]⟩)] else []
def yC:R.Cf:=⟨2,2,3,2,2⟩
def dM:Nat->R.Wd
 |0=>J0 yC
 |i+1=>KP (dM i) (He 0 i) (QR i)
theorem YR:(dM 6).D.length=1:=Kx
theorem dO(A i:Nat)(G:R.Wd)(v:List R.It):KP G (He A i) v=KP G (He 0 i) v:=by
 unfold He;split<;>rfl
def Xx(o:LD):List Value:=o.cells.toList
def firstCells(A:Nat):List Value:=tab (λi=>Xx (He A i)) (List.range 6)
def zA(A:Nat)(k:Nat):Option Obj:=if k=A then some (.cells #[Z 5,.string ⟨#[]⟩] 73 (0,0)) else if k=A+1 then some (.cells (firstCells A).toArray 84 (0,0)) else none
theorem dN(h:Dy w (A+1) (firstCells A).toArray 84)(hi:i<6):∀(j:Nat) (u:Ad),(He A i).cells[j]?=u->w.cell? ⟨A+1,i*24+j,none⟩=u:=λj u b=>by
 have a:=(AB.1 b).1;refine E7 h ?_;have:=Jh (f:=λi=>Xx (He A i)) (n:=24) (λ_=>rfl) (List.range 6) i j i (by simp[hi]) a;unfold firstCells;rw[this];simpa [Xx] using b
theorem VT{n:Int}(h:-1000<=n/\n<=1000):Ya n:=by unfold Ya;omega
theorem rU(hi:i<6):(7<(He A i).J/\(He A i).J<=18)/\(He A i).s.length<=1000/\Ya (He A i).c/\Ya (He A i).on:=by
 have:i=0\/i=1\/i=2\/i=3\/i=4\/i=5:=U;rcases this with rfl|rfl|rfl|rfl|rfl|rfl<;>exact⟨by simp[He,yb],by simp[He,yb],VT (by simp[He,yb]),VT (by simp[He,yb])⟩
theorem YS(b:Dy w A #[Z 5,.string ⟨#[]⟩] 73)(hi:i<6):V.Ff w (He A i).L (QR i):=by
 have a:V.Ff w Dz []:=⟨none,0,I,Ar _,Aj I⟩;have:i=0\/i=1\/i=2\/i=3\/i=4\/i=5:=U;rcases this with rfl|rfl|rfl|rfl|rfl|rfl
 .exact a
 .exact a
 .exact a
 .exact a
 .exact a
 .refine⟨some (Y A 0),1,I,Em,Am ⟨A,0,I,Dv b,λj x d=>?_⟩⟩;have c:j=0:=by grind [QR]
  subst c;obtain rfl:x=(5,⟨#[]⟩):=by simpa [QR] using d.symm
  exact⟨EI b 0,EI b 1⟩
theorem lS(hi:i<6){off:Nat}(h:(He A i).L=.slice (Y b off) n c):b=A:=by
 have:i=0\/i=1\/i=2\/i=3\/i=4\/i=5:=U;rcases this with rfl|rfl|rfl|rfl|rfl|rfl
 .cases h
 .cases h
 .cases h
 .cases h
 .cases h
 .cases h;rfl
def Aw(w0:Aa)(b A i:Nat)(wr:Aa):Prop:=∃t L lv K,Hn w0 (zA A) b (i+1) [t] L lv K wr/\t.G=dM i/\L<=2*i
theorem Aw.begin{t:Tw}(h:Hn w0 (λ_=>none) b 0 [t] [] lv K w2)(c:t.G=J0 yC)(a:W=(w2.alloc (.cells #[Z 5,.string ⟨#[]⟩] 73)).alloc (.cells (firstCells w2).toArray 84)):Aw w0 b w2 0 W:=by
 have f:(w2.alloc (.cells #[Z 5,.string ⟨#[]⟩] 73)).heap.size=w2.heap.size+1:=Ev;have d:DY w2 W:=by
  rw[a];exact F9.alloc U _
 refine⟨t,[],lv,K,((h.h d).more (AV 1)).kh (λk o hz=>?_) (λk hk=>?_),c,Ar _⟩
 .unfold zA at hz;split at hz
  .rename_i e;cases hz;rw[e,a,AL _ _ _ U];exact AF w2 _
  .split at hz
   .rename_i e;cases hz;rw[e,a,<-f];exact AF _ _
   .cases hz
 .have:=h.lt k hk;unfold zA;rw[Ao U,Ao U]
theorem Aw.mem(h:Aw w0 b A i wr):Dy wr A #[Z 5,.string ⟨#[]⟩] 73/\Dy wr (A+1) (firstCells A).toArray 84:=by
 have⟨t,L,lv,K,h,_⟩:=h;exact⟨h.kept A _ (by unfold zA;rw[Ay rfl]),h.kept (A+1) _ (by unfold zA;rw[Ao U,Ay rfl])⟩
theorem Aw.adu(h:Aw w0 b A i wr)(hi:i<6)(u:JI w0):D7 23 #[ptr b,(He A i).val] wr DC λg=>Aw w0 b A (i+1) g:=by
 have⟨w,E⟩:=h.mem;have⟨t,L,lv,K,h,s,D⟩:=h;obtain⟨x,F,y,z⟩:=rU hi;have hz:∀k,HF b [t] L lv K k->k≠A:=λk hk e=>by
  have:=h.c k hk;unfold zA at this;rw[Ay e]at this;cases this
 refine(ZD h (He A i) (v:=QR i) ⟨U,YS w hi,by unfold QR;split<;>decide,λ_ o off n c q f=>hz o f (lS hi q),y,z⟩ U u U U Ev).mono ?_;rintro e g ⟨rfl,m,l,d,j,p,C,_,r⟩;obtain⟨B,rfl,a⟩:=r t rfl x.1;exact⟨I,B,l,d,j,p,by rw[a,s,dO];rfl,U⟩
theorem Aw.over(h:Aw w0 b A 6 wr):∃t L lv K g cap,Hn w0 (λ_=>none) b 7 [t] L lv K wr/\L.length<=12/\EB wr b 0 (EJ g 1 cap)/\EB wr g 0 (ptr t.p.x)/\D7 31 #[ptr t.p.x] wr (Z 1) λl=>l=wr:=by
 have⟨t,L,lv,K,h,e,f⟩:=h;have⟨g,cap,d,j,a,_⟩:=Jx (i:=0) kw U h.row I;have e0:=a 0 _ U I;have c:=(h.tw t Ev).l.D;rw[e,YR]at c;refine⟨t,L,lv,K,g,cap,h.kh (λk o q=>by cases q) (λ_ _=>rfl),f,ED h.bo.cell 0 _ (by rw[d];rfl),by simpa using e0,c⟩
theorem kL(w0:Aa)(b:Nat)(w:Aa)(h:Hn w0 (λ_=>none) b 0 [] [] Dz Dz w)(z:JI w0):
  D7 22 #[ptr b] w DC λn=>∃t L lv K,Hn w0 (λ_=>none) b 7 [t] L lv K n/\L.length<=12:=by
 have r:Hid (D7 40 #[ptr b,.agg #[Z 2,Z 2,Z 3,Z 2,Z 2]] w DC λn=>∃t lv l a,Hn w0 (λ_=>none) b 0 [t] [] lv Dz n/\t.G=J0 yC/\lv=.slice a 1 l):=by
  refine cm (Nn h yC Ev) ?_;rintro n ⟨G,e,u,_,f⟩;obtain⟨t,rfl,m⟩:=f (by unfold R.GA;decide);have⟨a,l,d⟩:=Fa u.row;exact⟨I,t,e,l,a,u,m,d⟩
 have D:=Dx z;clear h z
 delta D7
 go_in
 go_wp2_with fail
 refine cm r ?_;rintro k ⟨t,lv,l,a,f,m,d⟩;subst d;have A:=EI f.bo.cell 0;have lb:=Gv A;have C:=Dx (λW H=>Aw.begin (W:=W) f m H);clear f m r;go_wp2_with fail
 go_loopw [3,5] (λok iv wr=>ok=DC/\∃i:Nat,i<=6/\iv=Z i/\Aw w0 b k.heap.size i wr) (λ_ iv _=>6-(intOf iv).toNat)
 case atStart=>exact⟨I,0,U,I,C _ I⟩
 case round=>
  obtain⟨rfl,i,hi,rfl,c⟩:=hrel;by_cases j:i<6
  .have HP:=Dx (c.adu j D);have s:=dN c.mem.2 j;have P:=Dv c.mem.2;generalize He k.heap.size i=o at *;clear c A;have B:=Dx s;have i1:(i:Int)<6:=U;have i0:0<=(i:Int):=U;clear s
   go_upto_region 8 with fail
   refine Dh ?_;refine MF I (.tmp 0) I (ptr b) I ?_;refine MF I (.tmp 4) I (.slice (some (DG k 0)) 6 6) I ?_;refine MF I (.tmp 5) I (Z i) I ?_;simp only[Act.put,Al,Av,Ax];refine aZ I (.pointer (some (DG k (i*24)))) (by go_simp;try with_reducible rfl) ?_;simp only[Act.put,Al,Av,Ax];refine xS I (.tmp 41) I (k.heap.size+1) (i*24) I o B ?_;exact afI
  .obtain rfl:i=6:=U;have⟨M,F,e,E,g,cap,v,y,N,O,x⟩:=c.over;have⟨lg,J⟩:=KM O N;have⟨p,q⟩:=FU x (And.intro v y);clear c v x y;go_wp2_with fail
   refine cs p ?_;go_wp2;go_returns;exact⟨I,M,F,e,E,q.1,q.2⟩
theorem sD{v:List V.It}(h:V.Ff w X v)(a:v≠[]){off:Nat}(e:X=.slice (Y b off) n c):b<w:=by grind [V.Ff]
def Up(w0:Aa)(b i:Nat)(wr:Aa):Prop:=∃N Ts L lv K,Hn w0 (λ_=>none) b N Ts L lv K wr/\N<=i+7/\L<=2*i+14/\Ts<=i+7
theorem Up.next(h:Up w0 b i wr):Up w0 b (i+1) wr:=by grind [Up]
theorem Up.adu(h:Up w0 b i wr)(hi:i<=400000000000){off:Nat}{v:List V.It}(a:qh w0 vb off o v)(hk:o.J<=23)(e:JI w0):D7 23 #[ptr b,o.val] wr DC λj=>Up w0 b (i+1) j:=by
 have⟨N,k,L,lv,K,h,l,m,p⟩:=h;refine(ZD h o (v:=v) ⟨a.s,a.J.h h.a,a.len,λg d off n c q f=>?_,a.c,a.on⟩ hk e U U U).mono ?_
 .have r:=sD a.J g q;have s:=h.base d f;omega
 .grind [Up]
theorem Up.h(h:Up w0 b i wr):DY w0 wr:=by
 have⟨N,a,L,lv,K,h,_⟩:=h;exact h.a
theorem xM(lo hi:Int)(l:hi<=23)(N:Af)(d O:Nat)(w:Aa)(M:bK w N d)(ad:d<=400000000000)(c:JI w):
  D7 14 #[.slice N d O,Z lo,Z hi] w DC (DY w):=by
 have f:Hn w (λ_=>none) w.heap.size 0 [] [] Dz Dz (w.alloc (.cells #[Dz,Dz] 80)):=by
  refine⟨⟨AF w _,AZ _ _ _ _,λk hk=>(by cases hk)⟩,AZ _ _ _ _,λt c=>(by cases c),λi j t s hi=>(by simp at hi),λt c=>(by cases c),F9,λk hk=>?_,λk o q=>(by cases q),λ_ _=>rfl⟩;rcases hk with (q|q|⟨k',B,_⟩)|q|⟨t,c,_⟩
  .omega
  .cases q
  .cases B
  .cases q
  .cases c
 obtain⟨z,e⟩:∃z,w.alloc (.cells #[Dz,Dz] 80)=z:=DK;rw[e]at f;have⟨H,y,T,X,x⟩:=Eo (kL w w.heap.size z f c) e c M l;clear f e c M l
 delta D7
 go_in
 go_wp2_with fail
 rw[Dw y];refine cm H ?_;rintro w2 ⟨t,L,lv,K,J,hL⟩;have W:Hid (Up w w.heap.size 0 w2):=⟨7,[t],L,lv,K,J,U,U,Ev⟩;clear J hL H;go_wp2_with fail
 go_loopw [8,9] (λok iv wr=>ok=DC/\∃i:Nat,i<=d/\iv=Z i/\Up w w.heap.size i wr) (λ_ iv _=>d-(intOf iv).toNat)
 case atStart=>exact⟨I,0,U,I,W⟩
 case round=>
  obtain⟨rfl,i,aa,rfl,a⟩:=hrel;by_cases C:i<d
  .rcases Dw X with h0|⟨g,off,F,m,A⟩
   .omega
   .subst F;have⟨o,v,n⟩:=A i C;have b:=a.h;have h:∀(j:Nat) (u:Ad),o.cells[j]?=some u->EB wr g (off+i*24+j) u:=λj u hj=>(b.cell (p:=Y g _) m).trans (n.cell j u hj)
    have lv:=Ai m b.size;have S:=Dx a.next;by_cases hk:lo<=o.J/\o.J<=hi
    .have HP:=Dx (a.adu U n (Dj hk.2 (Dw x)) T);have k1:decide (lo<=o.J)=true:=by simp[hk.1]
     have k2:decide (o.J<=hi)=true:=by simp[hk.2]
     clear a n b A hk;have f0:EB wr g (off+i*24) (Z o.J):=h 0 _ I;have P:=Dx h;have i1:(i:Int)<d:=U;have i0:0<=(i:Int):=U;clear h
     go_upto_region 7 with fail
     refine Dh ?_;refine MF I (.tmp 7) I (ptr w.heap.size) I ?_;refine MF I (.tmp 0) I (.slice (some (Y g off)) d O) I ?_;refine MF I (.tmp 9) I (Z i) I ?_;simp only[Act.put,Al,Av,Ax];refine aZ I (.pointer (some (Y g (off+i*24)))) (by go_simp;try with_reducible rfl) ?_;simp only[Act.put,Al,Av,Ax];refine xS I (.tmp 42) I (g) (off+i*24) I o P ?_;exact afI
    .obtain⟨r,D⟩:∃r,decide (lo<=o.J)=r:=DK;obtain⟨G,E⟩:∃G,decide (o.J<=hi)=G:=DK;have hq:r=false\/(r=true/\G=false):=by
      rw[<-D,<-E];by_cases e1:lo<=o.J
      .by_cases e2:o.J<=hi
       .exact absurd ⟨e1,e2⟩ hk
       .exact Am ⟨by simp[e1],by simp[e2]⟩
      .exact Aj (by simp[e1])
     have f0:EB wr g (off+i*24) (Z o.J):=h 0 _ I;clear a n b A hk h;rcases hq with rfl|⟨rfl,rfl⟩;all_goals
      go_wp2_with fail
      go_roundw
      case rel=>exact⟨I,i+1,U,Kc,S⟩
      case measure=>exact Kt
  .have Q:=Dx a.h;clear a;go_wp2;go_returns;exact⟨I,Q⟩
theorem acZ{k:Int}(a:(Lit.int .i64 k).wf=true):Ya k:=by
 unfold Ya;simp[Lit.wf]at a;have b:IntKind.i64.min=-9223372036854775808:=Em;rw[b]at a;exact a
theorem agm:prog.cellsOf 82=10:=EL
theorem agl:prog.cellsOf 23=5:=EL
theorem ae2:prog.cellsOf 84=24:=EL
theorem agk:prog.bytesOf 84=232:=EL
theorem acP{s:Ab}:s=str s.data.toList:=by
 apply CJ;simp
section
variable {H:Type} {enc:TypeId×Value->H} {W:Aa}
theorem KH{y:DataW H×List MemPlace}(h:DataW.trod enc prog W 0 (λ_=>true) true q 3 [v]=y):∃k,v=Z k/\Ya k:=by
 have⟨k,e,_,a⟩:=DataW.trod_int underlying3 h
 grind [acZ]
theorem vw{y:DataW H×List MemPlace}(h:DataW.trod enc prog W 0 (λ_=>true) true q 9 [v]=y):∃s:List UInt8,v=.string (str s)/\y.1=.lit (.string s):=by
 have⟨s,e,a,_⟩:=DataW.trod_string underlying9 h;refine⟨s.data.toList,?_,by rw[a]⟩;rw[<-acP];simpa using e
theorem adA{y:DataW H×List MemPlace}(h:DataW.trod enc prog W 0 (λ_=>true) true q 4 [v]=y):∃b,v=.bool b:=by
 have⟨b,e,_⟩:=DataW.trod_bool underlying4 h;exact⟨b,by simpa using e⟩
theorem agj{cs:Ae}{y:DataW H×List MemPlace}(h:DataW.trod enc prog W 0 (λ_=>true) true q 82 cs=y):∃P:Pk,cs=[Z P.J,Z P.f,Z P.b,Z P.H,Z P.a,Z P.c,Z P.Ez,Z P.off,.bool P.e,.string (str P.d)]:=by
 have⟨j,n,_,_,hl,b,a⟩:=DataW.trod_struct underlying82 h;rw[agm]at hl;match cs,hl,j,b,a with
 |[v0,v1,v2,v3,v4,v5,v6,v7,v8,v9],_,[x0,x1,x2,x3,x4,x5,x6,x7,x8,x9],_,a=>
  obtain⟨k0,rfl,_⟩:=KH (show DataW.trod enc prog W 0 (λ_=>true) true n 3 [v0]=some x0 from a 0 _ rfl);obtain⟨c,rfl,_⟩:=KH (show DataW.trod enc prog W 0 (λ_=>true) true n 3 [v1]=some x1 from a 1 _ rfl);obtain⟨k2,rfl,_⟩:=KH (show DataW.trod enc prog W 0 (λ_=>true) true n 3 [v2]=some x2 from a 2 _ rfl);obtain⟨d,rfl,_⟩:=KH (show DataW.trod enc prog W 0 (λ_=>true) true n 3 [v3]=some x3 from a 3 _ rfl);obtain⟨e,rfl,_⟩:=KH (show DataW.trod enc prog W 0 (λ_=>true) true n 3 [v4]=some x4 from a 4 _ rfl);obtain⟨f,rfl,_⟩:=KH (show DataW.trod enc prog W 0 (λ_=>true) true n 3 [v5]=some x5 from a 5 _ rfl);obtain⟨g,rfl,_⟩:=KH (show DataW.trod enc prog W 0 (λ_=>true) true n 3 [v6]=some x6 from a 6 _ rfl);obtain⟨i,rfl,_⟩:=KH (show DataW.trod enc prog W 0 (λ_=>true) true n 3 [v7]=some x7 from a 7 _ rfl);obtain⟨b8,rfl⟩:=adA (show DataW.trod enc prog W 0 (λ_=>true) true n 4 [v8]=some x8 from a 8 _ rfl);obtain⟨s9,rfl,_⟩:=vw (show DataW.trod enc prog W 0 (λ_=>true) true n 9 [v9]=some x9 from a 9 _ rfl);exact⟨⟨k0,c,k2,d,e,f,g,i,b8,s9⟩,I⟩
theorem agi{cs:Ae}{y:DataW H×List MemPlace}(h:DataW.trod enc prog W 0 (λ_=>true) true q 23 cs=y):∃C:R.Cf,cs=[Z C.b,Z C.a,Z C.c,Z C.e,Z C.d]:=by
 have⟨f,n,_,_,hl,b,a⟩:=DataW.trod_struct underlying23 h;rw[agl]at hl;match cs,hl,f,b,a with
 |[v0,v1,v2,v3,v4],_,[x0,x1,x2,x3,x4],_,a=>
  obtain⟨k0,rfl,_⟩:=KH (show DataW.trod enc prog W 0 (λ_=>true) true n 3 [v0]=some x0 from a 0 _ rfl);obtain⟨c,rfl,_⟩:=KH (show DataW.trod enc prog W 0 (λ_=>true) true n 3 [v1]=some x1 from a 1 _ rfl);obtain⟨k2,rfl,_⟩:=KH (show DataW.trod enc prog W 0 (λ_=>true) true n 3 [v2]=some x2 from a 2 _ rfl);obtain⟨d,rfl,_⟩:=KH (show DataW.trod enc prog W 0 (λ_=>true) true n 3 [v3]=some x3 from a 3 _ rfl);obtain⟨e,rfl,_⟩:=KH (show DataW.trod enc prog W 0 (λ_=>true) true n 3 [v4]=some x4 from a 4 _ rfl);exact⟨⟨k0,c,k2,d,e⟩,I⟩
theorem adB{y:DataW H×List MemPlace}(h:DataW.trod enc prog W 0 (λ_=>true) true q 37 [v]=y)(j:(DataW.weights prog 37 y.1).all (·<=reachBytes)=true):∃l,V.Ff W v l/\l.length<=9000000000000:=by
 have f:∃a n c,v=.slice a n c:=by
  rcases Deep.open_slice underlying37 h with ⟨r,_⟩|⟨a,len,cap,m,n,D,w,r,_⟩;all_goals grind
 have⟨a,n,c,g⟩:=f;have o:DataW.trod enc prog W 0 (λ_=>true) true q 37 v.cells.toList=some (y.1,y.2):=by rw[g];rw[g]at h;exact h
 rcases V.sF (d:=y.1) (p:=y.2) g ⟨q,o⟩ with e|⟨x,i,l,k,u,t,s,hd,b⟩
 .exact⟨[],⟨none,0,by rw[e];rfl,Ar _,Aj I⟩,Ev⟩
 .refine⟨l,s,?_⟩;rw[hd]at j;have:=CL.1 j ((k.length+u.length)*prog.bytesOf 73) (by simp[DataW.weights,underlying37]);rw[V.yA,b]at this;have z:=reachBytes_lt;all_goals grind
theorem s_op{cs:Ae}{y:DataW H×List MemPlace}(h:DataW.trod enc prog W 0 (λ_=>true) true q 84 cs=y)(e:(DataW.weights prog 84 y.1).all (·<=reachBytes)=true):∃(o:LD) (l:List V.It),cs=o.cells.toList/\o.s.length<=1000000000000000/\V.Ff W o.L l/\l.length<=9000000000000/\Ya o.c/\Ya o.on:=by
 have⟨w,n,_,g,hl,f,a⟩:=DataW.trod_struct underlying84 h;rw[ae2]at hl;match cs,hl,w,f,a,g with
 |[v0,v1,v2,v3,v4,v5,v6,v7,v8,v9,v10,v11,v12,v13,v14,v15,v16,v17,v18,v19,v20,v21,v22,v23],_,[x0,x1,x2,x3,x4,x5,x6,x7,x8,x9,x10],_,a,g=>
  have b:∀(j:Nat) (t:Ag) (d:DataW H),([3,3,3,3,3,3,9,9,37,82,23]:List TypeId)[j]?=some t->([x0.1,x1.1,x2.1,x3.1,x4.1,x5.1,x6.1,x7.1,x8.1,x9.1,x10.1]:List (DataW H))[j]?=some d->(DataW.weights prog t d).all (·<=reachBytes)=true:=λj t d p hd=>by
   rw[g]at e;simp only[DataW.weights,underlying84]at e;refine CL.2 λz hz=>?_
   exact CL.1 e z (DataW.weights_mem_each (ts:=[3,3,3,3,3,3,9,9,37,82,23]) p hd z hz)
  obtain⟨k0,rfl,_⟩:=KH (show DataW.trod enc prog W 0 (λ_=>true) true n 3 [v0]=some x0 from a 0 _ rfl);obtain⟨r,rfl,i1⟩:=KH (show DataW.trod enc prog W 0 (λ_=>true) true n 3 [v1]=some x1 from a 1 _ rfl);obtain⟨k2,rfl,_⟩:=KH (show DataW.trod enc prog W 0 (λ_=>true) true n 3 [v2]=some x2 from a 2 _ rfl);obtain⟨s,rfl,_⟩:=KH (show DataW.trod enc prog W 0 (λ_=>true) true n 3 [v3]=some x3 from a 3 _ rfl);obtain⟨u,rfl,i4⟩:=KH (show DataW.trod enc prog W 0 (λ_=>true) true n 3 [v4]=some x4 from a 4 _ rfl);obtain⟨v,rfl,_⟩:=KH (show DataW.trod enc prog W 0 (λ_=>true) true n 3 [v5]=some x5 from a 5 _ rfl);obtain⟨s6,rfl,e6⟩:=vw (show DataW.trod enc prog W 0 (λ_=>true) true n 9 [v6]=some x6 from a 6 _ rfl);obtain⟨s7,rfl,_⟩:=vw (show DataW.trod enc prog W 0 (λ_=>true) true n 9 [v7]=some x7 from a 7 _ rfl);have⟨l,m,c⟩:=adB (show DataW.trod enc prog W 0 (λ_=>true) true n 37 [v8]=some x8 from a 8 _ I) (b 8 37 x8.1 I I);have⟨P,k⟩:=agj (show DataW.trod enc prog W 0 (λ_=>true) true n 82 [v9,v10,v11,v12,v13,v14,v15,v16,v17,v18]=some x9 from a 9 _ I);have⟨C,hC⟩:=agi (show DataW.trod enc prog W 0 (λ_=>true) true n 23 [v19,v20,v21,v22,v23]=some x10 from a 10 _ I);have i:=b 6 9 x6.1 I I;rw[e6]at i;simp only[DataW.weights,List.all_cons,List.all_nil,Bool.and_true,Db]at i;have x:=reachBytes_lt;simp only[List.cons.injEq,and_true]at k hC;obtain⟨rfl,rfl,rfl,rfl,rfl,rfl,rfl,rfl,rfl,rfl⟩:=k;obtain⟨rfl,rfl,rfl,rfl,rfl⟩:=hC;exact⟨⟨k0,r,k2,s,u,v,s6,s7,v8,P,C⟩,l,I,show s6.length<=_ by omega,m,c,i4,i1⟩
theorem oC{d:DataW H}{p:List MemPlace}{a0:Af}(F:v=.slice a0 n0 c0)(h:DataW.Trod enc prog W 0 (λ_=>true) true 51 v d p)(t:(DataW.weights prog 51 d).all (·<=reachBytes)=true):bK W a0 n0/\n0<=800000000000:=by
 subst F;have⟨fuel,h⟩:=h;simp only[Value.cells]at h;rcases Deep.open_slice underlying51 h with ⟨k,_⟩|⟨a,len,cap,m,n,D,L,k,_,hl,N,s,z,hc⟩
 .have:Value.slice a0 n0 c0=.slice none 0 0:=by simpa using k
  cases this;exact⟨Aj I,AV _⟩
 .have E:Value.slice a0 n0 c0=.slice (some a) len cap:=by simpa using k
  cases E;rw[Ay rfl]at s;rw[((Prod.mk.inj z).1)]at t;simp only[DataW.weights,underlying51,List.all_cons,Dk,List.all_append]at t;have⟨G,w,_⟩:=t;have J:∀i,i<n0->(DataW.weights prog 84 (D i)).all (·<=reachBytes)=true:=λi hi=>by
   have g:∀(l:List (DataW H)),(DataW.weightsAll prog 84 l).all (·<=reachBytes)=true->∀x∈l,(DataW.weights prog 84 x).all (·<=reachBytes)=true:=λl=>by
    induction l with
    |nil=>intro _ x z;cases z
    |cons y l ih=>grind [DataW.weightsAll]
   exact g _ w (D i) (Cy.2 ⟨i,by simpa using hi,I⟩)
  have hn:n0<=800000000000:=by
   have O:=reachBytes_lt
   grind [agk]
  refine⟨?_,hn⟩;by_cases C:n0=0
  .exact Aj C
  .right;rw[ae2]at hc;have each:∀i,i<n0->∃(o:LD) (l:List V.It),(∀j u,o.cells[j]?=some u->W.cell? (a.add (i*24+j))=some u)/\o.s.length<=1000000000000000/\V.Ff W o.L l/\l.length<=9000000000000/\Ya o.c/\Ya o.on:=λi hi=>by
    have⟨B,g1,g2⟩:=hc i U;have⟨_,A,r⟩:=World.cells?_some g1
    grind [s_op,Deep.add_add]
   have⟨P,_,f,_⟩:=each 0 U;have e:=f 0 _ I;have c:a.spot=none:=by
    cases c:a.spot with
    |none=>rfl
    |some y=>grind [World.cell?,Addr.add]
   have⟨b,off,K⟩:=a;simp only at c;subst c;have q:∀o,((Y b off):Addr).add o=(Y b (off+o)):=λo=>by simp[Addr.add]
   rw[q]at e;refine⟨b,off,I,Gv e,λi hi=>?_⟩;have⟨o,l,e1,e2,e3,e4,e5,e6⟩:=each i hi;refine⟨o,l,λj u M=>?_,e2,e3,e4,e5,e6⟩
   grind
end
end Go.Proofs.YtblomippkddgiabGreatDoor
