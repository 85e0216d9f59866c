import Derived.Test.YtblomippkddgiabGreatDoorJ07
set_option maxRecDepth 100000
set_option maxHeartbeats 4000000
namespace Go.Proofs.YtblomippkddgiabGreatDoor
open Go.Proofs.Tryz RowKit
variable {buf cur:Array Value}{cl tm:Bool}{E E' F F':D9}{kd kd' life ln lv o' pa' sq st why:Int}{lives:List Int}{v:List R.It}{jobs jobs' js:List R.Jb}{seen:List R.Sn}{l:List UInt8}{cs_ xs:List Value}{B a a0 a1 b b' cap cb ci g i j k m n ni nl nm q s size u x:Nat}{z:Nat×Nat}{o:Obj}{o0 o1 o2 old:Option Addr}{P:Pk}{p:Pl}{M:R.Bk}{d:R.Cd}{c:R.Cf}{r r':R.Sn}{G:R.Wd}{y:PR}{t:SP}{e:TypeId}{X:Value}{W w w':World}
theorem Pw(a b:Addr)(w:Aa):
  CallsD prog 86 #[.pointer (a),.pointer (b)] .returning w λe d f=>e=.returned Ep/\d=.returning/\f=w:=by
 refine callsD_of_wpS func86 I λc₀ c hu=>?_
 apply wpS_seq;apply wpS_region;simp[wpOpsS,go_sem,recoverD,hu,ntmps86,Exit.thenS];rw[show (#[Value.pointer (some a),Value.pointer (some b)]++((Array.replicate 7 undef).setIfInBounds 1 (Value.nilIface)).setIfInBounds 0 (Value.nilIface))=#[.pointer (some a),.pointer (some b),.nilIface,.nilIface,undef,undef,undef,undef,undef] from rfl];exact adV
theorem Rr{a:List PanicEntry}(f:w.cell? ⟨a0,0,none⟩=some (.int .i64 0))(g:w.cell? ⟨a1,0,none⟩=some (.int .i64 0))(i:w.frozen? ⟨a0,0,none⟩=false)(j:w.frozen? ⟨a1,0,none⟩=false)(u:¬a0=a1):
  CallsD prog 86 #[.pointer (some ⟨a0,0,none⟩),.pointer (some ⟨a1,0,none⟩)] (.panicking ({v:=.iface 161 (Gk n q),recovered:=false} :: a)) w λe x h=>
   e=.returned (.tuple #[])/\x=.panicking ({v:=.iface 161 (Gk n q),recovered:=true} :: a)/\h.cell? ⟨a0,0,none⟩=some (.int .i64 0)/\h.cell? ⟨a1,0,none⟩=some (.int .i64 n)/\DF (λk=>k=a0\/k=a1) w h:=by
 refine callsD_of_wpS func86 I λs d hu=>?_
 apply wpS_seq;apply wpS_region;simp[wpOpsS,go_sem,recoverD,hu,ntmps86,Exit.thenS];rw[show (#[Value.pointer (some {block:=a0,off:=0}),Value.pointer (some {block:=a1,off:=0})]++((Array.replicate 7 undef).setIfInBounds 1 (Value.iface 161 (Gk n q))).setIfInBounds 0 (Value.iface 161 (Gk n q)))=#[.pointer (some {block:=a0,off:=0}),.pointer (some {block:=a1,off:=0}),.iface 161 (Gk n q),.iface 161 (Gk n q),undef,undef,undef,undef,undef] from rfl];refine wpS_of_wp ?_;have t:=V.Od n q;have l0:=lt_of_cell f;have l1:=lt_of_cell g;go_wp2_with fail
 refine(V.Px n q _).mono ?_;rintro e c ⟨rfl,b⟩;have s1:=b.size;have g0:=(b.cell (p:=⟨a0,0,none⟩) l0).trans f;have g1:=(b.cell (p:=⟨a1,0,none⟩) l1).trans g;have A:=(b.frozen (p:=⟨a0,0,none⟩) l0).trans i;have B:=(b.frozen (p:=⟨a1,0,none⟩) l1).trans j;have y:a0<c.heap.size:=by omega
 have z:a1<c.heap.size:=by omega
 have e2:¬a1=a0:=by omega
 have r:=Dx (DF.J b (λk=>k=a0\/k=a1));clear f g i j b;go_wp2;have l:((c.setCell {block:=a0,off:=0} (.int .i64 0)).setCell {block:=a1,off:=0} (Value.int IntKind.i64 ↑n)).cell? ⟨a0,0,none⟩=some (.int .i64 0):=by simp[go_sem,g0]
 have m:((c.setCell {block:=a0,off:=0} (.int .i64 0)).setCell {block:=a1,off:=0} (Value.int IntKind.i64 ↑n)).cell? ⟨a1,0,none⟩=some (.int .i64 n):=by simp[go_sem,g1]
 have o:DF (λk=>k=a0\/k=a1) w ((c.setCell {block:=a0,off:=0} (.int .i64 0)).setCell {block:=a1,off:=0} (Value.int IntKind.i64 ↑n)):=
  ((Dw r).setCell (p:=⟨a0,0,none⟩) (Aj (Aj rfl)) _).setCell (p:=⟨a1,0,none⟩) (Aj (Am rfl)) _
 show bodyPostS prog f86 s d _ _ _ _ _;exact⟨I,_,I,_,results_none I _ _ _,I,I,l,m,o⟩
theorem lu(w:Aa)(x h n cap cb i:Nat)(ln uid c:Int)(X:Ad)(y er:Int)(C:World->Prop)(v:EB w x 2 (EJ h n cap))(hi:i<n)(j:EB w h i (ptr cb))
  (g:Hid (∀d,DY w d->d=w.heap.size+2->D7 88 #[ptr cb,Z ln,Z uid,Z c,X] d (.tuple #[Z y,Z er]) λa=>C a/\a.heap[w.heap.size]?=d.heap[w.heap.size]?/\a.heap[w.heap.size+1]?=d.heap[w.heap.size+1]?/\d<=a.heap.size)):
  D7 52 #[ptr x,Z i,Z ln,Z uid,Z c,X] w (.tuple #[Z y,Z er]) λd=>∃b,C b/\DF (λk=>k=w.heap.size\/k=w.heap.size+1) b d:=by
 have E:∀(fn:Fn) (first cap:Array Value) (w:Aa),(Instr.makeFunc fn first cap).run prog w=.ok (.func fn first cap) w:=λ_ _ _ _=>rfl
 have H:0<=(i:Int):=U;have J:(i:Int)<n:=U;have⟨B,D⟩:=KM v j;have z:Hid (DY w ((w.alloc (.cells #[Z 0] 3)).alloc (.cells #[Z 0] 41))):=F9.alloc Ev _;have A:=Dx (g _ z Ev);have q:Hid (Dy ((w.alloc (.cells #[Z 0] 3)).alloc (.cells #[Z 0] 41)) w.heap.size #[Z 0] 3):=(AL _ _ _ Ev).trans (AF w _);have r:Hid (Dy ((w.alloc (.cells #[Z 0] 3)).alloc (.cells #[Z 0] 41)) (w.heap.size+1) #[Z 0] 41):=by
  exact ach
 clear g
 go_enter_defers func52,ntmps52
 go_wp2_with (first|(go_at_call 35;go_in))
 refine cm A ?_;rintro b ⟨hC,l,m,u⟩;have s:=l.trans (Dw q);have t:=m.trans (Dw r);have c0:=EI s 0;have c1:=EI t 0;have L:b.frozen? (EN w 0)=false:=Eb s;have M:b.frozen? (DG w 0)=false:=Eb t;simp at u;have F:w.heap.size<b.heap.size:=U;have G:w.heap.size+1<b.heap.size:=U;have o:=Dx hC;clear l m s t hC v j;go_wp2;refine leaves_cons (f:=86) (args:=#[.pointer (some (EN w 0)),.pointer (some (DG w 0))]) Ev Vb ?_;refine(Pw _ _ _).mono ?_;rintro e K a ⟨rfl,rfl,rfl⟩;simp[Leaves,settle,results,results52,go_sem,c0,c1];exact⟨b,o,((DF.refl _ b).setCell (p:=EN w 0) (Aj (Aj I)) _).setCell (p:=DG w 0) (Aj (Am I)) _⟩
theorem WW(w:Aa)(x h n cap cb i:Nat)(ln uid b:Int)(X:Ad)(n0:Nat)(C:World->Prop)(u:EB w x 2 (EJ h n cap))(hi:i<n)(m:EB w h i (ptr cb))
  (g:Hid (∀c,DY w c->c=w.heap.size+2->ET 88 #[ptr cb,Z ln,Z uid,Z b,X] c λe a=>e=EQ n0 0/\C a/\a.heap[w.heap.size]?=c.heap[w.heap.size]?/\a.heap[w.heap.size+1]?=c.heap[w.heap.size+1]?/\c<=a.heap.size)):
  D7 52 #[ptr x,Z i,Z ln,Z uid,Z b,X] w (.tuple #[Z 0,Z n0]) λc=>∃d,C d/\DF (λk=>k=w.heap.size\/k=w.heap.size+1) d c:=by
 have D:∀(fn:Fn) (first cap:Array Value) (w:Aa),(Instr.makeFunc fn first cap).run prog w=.ok (.func fn first cap) w:=λ_ _ _ _=>rfl
 have J:0<=(i:Int):=U;have K:(i:Int)<n:=U;have⟨A,B⟩:=KM u m;have v:Hid (DY w ((w.alloc (.cells #[Z 0] 3)).alloc (.cells #[Z 0] 41))):=F9.alloc Ev _;have y:=Dx (g _ v Ev);have r:Hid (Dy ((w.alloc (.cells #[Z 0] 3)).alloc (.cells #[Z 0] 41)) w.heap.size #[Z 0] 3):=(AL _ _ _ Ev).trans (AF w _);have s:Hid (Dy ((w.alloc (.cells #[Z 0] 3)).alloc (.cells #[Z 0] 41)) (w.heap.size+1) #[Z 0] 41):=by
  exact ach
 clear g
 go_enter_defers func52,ntmps52
 go_wp2_with (first|(go_at_call 35;go_in))
 refine cm y ?_;rintro d ⟨hC,o,p,t⟩;have j:=o.trans (Dw r);have l:=p.trans (Dw s);have c0:=EI j 0;have c1:=EI l 0;have E:d.frozen? (EN w 0)=false:=Eb j;have F:d.frozen? (DG w 0)=false:=Eb l;simp at t;have G:w.heap.size<d.heap.size:=U;have H:w.heap.size+1<d.heap.size:=U;have q:=Dx hC;clear o p j l hC u m;go_wp2;refine leaves_cons (f:=86) (args:=#[.pointer (some (EN w 0)),.pointer (some (DG w 0))]) Ev Vb ?_;refine(Rr c0 c1 E F U).mono ?_;rintro e L a ⟨rfl,rfl,j,l,z⟩;simp[Leaves,settle,results,results52,go_sem,j,l];exact⟨d,q,z⟩
theorem WV(w:Aa)(x b n cap:Nat)(cl ln uid a:Int)(X:Ad)(h:EB w x 2 (EJ b n cap))(hc:cl<0\/n<=cl):
  D7 52 #[ptr x,Z cl,Z ln,Z uid,Z a,X] w (.tuple #[Z 0,Z 13]) (DY w):=by
 have g:∀(fn:Fn) (first cap:Array Value) (w:Aa),(Instr.makeFunc fn first cap).run prog w=.ok (.func fn first cap) w:=λ_ _ _ _=>rfl
 have d:=Gv h;have HB:Hid (DY w ((w.alloc (.cells #[Z 0] 3)).alloc (.cells #[Z 13] 41))):=F9.alloc Ev _;by_cases i:cl<0
 .have c:¬0<=cl:=U;exact afy
 .have c:0<=cl:=U;have j:¬cl<(n:Int):=U;exact afy
theorem LW.lG(h:LW p F G w)(hi:i<G.b):w.cell? (Y p.cs i)=ptr (p.cb i):=by grind [LW,World.cell?]
theorem LW.call(h:LW p F G w)(A:JI w)(cl ln uid a:Int)(o:-9223372036854775808<=uid/\uid<=9223372036854775807){v:List V.It}(y:V.Ff w X v)(hn:v.length<=9000000000000):
  D7 52 #[ptr p.x,Z cl,Z ln,Z uid,Z a,X] w (.tuple #[Z (R.Gc G cl ln uid a v).1.1,Z (R.Gc G cl ln uid a v).1.2]) λc=>∃d,LW p d (R.Gc G cl ln uid a v).2 c/\D8 F d w c:=by
 by_cases m:cl<0\/(G.b.length:Int)<=cl
 .have e0:R.Gc G cl ln uid a v=((0,13),G):=by unfold R.Gc;rw[Ay m]
  rw[e0];refine cm (WV w p.x p.cs G.b.length p.cap cl ln uid a X (EI h.bx 2) m) λc x=>?_
  exact⟨I,F,h.h x,D8.J F x⟩
 .obtain⟨i,rfl⟩:∃i:Nat,cl=(i:Int):=⟨cl.toNat,U⟩;have hi:i<G.b.length:=U;have g:∀c,DY w c->c.heap.size=w.heap.size+2->ET 88 #[ptr (p.cb i),Z ln,Z uid,Z a,X] c λe b=>e=PY (R.Gc G i ln uid a v).1/\(∃wf d,DY w wf/\wf.heap.size=w.heap.size+2/\LW p d (R.Gc G i ln uid a v).2 b/\D8 F d wf b)/\b.heap[w.heap.size]?=c.heap[w.heap.size]?/\b.heap[w.heap.size+1]?=c.heap[w.heap.size+1]?/\c.heap.size<=b.heap.size:=λc f hz=>by
   refine cm ((h.h f).aeq (A.h f) (Ah hi) ln uid a o (y.h f) hn) ?_;rintro b ⟨d,r,j⟩;all_goals grind [LW,D8,DF]
  have fin:∀c l,(∃wf d,DY w wf/\wf.heap.size=w.heap.size+2/\LW p d (R.Gc G i ln uid a v).2 l/\D8 F d wf l)->DF (λk=>k=w.heap.size\/k=w.heap.size+1) l c->∃d,LW p d (R.Gc G i ln uid a v).2 c/\D8 F d w c:=by
   rintro c l ⟨wf,d,f,hz,r,j⟩ u;have s:∀k,d k->¬(k=w.heap.size\/k=w.heap.size+1):=λk t=>by
    rcases j.fresh k t with q|q
    .have:=h.lt k q;omega
    .omega
   refine⟨d,r.y u s,⟨?_,λk t=>?_⟩⟩
   .exact((DF.J f F).trans j.H).andThen u (λk z e=>by omega)
   .rcases j.fresh k t with q|q;all_goals grind
  by_cases C:(R.Gc G i ln uid a v).1.2=16\/(R.Gc G i ln uid a v).1.2=4
  .have B:(R.Gc G i ln uid a v).1.1=0:=by
    rcases R.jm h.wf i ln uid a v with ⟨n,_,e⟩|⟨_,_,_,_,_,_,_,_,_,_,_,_,_,_,_,e⟩;all_goals grind
   refine(WW w p.x p.cs G.b.length p.cap (p.cb i) i ln uid a X (R.Gc G i ln uid a v).1.2.toNat (λb=>∃wf d,DY w wf/\wf.heap.size=w.heap.size+2/\LW p d (R.Gc G i ln uid a v).2 b/\D8 F d wf b) (EI h.bx 2) hi (h.lG hi) (λc f hz=>(g c f hz).mono ?_)).mono ?_
   .all_goals grind [PY]
   .rintro e c ⟨rfl,l,r,j⟩;all_goals grind
  .refine(lu w p.x p.cs G.b.length p.cap (p.cb i) i ln uid a X (R.Gc G i ln uid a v).1.1 (R.Gc G i ln uid a v).1.2 (λb=>∃wf d,DY w wf/\wf.heap.size=w.heap.size+2/\LW p d (R.Gc G i ln uid a v).2 b/\D8 F d wf b) (EI h.bx 2) hi (h.lG hi) (λc f hz=>(g c f hz).mono ?_)).mono ?_
   .all_goals grind [PY]
   .rintro e c ⟨rfl,l,r,j⟩;exact⟨I,fin c l r j⟩
theorem lF:D7 39 #[Dz] w Dz λa=>a=w:=by
 have b:∀w,(binOp .eql 37 Dz Dz).run prog w=.ok DC w:=λw=>by kernel_rfl
 delta D7
 go_in
 go_wp2;go_returns;exact DN
theorem YU{off:Nat}:∀v,(∀j x,v[j]?=some x->w.cell? (Y b (off+j*2))=Z x.1/\w.cell? (Y b (off+j*2+1))=some (.string x.2))->∀j u,(V.flat v)[j]?=some u->w.cell? (((Y b off):Addr).add j)=some u:=λv h j u d=>by
 have hl:=GG d;rw[V.I5]at hl;have f:v[j / 2]?=some v[j / 2]:=Ah U;have⟨a,c⟩:=V.flat_get v (j / 2) _ f;have⟨c0,c1⟩:=h (j / 2) _ f;rw[Bc];rcases Nat.mod_two_eq_zero_or_one j with q|q
 .have e:j / 2*2=j:=U;rw[e]at a c0;rw[d]at a;cases a;exact c0
 .have e:j / 2*2+1=j:=U;rw[e]at c;rw[d]at c;cases c;rw[Nat.add_assoc,e]at c1;exact c1
theorem TK(w:Aa)(b off cap:Nat)(v:List V.It)(hn:v.length<=1000)(h:∀j x,v[j]?=some x->w.cell? (Y b (off+j*2))=Z x.1/\w.cell? (Y b (off+j*2+1))=some (.string x.2))(q:b<w):
  ET 39 #[.slice (Y b off) v cap] w λe r=>(∃O,e=.returned O/\V.Row r w O v/\¬O=Dz)/\DY w r:=by
 have C:∀w,(binOp .eql 37 (.slice (some (Y b off)) v.length cap) Dz).run prog w=.ok DI w:=λw=>by rfl
 have⟨i0,hi,m,n,o⟩:=A1 V.LQ;have hB:DY w (w.alloc (.cells #[] 73)):=F9;have g:Hid (∀j u,(V.flat v)[j]?=some u->(w.alloc (.cells #[] 73)).cell? (((Y b off):Addr).add j)=some u):=YU (w:=w.alloc (.cells #[] 73)) v (λj x B=>by
  have⟨z,A⟩:=h j x B;exact⟨(hB.cell (p:=Y b _) q).trans z,(hB.cell (p:=Y b _) q).trans A⟩)
 have f:Hid ((w.alloc (.cells #[] 73)).ownsRow w.heap.size 73 2 (EJ w.heap.size 0 0) 0 []):=⟨I,Am ⟨w.heap.size,0,#[],I,Ar _,AF w _,Ar _,AV _,I,I⟩⟩;have i:=V.I5 v;have s:=Dx hB;clear h
 delta ET
 go_in
 go_wp2_with (at_builtin;go_must (refine AQ _ I (.tmp 5) (.tmp 6) 37 I w.heap.size 73 i0 (.agg #[Z 0,.string ⟨#[]⟩]) 2 24 underlying37 hi m n o I Em (EJ w.heap.size 0 0) 0 [] I f (Y b off) v.length cap (V.flat v) I i g (V.Oe v) JG U Ev ?_))
 intro D H c a d _;have⟨E,G,F,l⟩:=Ei c;subst l;have hz:=s.grown a Ev (λk hk=>by cases hk;exact Ar _);have⟨y,t⟩:=FU c d;clear c a d;go_wp2
 go_ret
 refine⟨⟨_,I,?_,λe=>?_⟩,hz⟩
 .exact Dw y
 .exact t e
theorem Yx(h:Gg w F X v)(hn:v.length<=1000):ET 39 #[X] w λe a=>(∃O,e=.returned O/\V.Row a w O v/\(O=.slice none 0 0↔v=[]))/\DY w a:=by
 rcases h with ⟨rfl,rfl⟩|⟨b,off,cap,c,d,rfl,_,_,f,g⟩
 .refine cs (lF) ?_
  grind [V.My,Below.refl]
 grind [TK,World.cell?]
def abe(r:Int×Int×List R.It×Int)(O:Ad):Ending:=.returned (.tuple #[.agg #[Z r.1,Z r.2.1,O],Z r.2.2.2])
theorem aI(F:D9){lb:Nat}{x:J7}(hv:v.length<=1000)(o:Gg w F x.rv v)(hk:k<nl)(b3:w.cell? (Y cb 3)=EJ lb nl nl)(ha:acK w lb k x):
  ET 36 #[ptr cb,Z k] w λe g=>(∃O,e=.returned (.tuple #[.agg #[Z x.d,Z x.a,O],Z 0])/\V.Row g w O v)/\DY w g:=by
 obtain⟨y,A,z,p⟩:=Lc o;have B:Hid (∀g,DY w g->ET 39 #[.slice y A z] g λe t=>(∃a n c,e=.returned (.slice a n c)/\V.Row t g.heap.size (.slice a n c) v)/\DY g t):=λg hb=>by
  have G:Gg g F (.slice y A z) v:=by
   rw[<-p];exact o.keep (DF.J hb (λ_=>False)) (λ_ _ _ _ h=>h) (λ_ q=>q)
  refine(Yx G hv).mono ?_;rintro e t ⟨⟨O,rfl,P,_⟩,h2⟩;obtain⟨a,n,c,rfl⟩:=Ei P;exact⟨⟨a,n,c,I,P⟩,h2⟩
 obtain⟨st,r,rv,u,pc,m,N,cm,wt,X⟩:=x;obtain⟨a0,a1,a2,a3,a4,a5,a6,a7,a8,a9⟩:=ha;simp only at a0 a1 a2 a3 a4 a5 a6 a7 a8 a9 p o;rw[p]at a2;generalize str m=SM at *;generalize str cm=SC at *;have q1:0<=(k:Int):=U;have q2:(k:Int)<nl:=U;obtain⟨ad,ae⟩:=KM b3 a0;simp only;obtain⟨i,hBX⟩:∃i,(w.alloc (.cells #[Z 0,Z 0,Dz] 64)).alloc (.cells #[Z st,Z r,.slice y A z,Z u,Z pc,.string SM,Z N,.string SC,Z wt,Z X] 129)=i:=DK;have M:Hid (DY w i):=by
  rw[<-hBX];exact F9.alloc Ev _
 have s:Dy i (w.heap.size+1) #[Z st,Z r,.slice y A z,Z u,Z pc,.string SM,Z N,.string SC,Z wt,Z X] 129:=by
  rw[<-hBX,<-Cx w];exact AF _ _
 have D:Dy i w.heap.size #[Z 0,Z 0,Dz] 64:=by
  exact wQ
 obtain⟨c0,c1,c2⟩:=TH s 0 1 2;have S:i.heap.size=w.heap.size+2:=by rw[<-hBX];simp
 obtain⟨J,K,HC⟩:=Ll hBX D (B i.drew M.drew);have C:Hid (∀(b:Aa) (a:Af) (n c:Nat),V.Row b i.drew.heap.size (.slice a n c) v->DY i.drew b->(b.cell? (EN w 0)=some (Z 0)/\b.cell? (EN w 1)=some (Z 0)/\b.cell? (EN w 2)=some Dz/\(∀j,b.frozen? (EN w j)=false)/\w.heap.size<b.heap.size/\b.cell? (DG w 0)=some (Z st)/\b.cell? (DG w 1)=some (Z r)/\b.cell? (DG w 2)=some (.slice y A z))/\V.Row (((b.setCell (EN w 0) (Z st)).setCell (EN w 1) (Z r)).setCell (EN w 2) (.slice a n c)) w.heap.size (.slice a n c) v/\DY w (((b.setCell (EN w 0) (Z st)).setCell (EN w 1) (Z r)).setCell (EN w 2) (.slice a n c))):=λb a n c d f=>by
  have aa:i.drew.heap.size=w.heap.size+2:=S;have g3:Dy b w.heap.size #[Z 0,Z 0,Dz] 64:=(f.block _ U).trans (Dw K);have g4:=(f.block (w.heap.size+1) U).trans (show i.drew.heap[w.heap.size+1]?=_ from s);have l:DY w b:=M.drew.trans (f.mono U);refine⟨⟨EI g3 0,EI g3 1,EI g3 2,λj=>Eb g3,Dv g3,EI g4 0,EI g4 1,EI g4 2⟩,?_,((l.setCell Ev _).setCell Ev _).setCell Ev _⟩;have L:DF (λk=>k=w.heap.size) b (((b.setCell (EN w 0) (Z st)).setCell (EN w 1) (Z r)).setCell (EN w 2) (.slice a n c)):=((Eg _).trans (Eg _)).trans (Eg _);refine V.GL (L.row d (λj hj e=>?_)) U;have:=((Ba d) j hj).1;omega
 clear hBX s D B o p S
 delta ET
 go_in
 go_wp2_with (first|(go_at_call 64;go_in))
 rw[Dw J];go_region_held3 (λg=>g.cell? (DG w 0)=some (Z st)/\g.cell? (DG w 1)=some (Z r)/\g.cell? (DG w 2)=some (.slice y A z)) (go_keep) ((go_at_call 39;refine HC.mono ?_;rintro e b ⟨⟨T,on,W,rfl,d⟩,f⟩;have E:=C b T on W d f;obtain⟨⟨d0,d1,d2,zz,m0,x0,x1,x2⟩,Q,l⟩:=E;have HR:=Dx Q;have H:=Dx l;clear d f Q l))
 all_goals
  go_wp2;exact Bm (v:=.tuple #[.agg #[Z st,Z r,.slice T on W],Z 0]) (by simp[results,results36,go_sem,d0,d1,d2]) I ⟨⟨_,I,HR⟩,H⟩
theorem UW{lb:Nat}(hk:ln<0\/nl<=ln)(a:EB w cb 3 (EJ lb nl nl)):
  D7 36 #[ptr cb,Z ln] w (.tuple #[.agg #[Z 0,Z 0,Dz],Z 14]) (DY w):=by
 have HB:Hid (DY w (w.alloc (.cells #[Z 0,Z 0,Dz] 64))):=F9;have hl:=Gv a;by_cases c:ln<0
 .have b:¬0<=ln:=U;exact afP
 .have b:0<=ln:=U;have d:¬ln<(nl:Int):=U;exact afP
theorem UU{cs:Nat}{cl:Int}(b:EB w x 2 (EJ cs n cap))(hc:cl<0\/n<=cl):
  D7 19 #[ptr x,Z cl,Z ln] w (.tuple #[.agg #[Z 0,Z 0,Dz],Z 13]) (DY w):=by
 have HB:Hid (DY w (w.alloc (.cells #[Z 0,Z 0,Dz] 64))):=F9;have hl:=Gv b;by_cases c:cl<0
 .have a:¬0<=cl:=U;exact afQ
 .have a:0<=cl:=U;have d:¬cl<(n:Int):=U;exact afQ
theorem R6{cs:Nat}{er:Int}(D:EB w x 2 (EJ cs n cap))(hi:i<n)(o:EB w cs i (ptr cb))
  (f:Hid (∀c,DY w c->ET 36 #[ptr cb,Z ln] c λe l=>(∃O,e=.returned (.tuple #[.agg #[Z st,Z sq,O],Z er])/\V.Row l c O v)/\DY c l)):
  ET 19 #[ptr x,Z i,Z ln] w λe c=>(∃O,e=.returned (.tuple #[.agg #[Z st,Z sq,O],Z er])/\V.Row c w O v)/\DY w c:=by
 have F:0<=(i:Int):=U;have G:(i:Int)<n:=U;obtain⟨A,B⟩:=KM D o;have r:Hid (DY w (w.alloc (.cells #[Z 0,Z 0,Dz] 64))):=F9;have s:=Dx (f _ r);clear f
 delta ET
 go_in
 go_wp2_with (first|(go_at_call 35;go_in))
 refine s.mono ?_;rintro e d ⟨⟨O,rfl,a⟩,m⟩;obtain⟨g,on,h,y⟩:=Ei a;subst y;have C:=m.size;simp at C;have b:=(m.block _ Ev).trans (AF w _);obtain⟨d0,d1,d2⟩:=TH b 0 1 2;have H:d.frozen? (EN w 0)=false:=Eb b;have J:d.frozen? (EN w 1)=false:=Eb b;have K:d.frozen? (EN w 2)=false:=Eb b;have u:=Dx ((((r.trans (m.mono Ev)).setCell (p:=EN w 0) Ev (Z st)).setCell (p:=EN w 1) Ev (Z sq)).setCell (p:=EN w 2) Ev (.slice g on h));have t:Hid (V.Row (((d.setCell (EN w 0) (Z st)).setCell (EN w 1) (Z sq)).setCell (EN w 2) (.slice g on h)) w.heap.size (.slice g on h) v):=by
  have q:DF (λk=>k=w.heap.size) d (((d.setCell (EN w 0) (Z st)).setCell (EN w 1) (Z sq)).setCell (EN w 2) (.slice g on h)):=((Eg _).trans (Eg _)).trans (Eg _);refine V.GL (q.row a (λj z e=>?_)) Ev;have:=((Ba a) j z).1;simp at this;omega
 clear m b a;have E:w.heap.size<d.heap.size:=U;go_wp2;exact Bm (v:=.tuple #[.agg #[Z st,Z sq,.slice g on h],Z er]) (by simp[results,results19,go_sem,d0,d1,d2]) I ⟨⟨_,I,t⟩,u⟩
theorem LW.status(h:LW p F G w)(a:∀(i:Nat) (c:R.Cl) (k:Nat) (l:R.Ln),G.b[i]?=c->c.a[k]?=l->l.D.length<=1000)(cl ln:Int):
  ET 19 #[ptr p.x,Z cl,Z ln] w λe d=>(∃O,e=abe (R.KI G cl ln) O/\V.Row d w O (R.KI G cl ln).2.2.1)/\DY w d:=by
 unfold abe R.KI;by_cases g:cl<0\/(G.b.length:Int)<=cl
 .rw[Ay g];refine cm (UU (EI h.bx 2) g) λd f=>?_
  grind [V.My]
 .rw[Ao g];obtain⟨i,rfl⟩:∃i:Nat,cl=(i:Int):=⟨cl.toNat,U⟩;have hi:i<G.b.length:=U;have hc:=Ah hi;have r:=(h.wf.cl i _ hc).a;by_cases o:ln<0\/G.c.a<=ln
  .rw[Ay o];refine(R6 (EI h.bx 2) hi (h.lG hi) ?_);intro d f;refine cm (UW U (P4 (h.h f) hc).a3) λs q=>?_
   grind [V.My]
  .rw[Ao o];obtain⟨k,rfl⟩:∃k:Nat,ln=(k:Int):=⟨ln.toNat,U⟩;have hk:k<G.b[i].a.length:=U;have hl:=Ah hk;rw[R.FH hc hl];refine R6 (EI h.bx 2) hi (h.lG hi) ?_;intro d f;have n:=h.h f;have⟨y,x,t,u,v,b,m,_,j⟩:=n.H hc hl;have:=aI F (a i _ k _ hc hl) j hk (P4 n hc).a3 m;rw[b.d,b.a]at this;exact this
def QJ(W:Aa)(G:Nat)(l:Ac):Prop:=G<W/\∀j (c:UInt8),l[j]?=c->W.cell? ⟨G,j,none⟩=some (.int .u8 c.toNat)/\W.frozen? ⟨G,j,none⟩=false
theorem QJ.set{G:Nat}(h:QJ W G l)(i:Nat)(x:UInt8):QJ (W.setCell ⟨G,i,none⟩ (.int .u8 x.toNat)) G (l.set i x):=by
 refine⟨by simpa using h.1,λj c a=>?_⟩;by_cases e:j=i
 .subst e;have hl:j<l.length:=by
   have:=(Bi.1 a).1;simpa using this
  rw[AO hl]at a;obtain rfl:=Option.some.inj a;have⟨b,d⟩:=h.2 j _ (Ah hl);exact⟨by simp[go_sem,b],by simpa [go_sem] using d⟩
 .rw[List.getElem?_set_ne (by omega)]at a;have⟨b,d⟩:=h.2 j c a;exact⟨by simp[go_sem,b],by simpa [go_sem] using d⟩
theorem QJ.conv{G:Nat}(h:QJ W G l)(cap:Nat):(convert 281 9 (EJ G l cap)).run prog W=.ok (.string (str l)) W:=by
 refine C5 (P:=prog) W 281 9 5 (Y G 0) cap l underlying281 EL underlying9 λj a=>?_
 rw[Bc,Cr];exact(h.2 j _ (Ah a)).1
theorem QJ.drew{G:Nat}(h:QJ W G l):QJ W.drew G l:=h
theorem QJ.alloc{G:Nat}(h:QJ W G l)(o:Obj):QJ (W.alloc o) G l:=by
 have a:=h.1;refine⟨Fy,λj c b=>?_⟩
 grind [QJ,World.cell?_alloc_lt,World.frozen?,Below.heap_alloc]
theorem yF(W:Aa)(l:Ac):∃(cap:Nat) (a:Aa),(convert 9 281 (.string (str l))).run prog W=.ok (EJ W l cap) a/\QJ a W l/\DY W a:=by
 have h:=Lib.run_convert_string_bytes (P:=prog) W 9 281 5 (str l) underlying9 underlying281 EL;rw[Er]at h;refine⟨_,_,h,⟨by rw[Lib.bytesWorld_size];omega,λj c b=>⟨?_,?_⟩⟩,?_⟩
 .grind [Lib.bytesWorld_cell,Er]
 .grind [Lib.bytesCells,World.frozen?,Lib.bytesWorld_at_new]
 .refine⟨?_,?_,?_,by rw[Lib.bytesWorld_size];omega,λk hk=>Lib.bytesWorld_at_old W 5 (str l) k hk⟩
  .simp[Lib.bytesWorld,World.freeze];rfl
  .simp[Lib.bytesWorld,World.freeze]
  .simp[Lib.bytesWorld,World.freeze];rfl
theorem fj{p:Pk}(a:EC p):D7 54 #[.string (str (Gq p))] w (.tuple #[pv p,Z 0]) (DY w):=by
 have hl:=J4 p;have b:=Mm a;refine(Zy U).mono ?_;unfold Us
 grind [L8]
theorem mP(hn:Ih l=none)(hl:l.length<=1000):D7 54 #[.string (str l)] w (.tuple #[NY,Z 7]) (DY w):=by
 refine(Zy U).mono ?_;unfold Us
 grind
theorem aeg(a d:UInt8):bits .xor .u8 a.toNat d.toNat=((a ^^^ d).toNat:Int):=by
 have c:=a.toNat_lt;have hd:=d.toNat_lt;have n1:(BitVec.ofInt 8 (a.toNat:Int)).toNat=a.toNat:=by grind
 have n2:(BitVec.ofInt 8 (d.toNat:Int)).toNat=d.toNat:=by grind
 show IntKind.u8.wrap ((BitVec.ofInt 8 (a.toNat:Int) ^^^ BitVec.ofInt 8 (d.toNat:Int)).toNat:Int)=_;rw[BitVec.toNat_xor,n1,n2,UInt8.toNat_xor];have b:a.toNat ^^^ d.toNat<2 ^ 8:=Nat.xor_lt_two_pow U U;rw[wrap_u8];omega
def TJ(t:Ag):Bool:=t==71 || t==93 || t==110 || t==166 || t==133 || t==129 || t==73
def GD(w:Aa)(E:D9):Prop:=∀b,E b->(∃cur t z,w.heap[b]?=some (.cells cur t z)/\TJ t=false)\/∃cap buf cl a r tm,w.heap[b]?=some (.chan cap buf cl a r tm)
theorem GD.cells(h:GD w E){t:Ag}(a:w.heap[b]?=some (.cells cur t z))(c:TJ t=true):¬E b:=by grind [GD]
theorem GD.map(h:GD w E){a:Array MapEntry}{cl:Nat}(c:w.heap[b]?=some (.map a cl)):¬E b:=by grind [GD]
theorem GD.one{t:Ag}(h:w.heap[b]?=some (.cells cur t z))(a:TJ t=false):GD w (λk=>k=b):=by grind [GD]
theorem GD.or(h:GD w E)(a:GD w E'):GD w (λk=>E k\/E' k):=by grind [GD]
theorem GD.row{v:Ad}(d:w.ownsRow B e size v n xs)(b:TJ e=false):GD w (λk=>v.ownBlock=k):=λk hk=>by
 rcases d.2 with ⟨rfl,_⟩|⟨g,cap,a,rfl,_,c,_⟩
 .cases hk
 .cases hk;exact Aj ⟨_,_,_,c,b⟩
abbrev Hu(G:R.Wd)(sv:List R.Sv)(lives:List Int)(seen:List R.Sn)(jobs:List R.Jb):R.Wd:={G with a:=sv,C:=lives,J:=seen,d:=jobs}
theorem LW.OW(h:LW p F G w){sv:List R.Sv}(N:G9 p.s p.n p.nm t F' G.c sv lives seen jobs w')(hk:DF E w w')(d:GD w E)(o:∀k,F k->F' k)(z:∀k,F' k->k<w')(B:R.Wf (Hu G sv lives seen jobs))(C:R.MX G.c lives seen jobs)(v:∀(i:Nat) (c:R.Cl),G.b[i]?=c->∀u,GY (Hu G sv lives seen jobs) c u=GY G c u):LW {p with t:=t} F' (Hu G sv lives seen jobs) w':=by
 have⟨D,hn,y,A⟩:=h.A;have e:∀{α:Type} {k:Ag} {b:Nat} {lit:α->Lit} {g:α->Option Int} {n:Nat},Mp w k b lit g n->Mp w' k b lit g n:=λH=>by
  have⟨P,q,M⟩:=H.block;exact H.keep hk (d.map M)
 refine⟨B,C,hk.at h.bx (d.cells h.bx I),?_,?_,N,e h.e,λi c hc=>hk.at (h.cl i c hc) (d.cells (h.cl i c hc) I),λi c hc=>?_,λi c hc=>(e (h.d i c hc)).congr (v i c hc),⟨o _ D,o _ hn,o _ y,o _ A⟩,λi hi=>?_,h.inj,z⟩
 .have⟨f,a,m⟩:=h.DW;exact⟨f,hk.at a (d.cells a I),m⟩
 .have⟨K,a,m,s⟩:=h.bn;refine⟨K,hk.at a (d.cells a I),hk.row m (λj r=>?_),λj r=>o _ (s j r)⟩;rcases m.2 with ⟨rfl,_⟩|⟨g,cap,f,rfl,_,L,_⟩
  .cases r
  .cases r;exact d.cells L I
 .have⟨O,a,m,s⟩:=h.ln i c hc;exact⟨O,hk.at a (d.cells a I),m,λk l x hl D=>(s k l x hl D).keep hk (λb f _ J=>d.cells J I) o⟩
 .have⟨a1,a2,a3,a4⟩:=h.b i hi
  grind
theorem G9.PG{sv:List R.Sv}(h:G9 s n nm t F c sv lives seen jobs w){z:R.Sv×MV}(hz:t.zs[u]?=z):∃g cap a,t.K=EJ g t.zs cap/\Dy w g a 99/\F g/\w.cell? (Y g (u*3))=Z z.1.J/\w.cell? (Y g (u*3+1))=z.2.wk/\w.cell? (Y g (u*3+2))=z.2.dn/\t.zs<=cap/\cap<=maxLen/\a=cap*3/\a.toList.take (t.zs*3)=tab Om t.zs:=by
 have hu:=GG hz;rcases id h.Q.2 with ⟨_,m⟩|⟨g,cap,a,i,_,k,b,d,e,f⟩
 .omega
 have q:∀j v,j<3->(Om z)[j]?=some v->w.cell? (Y g (u*3+j))=some v:=λj v l o=>by
  have:=Jh LZ t.zs u j z hz l
  grind [World.cell?]
 refine⟨g,cap,a,i,k,h.A.2.2 g (by rw[i];rfl),?_,q 1 _ U I,q 2 _ U I,b,d,e,f⟩;exact q 0 _ U I
theorem Rv{sv:List R.Sv}(h:t.zs.map (·.1)=sv){s:R.Sv}(a:sv[u]?=s):∃z,t.zs[u]?=some z/\z.1=s:=by grind
theorem map_set{α β:Type}(f:α->β)(l:List α)(i:Nat)(x:α):(l.set i x).map f=(l.map f).set i (f x):=by
 apply BF;intro j
 grind
theorem XQ{α:Type}{l:List α}{x y:α}(h:(l.set u x)[i]?=y):(i=u/\y=x)\/(i≠u/\l[i]?=y):=by grind
theorem Wq(l:Ae)(n i:Nat)(v:Ad):(l.set i v).take n=(l.take n).set i v:=by
 apply BF;intro j
 grind
def VN(z:R.Sv×MV):R.Sv×MV:=({z.1 with T:=false},{z.2 with wk:=.nilIface})
theorem G9.dead{sv:List R.Sv}(h:G9 s n nm t F c sv lives seen jobs w){z:R.Sv×MV}(hz:t.zs[u]?=z)(Q:t.K=EJ g t.zs cap)(x:Dy w g cur 99)(v:t.zs<=cap)(B:cap<=maxLen)(G:cur=cap*3)(H:cur.toList.take (t.zs*3)=tab Om t.zs):G9 s n nm {t with zs:=t.zs.set u (VN z)} F c (sv.set u {z.1 with T:=false}) lives seen jobs (w.setCell (Y g (u*3+1)) .nilIface):=by
 have⟨L,M,N⟩:=h.A;have hk:DF (λk=>k=g) w (w.setCell (Y g (u*3+1)) .nilIface):=Eg _;have o:Pp w F (λk=>k=g):=Pp.one x Em;refine⟨hk.at h.bs (ES h.bs x Em),?_,?_,λy W=>?_,λi j a b f C l k A=>?_,λi j a b f C l m p=>?_,λi r S E=>?_,h.inj,?_,L,M,N⟩
 .simp only[map_set];rw[h.zs];rfl
 .simp only;rw[BG];refine⟨by rw[F8 LZ,BG,BZ],Am ⟨g,cap,_,Q,AV _,Ek (cs:=cur.toList) (off:=u*3+1) x .nilIface,v,B,by simpa using G,?_⟩⟩;rw[Wq,H];exact J6 LZ t.zs u 1 z (VN z) _ hz U I
 .rcases BJ W with q|q
  .exact(h.each y q).keep hk o (λ_ r=>r)
  .have J:=(h.each z (Ap hz)).keep hk o (λ_ r=>r);rw[q];exact⟨by simp[VN],J.log,J.own⟩
 .have d:∀{i:Nat} {a:R.Sv×MV},(t.zs.set u (VN z))[i]?=some a->∃a0,t.zs[i]?=some a0/\a.2.dn=a0.2.dn:=λf=>by
   rcases XQ f with ⟨rfl,rfl⟩|⟨_,q⟩
   .exact⟨z,hz,I⟩
   .exact⟨_,q,I⟩
  have⟨a0,X,p2⟩:=d f;have⟨b0,p3,p4⟩:=d C;rw[p2]at A;rw[p4];exact h.dns i j a0 b0 X p3 l k A
 .have d:∀{i:Nat} {a:R.Sv×MV},(t.zs.set u (VN z))[i]?=some a->a.1.T=true->t.zs[i]?=some a:=λf hl=>by
   rcases XQ f with ⟨rfl,rfl⟩|⟨_,q⟩
   .cases hl
   .exact q
  exact h.e i j a b (d f m) (d C p) l m p
 .have⟨y,K,O,P⟩:=h.ln i r S E;exact⟨y,hk.at K (ES K x Em),O,P⟩
 .have⟨a,b,D⟩:=h.d;refine⟨a,b,hk.at D (λe=>?_)⟩;rw[e,x]at D;cases D
theorem Nc(w:Aa)(s g u m cap:Nat)(b:EB w s 6 (EJ g m cap))(hu:u<m)(c:m<=255):
  D7 38 #[ptr s,Z (u+1)] w (.pointer (Y g (u*3))) λa=>a=w:=by
 have e1:IntKind.i64.wrap ((u:Int)+1-1)=(u:Int):=Iz;have d:0<=(u:Int):=U;have e:(u:Int)<m:=U
 delta D7
 go_in
 go_wp2
 go_ret
 exact DN
def xO(y:PR):PR:={y with d:=3,Q:=[],answer:=[],at':=0,C:=0,e:=0}
theorem xP(w:Aa)(b:Nat)(y:PR)(h:Dy w b y.cells.toArray 179):
  D7 198 #[ptr b] w Ep λa=>Dy a b (xO y).cells.toArray 179/\DF (λk=>k=b) w a:=by
 have⟨a0,a1,a2,a3,a4,a5,a6,a7,a8,a9,GQ⟩:=X8 h;have z:∀j,DJ w b j:=λj=>Eb h
 have hl:=Dv h;have c:Hid (∀W,W=((((((((((w.setCell (Y b 0) (Z y.f)).setCell (Y b 1) (Z y.b)).setCell (Y b 2) (Z y.H)).setCell (Y b 3) (Z y.a)).setCell (Y b 4) (Z y.c)).setCell (Y b 5) (Z 3)).setCell (Y b 6) (.string ⟨#[]⟩)).setCell (Y b 7) (.string ⟨#[]⟩)).setCell (Y b 8) (Z 0)).setCell (Y b 9) (Z 0)).setCell (Y b 10) (Z 0)->Dy W b (xO y).cells.toArray 179/\DF (λk=>k=b) w W):=λW d=>by
  subst d;refine⟨?_,((((((((((Eg _).trans (Eg _)).trans (Eg _)).trans (Eg _)).trans (Eg _)).trans (Eg _)).trans (Eg _)).trans (Eg _)).trans (Eg _)).trans (Eg _)).trans (Eg _)⟩;have e0:=Ek (off:=0) h (Z y.f);have e1:=Ek (off:=1) e0 (Z y.b);have e2:=Ek (off:=2) e1 (Z y.H);have e3:=Ek (off:=3) e2 (Z y.a);have e4:=Ek (off:=4) e3 (Z y.c);have e5:=Ek (off:=5) e4 (Z 3);have e6:=Ek (off:=6) e5 (.string ⟨#[]⟩);have e7:=Ek (off:=7) e6 (.string ⟨#[]⟩);exact abW
 clear h
 delta D7
 go_in
 go_wp2;go_returns;exact⟨I,c _ I⟩
theorem rI(w:Aa)(s g u m cap n:Nat)(bs:Nat->Nat)(wk:Ad)(J:Value->Nat->World->Prop)(hn:n<=9)(E:m<=255)(hu:u<m)(t:EB w s 6 (EJ g m cap))(h:EB w g (u*3+1) wk)(hz:DJ w g (u*3+1))
  (l:Hid (ET 99 #[ptr s] (w.setCell (Y g (u*3+1)) .nilIface) λe j=>∃O,e=.returned O/\J O 0 j))
  (A:Hid (∀O k wr,J O k wr->∃a c,O=.slice a n c))
  (z:Hid (∀O k wr,k<n->J O k wr->∃g c,O=EJ g n c/\EB wr g k (ptr (bs k))/\∃x st,wr.cell? ⟨bs k,4,none⟩=Z x/\wr.cell? ⟨bs k,5,none⟩=Z st/\(x=u+1/\¬st=2->D7 198 #[ptr (bs k)] wr Ep λj=>J O (k+1) j)/\(¬(x=u+1/\¬st=2)->J O (k+1) wr))):
  D7 144 #[ptr s,Z (u+1)] w Ep λj=>∃O,J O n j:=by
 have B:=Dx (Nc w s g u m cap t hu E);have D:=Gv h
 delta D7
 go_in
 go_wp2_with (first|(go_at_call 38;refine cs B ?_))
 refine l.mono ?_;rintro e G ⟨O,rfl,hJ⟩;have⟨a,c,o⟩:=A O 0 G hJ;subst o;have v:=Dx hJ;clear hJ h hz t;go_wp2;go_loopw [14] (λiv wr=>∃k:Nat,k<=n/\iv=Z k/\J (.slice a n c) k wr) (λiv _=>n-(intOf iv).toNat)
 case atStart=>exact⟨0,AV _,I,v⟩
 case round=>
  obtain⟨k,hk,rfl,hJ⟩:=hrel;by_cases q:k<n
  .have⟨K,H,o,p,x,st,L,F,b,i⟩:=z _ k wr q hJ;cases o;have⟨C,r⟩:=FU b i;clear b i hJ;by_cases d:x=(u:Int)+1
   .have e1:(x==(u:Int)+1)=true:=by simpa using d
    by_cases f:st=2
    .have e2:(st != 2)=false:=by simpa using f
     have HI:=Dx (r U);clear d f;exact aaK
    .have e2:(st != 2)=true:=by simpa using f
     have y:=Dx (C ⟨d,f⟩);clear d f;go_wp2_with (first|(go_at_call 198;refine cm y λM hw3=>?_))
     exact aaM
   .have e1:(x==(u:Int)+1)=false:=by simpa using d
    have HI:=Dx (r U);clear d;exact aaK
  exact ab7
theorem qw(w:Aa)(s m:Nat)(a:Af)(cap:Nat)u(b:EB w s 6 (.slice a m cap))(hu:¬(1<=u/\u<=(m:Int))):D7 248 #[pt s,Z u] w DI λc=>c=w:=by
 have H:=Dx (Uj w s m a cap u b);rw[show decide (1<=u/\u<=(m:Int))=false by simpa using hu]at H
 delta D7
 go_in
 go_wp2_with (first|(go_at_call 37;refine cs H ?_))
 go_returns;exact DN
theorem kI(w:Aa)(s g u m cap:Nat)(T:Ag)(b:Nat)(h6:EB w s 6 (EJ g m cap))(hu:u<m)(hm:m<=255)(c:EB w g (u*3+1) (.iface T (ptr b))):D7 248 #[pt s,Z (u+1)] w DC λa=>a=w:=by
 exact afx
theorem bN(w:Aa)(s g u m cap:Nat)(h6:EB w s 6 (EJ g m cap))(hu:u<m)(hm:m<=255)(b:EB w g (u*3+1) .nilIface):D7 248 #[pt s,Z (u+1)] w DI λa=>a=w:=by
 exact afx
theorem aa2:∀args w,(callFunc 250 args).run prog w=.ok (.enter 250 args) w:=λ_ _=>rfl
theorem qV:∀args w,(callFunc 220 args).run prog w=.ok (.enter 220 args) w:=λ_ _=>rfl
def Two(w:Aa)(o o':Obj)(W:Aa):Prop:=Below w w W/\W.heap[w.heap.size]?=o/\W.heap[w.heap.size+1]?=o'
theorem af4(w:Aa)(o a:Obj):Two w o a ((w.alloc o).alloc a):=by
 refine⟨F9.alloc Ev _,(AL _ _ _ Ev).trans (AF w _),?_⟩;have:=AF (w.alloc o) a;simpa using this
theorem Wn(h:World->Prop)(hk:(P.J=3/\kd'=4/\pa'=0/\o'=1)\/(¬P.J=3/\kd'=2/\pa'=P.Ez/\o'=P.off))
  (L:Hid (∀N,DY w N->D7 220 #[.pointer (Y s 0),cv P,S9 kd' 0 0 0 0 0 pa' o' false ⟨#[]⟩] N Ep λy=>h y)):
  D7 252 #[.pointer (Y s 0),pv P] w Ep λy=>h y:=by
 have K:=Dx (λw=>Nr P w);obtain⟨n,cl,p,ln,d,u,pa,o,t,r⟩:=P;dsimp only[pv,cv]at *;generalize str r=SB at *;have q:Hid (∀W,Two w (.cells #[Z n,Z cl,Z p,Z ln,Z d,Z u,Z pa,Z o,.bool t,.string SB] 82) (.cells #[Z kd',Z 0,Z 0,Z 0,Z 0,Z 0,Z pa',Z o',DI,.string ⟨#[]⟩] 82) W->∀b,DY W.drew b->(b.cell? (DG w 0)=some (Z kd')/\b.cell? (DG w 1)=some (Z 0)/\b.cell? (DG w 2)=some (Z 0)/\b.cell? (DG w 3)=some (Z 0)/\b.cell? (DG w 4)=some (Z 0))/\b.cell? (DG w 5)=some (Z 0)/\b.cell? (DG w 6)=some (Z pa')/\b.cell? (DG w 7)=some (Z o')/\b.cell? (DG w 8)=some DI/\b.cell? (DG w 9)=some (.string ⟨#[]⟩)/\DY w b):=λW a b M=>by
  have hl:=(AB.1 a.2.2).1;have c:=(M.block _ hl).trans a.2.2;exact⟨⟨EI c 0,EI c 1,EI c 2,EI c 3,EI c 4⟩,EI c 5,EI c 6,EI c 7,EI c 8,EI c 9,a.1.drew.trans (M.mono a.1.size)⟩
 have v:Hid (∀W,Two w (.cells #[Z n,Z cl,Z p,Z ln,Z d,Z u,Z pa,Z o,.bool t,.string SB] 82) (.cells #[Z kd',Z 0,Z 0,Z 0,Z 0,Z 0,Z pa',Z o',DI,.string ⟨#[]⟩] 82) W->(Kk W w 0 (Z n)/\Kk W w 1 (Z cl)/\Kk W w 2 (Z p)/\Kk W w 3 (Z ln)/\Kk W w 4 (Z d))/\Kk W w 5 (Z u)/\Kk W w 6 (Z pa)/\Kk W w 7 (Z o)/\Kk W w 8 (.bool t)/\Kk W w 9 (.string SB)):=λW a=>⟨⟨EI a.2.1 0,EI a.2.1 1,EI a.2.1 2,EI a.2.1 3,EI a.2.1 4⟩,EI a.2.1 5,EI a.2.1 6,EI a.2.1 7,EI a.2.1 8,EI a.2.1 9⟩
 have x:=Dx (af4 w);rcases hk with ⟨c,rfl,rfl,rfl⟩|⟨c,rfl,rfl,rfl⟩
 .have e1:(n==3)=true:=by simpa using c
  clear c
  delta D7
  go_in
  go_wp2_with fail
  refine EE _ (x _ _) ?_;intro W a;obtain⟨⟨g0,g1,g2,g3,g4⟩,g5,g6,g7,g8,g9⟩:=v W a;have l:=(q W a W.drew (AA _ _));obtain⟨⟨z,A,B,C,D⟩,E,F,G,H,J,_⟩:=l;simp only[World.cell?_drew]at z A B C D E F G H J;have j:=Dx (q W a);clear a q v x;go_region_law (first
   |(refine FG rfl 250 #[.tmp 15] #[82] rfl aa2 #[.agg #[Z n,Z cl,Z p,Z ln,Z d,Z u,Z pa,Z o,.bool t,.string SB]] rfl _ (K _) ?_;rintro e b ⟨rfl,f⟩;have m:=j b f;obtain⟨⟨O,Q,S,T,X⟩,f5,f6,f7,f8,f9,g⟩:=m;have i:=Dx (L b g);clear f g;refine⟨_,rfl,?_⟩)
   |(refine FG rfl 220 #[.tmp 14,.tmp 16,.tmp 17] #[68,170,82] rfl qV #[.pointer (some (Y s 0)),.agg #[Z cl,Z p,Z ln,Z d,Z u],S9 4 0 0 0 0 0 0 1 false ⟨#[]⟩] rfl _ i ?_;rintro e w2 ⟨rfl,k⟩;refine⟨_,rfl,?_⟩))
  all_goals
   go_wp2;go_returns;exact⟨I,k⟩
 .have e1:(n==3)=false:=by simpa using c
  clear c
  delta D7
  go_in
  go_wp2_with fail
  refine EE _ (x _ _) ?_;intro W a;obtain⟨⟨g0,g1,g2,g3,g4⟩,g5,g6,g7,g8,g9⟩:=v W a;have l:=(q W a W.drew (AA _ _));obtain⟨⟨z,A,B,C,D⟩,E,F,G,H,J,_⟩:=l;simp only[World.cell?_drew]at z A B C D E F G H J;have j:=Dx (q W a);clear a q v x;go_region_law (first
   |(refine FG rfl 250 #[.tmp 15] #[82] rfl aa2 #[.agg #[Z n,Z cl,Z p,Z ln,Z d,Z u,Z pa',Z o',.bool t,.string SB]] rfl _ (K _) ?_;rintro e b ⟨rfl,f⟩;have m:=j b f;obtain⟨⟨O,Q,S,T,X⟩,f5,f6,f7,f8,f9,g⟩:=m;have i:=Dx (L b g);clear f g;refine⟨_,rfl,?_⟩)
   |(refine FG rfl 220 #[.tmp 14,.tmp 16,.tmp 17] #[68,170,82] rfl qV #[.pointer (some (Y s 0)),.agg #[Z cl,Z p,Z ln,Z d,Z u],S9 2 0 0 0 0 0 pa' o' false ⟨#[]⟩] rfl _ i ?_;rintro e w2 ⟨rfl,k⟩;refine⟨_,rfl,?_⟩))
  all_goals
   go_wp2;go_returns;exact⟨I,k⟩
theorem Qm{t:Ag}{r:Nat}(h:w.heap[b]?=some (.cells cur t z))(c:w.heap[b']?=some (.chan cap buf cl a r tm)):b≠b':=λe=>by
 rw[e,c]at h;cases h
theorem vl{v:Ad}(h:w.ownsRow B e size v n xs){r:Nat}(d:w.heap[b']?=some (.chan cap buf cl a r tm))(j:Nat)(b:v.ownBlock=j):j≠b':=by
 rcases h.2 with ⟨rfl,_⟩|⟨g,cap,c,rfl,_,f,_⟩
 .cases b
 .cases b;exact Qm f d
def SP.put(t:SP)(i b:Nat):SP:={t with ql:=λj=>if j=i then b else t.ql j}
theorem mZ(t:SP)(seen:List R.Sn)(i b:Nat)(r':R.Sn)(hi:i<seen)(a:r'.a≠0)(j:Nat):Gh (t.put i b) (seen.set i r') j=if j=i then ptr b else Gh t seen j:=by
 unfold Gh SP.put
 grind
theorem gP(hl:seen.length=9)(hi:i<9)(a:r'.a≠0):IW n nm (t.put i b) c lives (seen.set i r')=(IW n nm t c lives seen).set (10+i) (ptr b):=by
 have q:=mZ t seen i b r' U a;unfold IW;simp only[q];exact abw
theorem G9.S7{sv:List R.Sv}(h:G9 s n nm t F c sv lives seen jobs w)(M:∀k,F k->k<w)(hl:seen.length=9)(hi:i<9)(C:r'.a≠0)(P:w<=b)(hk:DF (λk=>k=s) w w')(N:Dy w' s ((IW n nm t c lives seen).set (10+i) (ptr b)).toArray 144)(Q:Dy w' b y.cells.toArray 179)(hrel:PT i (lives.getD (i / 3) 0) r' y):
  G9 s n nm (t.put i b) (λk=>F k\/k=b) c sv lives (seen.set i r') jobs w':=by
 have⟨H,J,K⟩:=h.A;have B:Pp w F (λk=>k=s):=Pp.one h.bs Em;have⟨O,jb,g⟩:=h.d;have u:∀(j:Nat) (x:R.Sn),(seen.set i r')[j]?=some x->(j=i/\x=r')\/(j≠i/\seen[j]?=some x):=λj x l=>by
  grind
 refine⟨by rw[gP hl hi C];exact N,h.zs,hk.row h.Q (λj g e=>K5 h.Q h.bs Em (by rw[<-e];exact g)),λz hz=>(h.each z hz).keep hk B (λ_ q=>Aj q),h.dns,h.e,λj x l a=>?_,λj v x A l p a d o=>?_,⟨O,jb,hk.at g (Qm h.bs g).symm⟩,Aj H,Aj J,λj g=>Aj (K j g)⟩
 .rcases u j x l with ⟨rfl,rfl⟩|⟨e,l⟩
  .grind [SP.put]
  .have⟨D,E,L,G⟩:=h.ln j x l a;refine⟨D,?_,L,Aj ?_⟩
   .simp only[SP.put,Ao e];exact hk.at E (ES E h.bs Em)
   grind [SP.put]
 .rcases u j x l with ⟨e,_⟩|⟨e,r⟩
  .rcases u v A p with ⟨m,_⟩|⟨m,f⟩
   .exact absurd (e.trans m.symm) o
   .have⟨D,_,_,G⟩:=h.ln v A f d
    grind [SP.put]
  .rcases u v A p with ⟨m,_⟩|⟨m,f⟩
   .have⟨D,_,_,G⟩:=h.ln j x r a
    grind [SP.put]
   .simp only[SP.put,Ao e,Ao m];exact h.inj j v x A r f a d o
theorem G9.Qh{sv:List R.Sv}(h:G9 s n nm t F c sv lives seen jobs w)(hk:DF (λk=>k=t.jc) w w')(f:∃a b,w'.heap[t.jc]?=some (.chan c.d.toNat (jobs'.map Xn).toArray false a b false)):
  G9 s n nm t F c sv lives seen jobs' w':=by
 have⟨u,jb,d⟩:=h.d;have e:Pp w F (λk=>k=t.jc):=Pp.iw (λb o=>Am (Am ⟨_,_,_,_,_,_,by subst o;exact d⟩));refine⟨hk.at h.bs (Qm h.bs d),h.zs,hk.row h.Q (vl h.Q d),λz hz=>(h.each z hz).keep hk e (λ_ q=>q),h.dns,h.e,λj x p g=>?_,h.inj,f,h.A⟩;have⟨r,i,l,m⟩:=h.ln j x p g;exact⟨r,hk.at i (Qm i d),l,m⟩
def Nu(seen:List R.Sn)(k:Nat):List R.Sn:=((seen.set (3*k) R.Ic).set (3*k+1) R.Ic).set (3*k+2) R.Ic
theorem Nv(seen:List R.Sn)(k j:Nat)(x:R.Sn)(h:(Nu seen k)[j]?=x):(j / 3=k/\x=R.Ic)\/(j / 3≠k/\seen[j]?=x):=by grind [Nu]
theorem Vt(n nm:Nat)(t:SP)(c:R.Cf)(e:List Int)(seen:List R.Sn)(k:Nat)life(f:e.length=3)(hk:k<3):IW n nm t c (e.set k life) (Nu seen k)=((((IW n nm t c e seen).set (7+k) (Z life)).set (10+3*k) (.pointer none)).set (10+3*k+1) (.pointer none)).set (10+3*k+2) (.pointer none):=by
 have g:k=0\/k=1\/k=2:=U;have q:∀j,Gh t (Nu seen k) j=if j / 3=k then .pointer none else Gh t seen j:=λj=>by
  grind [Nu,Gh,R.Ic]
 obtain⟨a,b,d,rfl⟩:∃a b d,e=[a,b,d]:=by
  match e,f with
  |[a,b,d],_=>exact⟨a,b,d,rfl⟩
 unfold IW;simp only[q];rcases g with rfl|rfl|rfl<;>rfl
theorem G9.forget{sv:List R.Sv}(h:G9 s n nm t F c sv lives seen jobs w)(o:lives.length=3)(m:k<3)(hk:DF (λk=>k=s) w w')(u:Dy w' s (((((IW n nm t c lives seen).set (7+k) (Z life)).set (10+3*k) (.pointer none)).set (10+3*k+1) (.pointer none)).set (10+3*k+2) (.pointer none)).toArray 144):
  G9 s n nm t F c sv (lives.set k life) (Nu seen k) jobs w':=by
 have i:Pp w F (λk=>k=s):=Pp.one h.bs Em;have⟨v,jb,g⟩:=h.d;refine⟨by rw[Vt n nm t c lives seen k life o m];exact u,h.zs,hk.row h.Q (λj g e=>K5 h.Q h.bs Em (by rw[<-e];exact g)),λz hz=>(h.each z hz).keep hk i (λ_ q=>q),h.dns,h.e,λj x d a=>?_,λj p x r d f a b l=>?_,⟨v,jb,hk.at g (Qm h.bs g).symm⟩,h.A⟩
 .rcases Nv seen k j x d with ⟨_,rfl⟩|⟨e,d⟩
  .exact absurd I a
  .have⟨D,A,B,C⟩:=h.ln j x d a
   grind [G9,DF]
 .rcases Nv seen k j x d with ⟨_,rfl⟩|⟨e,d⟩
  .exact absurd I a
  .rcases Nv seen k p r f with ⟨_,rfl⟩|⟨y,f⟩
   .exact absurd I b
   .exact h.inj j p x r d f a b l
theorem LW.KN(h:LW p F G w)(d:EC P){pa o:Int}(hk:1<=kd/\kd<=7)(hn:kd≠1/\kd≠5)(e:1<=o/\o<=9)(c:0<=pa/\pa<=o-1):
  D7 220 #[ptr p.s,cv P,S9 kd 0 0 0 0 0 pa o false ⟨#[]⟩] w Ep λb=>∃a,LW p a (R.G8 G P kd pa o) b/\D8 F a w b:=by grind [EC,R.G8,LW.aba,Ju]
theorem LW.XG(h:LW p F G w)(a:EC P)(b:why=0\/why=1):
  D7 249 #[ptr p.s,pv P,Z why] w Ep λw'=>∃F',LW p F' (R.G8 G P 7 why 2) w'/\D8 F F' w w':=by
 refine ZN _ (λc hb=>?_);refine cm ((h.h hb).KN a U U U U) ?_;exact pB
def UR(G:R.Wd)(P:Pk):R.Wd:=if P.J=3 then R.G8 G P 4 0 1 else R.G8 G P 2 P.Ez P.off
theorem LW.abd(h:LW p F G w)(a:EC P):
  D7 252 #[ptr p.s,pv P] w Ep λw'=>∃F',LW p F' (UR G P) w'/\D8 F F' w w':=by
 have c:=a.2.2.2.2.2.2.1;have b:=a.2.2.2.2.2.2.2.1;unfold UR;by_cases hk:P.J=3
 .rw[Ay hk];refine Wn _ (Aj ⟨hk,I,I,I⟩) (λd hb=>?_);refine cm ((h.h hb).KN a U U U U) ?_;exact pB
 .rw[Ao hk];refine Wn _ (Am ⟨hk,I,I,I⟩) (λd hb=>?_);refine cm ((h.h hb).KN a U U c b) ?_;exact pB
theorem LW.T(h:LW p F G w)u:
  D7 248 #[ptr p.s,Z u] w (.bool (R.Js G u)) λq=>q=w:=by
 have⟨a,c,m⟩:=Fa h.a.Q;have hzl:p.t.zs.length=G.a.length:=by rw[<-h.a.zs,AX]
 have c6:EB w p.s 6 (.slice a p.t.zs.length c):=ED h.a.bs 6 _ (by rw[<-m];rfl);have i:=h.wf.sv;by_cases hu:1<=u/\u<=(G.a.length:Int)
 .obtain⟨n,rfl⟩:∃n:Nat,u=(n:Int)+1:=⟨(u-1).toNat,U⟩;have hn:n<G.a.length:=U;have⟨z,hz,o⟩:=Rv h.a.zs (Ah hn);have⟨g,cap,k,f,_,_,_,r,_⟩:=h.a.PG hz;have j:EB w p.s 6 (EJ g p.t.zs.length cap):=ED h.a.bs 6 _ (by rw[<-f];rfl);have e:R.Js G ((n:Int)+1)=z.1.T:=by grind [R.Js]
  rw[e];have d:=(h.a.each z (Ap hz)).wk;cases hb:z.1.T with
  |true=>
   rw[Ay hb]at d;have:∃T b,z.2.wk=.iface T (ptr b):=by
    generalize z.1.J=kd at d;generalize z.2.wk=W at d;cases d with
    |counter=>exact⟨_,_,rfl⟩
    |MZ=>exact⟨_,_,rfl⟩
    |P9=>exact⟨_,_,rfl⟩
   grind [kI]
  |false=>grind [bN]
 .have e:R.Js G u=false:=by
   unfold R.Js;by_cases l:1<=u
   .rw[BM U];simp
   .simp[l]
  grind [qw]
theorem LW.Qh(h:LW p F G w)(hk:DF (λk=>k=p.t.jc) w w')(q:∃a b,w'.heap[p.t.jc]?=some (.chan G.c.d.toNat (js.map Xn).toArray false a b false))(l:R.MX G.c G.C G.J js):LW p F {G with d:=js} w'/\D8 F F w w':=by
 have⟨s,jb,f⟩:=h.a.d;have m:GD w (λk=>k=p.t.jc):=λb n=>Am ⟨_,_,_,_,_,_,by subst n;exact f⟩
 have g:R.Wf (Hu G G.a G.C G.J js):=⟨h.wf.cf,h.wf.a,λj c hc=>⟨(h.wf.cl j c hc).a,(h.wf.cl j c hc).b,(h.wf.cl j c hc).d,(h.wf.cl j c hc).H⟩,h.wf.X,h.wf.b,h.wf.sv,h.wf.e,h.wf.nm,h.wf.st,h.wf.nd,h.wf.d⟩;exact⟨(h.OW (h.a.Qh hk q) hk m (λ_ r=>r) (λk o=>Ai (h.lt k o) hk.size) g l (λi c _ u=>rfl)),hk.mono (λk _ e=>by rw[e];exact h.a.A.2.1),λ_ r=>Aj r⟩
theorem vX(hB:∀k,F k->k<B)(a:D8 F F' w w'):Yf B w w':=by
 refine⟨a.H.size,λx c hl=>?_⟩;refine a.H.block x hl (λb=>?_);have:=hB x b;omega
structure aei(P:Pk)(i:Nat)(r:R.Sn)(y:PR):Prop where
 f:y.f=P.f
 b:y.b=P.b
 H:y.H=P.H
 a:y.a=P.a
 c:y.c=P.c
def Yh(G:R.Wd)(i:Nat)(r:R.Sn)(P:Pk):R.Wd:=
 if P.Ez=P.off-1 then {R.EA G i {r with d:=2,b:=r.b++P.d,f:=r.f+1} with d:=G.d++[⟨P.f,P.H,P.b,P.a,P.c⟩]}
 else R.EA G i {r with b:=r.b++P.d,f:=r.f+1}
theorem LW.af3(h:LW p F G w)(hI:R.Inv M G)(g:Yd p G w i r y)(K:r.d=1)(z:R.Lm M G P d i)(ho:P.off=R.DL d.h)(hb:P.d=R.EY d.h P.Ez)(hs:r.a=P.a)(al:P.Ez=r.f):
  ET 262 #[ptr p.s,ptr (p.t.ql i),pv P] w λe N=>(e=.returned DI/\(P.Ez=P.off-1/\G.c.d<=G.d)/\LW p F G N/\D8 F F w N)\/(e=.returned DC/\¬(P.Ez=P.off-1/\G.c.d<=G.d)/\LW p F (Yh G i r P) N/\D8 F F w N):=by
 have A:=h.g.sn i r g.J;obtain⟨g1,g2,g3⟩:=A.b K;have l:=g.rel;have aV:=z.lt;obtain⟨d',H⟩:=hI.sn i r g.J g.ne;have ab:d'=d:=by
  have:=H.Q;rw[hs,<-z.key,z.Q]at this;exact(Option.some.inj this).symm
 subst ab;have X:r.c=P.c:=by rw[H.c,z.c]
 have t:aei P i r y:=by
  have hk:=z.key;have l:=g.rel;simp only[R.JD,R.Key.mk.injEq]at hk;exact⟨by rw[l.f,hk.1],by rw[l.b,hk.2.1],by rw[l.H,hk.2.2.1],by rw[l.a,hs],by rw[l.c,X]⟩
 obtain⟨c0,c1,c2,c3,c4,c5,c6,c7,c8,c9,az⟩:=X8 g.blk;rw[(l.Q (Aj K))]at c6;rw[t.f]at c0;rw[t.b]at c1;rw[t.H]at c2;rw[t.a]at c3;rw[t.c]at c4;have E:=z.right.2.2.2.2.2.2.1;have ak:=z.right.2.2.2.2.2.2.2.1;have aS:P.d.length<=8:=by rw[hb,R.LA];omega
 have W:∀st:Int,(st=1/\¬P.Ez=P.off-1)\/(st=2/\P.Ez=P.off-1)->R.Tm (G.C.getD (i / 3) 0) {r with d:=st,b:=r.b++P.d,f:=r.f+1}:=λst b4=>by
  have b1:(r.b++P.d).length<=72:=by rw[AJ];omega
  have h0:=A.some g.ne;refine⟨λe=>absurd e g.ne,A.a,λ_=>⟨h0.1,h0.2.1,by simp only;omega⟩,λe=>?_,λe=>?_,λe=>by simp only at e;omega,λe=>?_⟩
  .simp only at e;have b2:¬P.Ez=P.off-1:=U;have h8:P.d.length=8:=by
    have:=z.right.2.2.2.2.2.2.2.2;have c:P.J=1\/P.J=5\/¬(P.J=1\/P.J=5):=U;have aN:=R.NB (s:=d'.h) (k:=P.Ez) ak.1
    grind
   grind
  .simp only at e ⊢;rw[AJ];have S:=H.b K;have aw:r.b++P.d=d'.h:=by
    obtain⟨n,hn⟩:∃n:Nat,r.f=(n:Int):=⟨r.f.toNat,U⟩;rw[S.1,hb,al,hn,AY,R.Md,R.L6];rw[<-ho];omega
   grind [R.Cd.h,EU]
  .have ht:=(A.g e).1;omega
 by_cases hl:P.Ez=P.off-1
 .obtain⟨ja,jb,hj⟩:=h.a.d;have O:=h.a.cell 19 _ I;have ae:=Gv O;have ad:=(AB.1 hj).1;have aa:=h.wf.cf;unfold R.GA at aa;have T:∀u,DY w u->EB u p.s 19 (.chan (some p.t.jc))/\u.heap[p.t.jc]?=some (.chan G.c.d.toNat (G.d.map Xn).toArray false ja jb false):=λu a=>⟨(a.cell (p:=Y p.s 19) ae).trans O,by rw[a.block _ ad];exact hj⟩
  by_cases C:G.c.d<=(G.d.length:Int)
  .refine(qm w p.s (p.t.ql i) P P.f P.b P.H P.a P.c c0 c1 c2 c3 c4 E hl (λu a=>?_)).mono ?_
   .grind [ZH]
   .rintro e N ⟨rfl,a⟩;exact Aj ⟨I,⟨hl,C⟩,h.h a,D8.J F a⟩
  .refine(qo w p.s (p.t.ql i) P r.b P.f P.b P.H P.a P.c 0 (λo=>LW p F {G with d:=G.d++[⟨P.f,P.H,P.b,P.a,P.c⟩]} o/\D8 F F w o) (λo=>LW p F (Yh G i r P) o/\D8 F F w o) c0 c1 c2 c3 c4 E hl U U (λu a=>?_) ?_ ?_).mono ?_
   .refine cm (ZI u p.s p.t.jc G.c.d.toNat ja jb _ P.f P.b P.H P.a P.c (T u a).1 (T u a).2 Fy) ?_;rintro N ⟨ac,D⟩;have am:R.MX G.c G.C G.J (G.d++[⟨P.f,P.H,P.b,P.a,P.c⟩]):=⟨h.g.ll,h.g.lv,h.g.sl,h.g.sn,Fy,λj hj=>by
     rcases Bj.1 hj with q|q
     .exact h.g.jb j q
     .simp only[Bg]at q;subst q;exact⟨z.right.2.1,z.right.2.2.2.1⟩⟩
    obtain⟨L,q2⟩:=(h.h a).Qh (js:=G.d++[⟨P.f,P.H,P.b,P.a,P.c⟩]) D ⟨ja+1,jb,by rw[ac];congr 2;simp[Xn]⟩ am;exact⟨I,⟨L,(D8.J F a).trans q2⟩,λx hx ah=>D.block x ah U,D.size⟩
   .rintro o ⟨L,_⟩;obtain⟨y1,B,_⟩:=L.q (i:=i) (r:=r) g.J g.ne;obtain⟨_,_,_,_,_,f5,f6,_⟩:=X8 B.blk;rw[B.rel.d,K]at f5;rw[B.rel.Q (Aj K)]at f6;exact⟨f6,Eb B.blk,f5,Eb B.blk⟩
   .rintro o u ⟨L,q2⟩ m;obtain⟨y1,B,_⟩:=L.q (i:=i) (r:=r) g.J g.ne;have c:=B.rel;obtain⟨m1,_,m2⟩:=L.Oy (r':={r with d:=2,b:=r.b++P.d,f:=r.f+1}) (y':={y1 with Q:=r.b++P.d,d:=1}) B g.ne ((Eg _).trans (Eg _)) (Kj (j:=5) (v:=Z 1) (y:={y1 with Q:=r.b++P.d}) (Kj (j:=6) (v:=.string (str (r.b++P.d))) B.blk rfl) rfl) ⟨c.f,c.b,c.H,c.a,c.c,rfl,λ_=>rfl,λe=>by simp only at e;omega,c.C,c.e⟩ (W 2 (Am ⟨rfl,hl⟩));have J:((o.setCell ⟨p.t.ql i,6,none⟩ (.string (str (r.b++P.d)))).setCell ⟨p.t.ql i,5,none⟩ (Z 1)).heap.size=o.heap.size:=Ev;rw[<-J]at m;refine⟨?_,(q2.trans m2).trans (D8.J F m)⟩;unfold Yh;rw[Ay hl];exact m1.h m
   grind
 .refine(qp w p.s (p.t.ql i) P r.b (λo=>LW p F (Yh G i r P) o/\D8 F F w o) c6 (Eb g.blk) U U E hl (λu m=>?_)).mono ?_
  .obtain⟨m1,_,m2⟩:=h.Oy (r':={r with b:=r.b++P.d,f:=r.f+1}) (y':={y with Q:=r.b++P.d}) g g.ne (Eg _) (Kj (j:=6) (v:=.string (str (r.b++P.d))) g.blk rfl) ⟨l.f,l.b,l.H,l.a,l.c,l.d,λ_=>rfl,l.h,l.C,l.e⟩ (W r.d (Aj ⟨K,hl⟩));have J:(w.setCell ⟨p.t.ql i,6,none⟩ (.string (str (r.b++P.d)))).heap.size=w.heap.size:=Ev;rw[<-J]at m;refine⟨?_,m2.trans (D8.J F m)⟩;unfold Yh;rw[Ao hl];exact m1.h m
  grind
theorem gX(hk:P.J=1):UR G P=R.G8 G P 2 P.Ez P.off:=by
 unfold UR;rw[Ao U]
theorem LW.jF(h:LW p F G w)(x:R.Inv M G)(g:Yd p G w i r y)(n:r.d=1)(u:R.Lm M G P d i)(hk:P.J=1)(A:P.off=R.DL d.h)(z:P.d=R.EY d.h P.Ez)(B:r.a=P.a):
  D7 251 #[ptr p.s,ptr (p.t.ql i),pv P] w Ep λk=>∃j,LW p j (if P.Ez<=r.f then R.Gy G i P else G) k/\D8 F j w k:=by
 have⟨g1,g2,g3⟩:=(h.g.sn i r g.J).b n;have c6:=(X8 g.blk).a6;rw[g.rel.Q (Aj n)]at c6;have o:R.DL r.b=r.f:=by unfold R.DL;omega
 have m:R.Gy G i P=if P.Ez=r.f then (if P.Ez=P.off-1/\G.c.d<=(G.d.length:Int) then G else R.Mi (Yh G i r P) P) else R.Mi G P:=by
  unfold R.Gy Yh;simp only[(R.F7 g.J)];by_cases f:P.Ez=r.f
  .rw[Ay f,Ay f];by_cases b:P.Ez=P.off-1
   .rw[Ay b,Ay b];by_cases c:G.c.d<=(G.d.length:Int)
    .rw[Ay c,Ay ⟨b,c⟩]
    .rw[Ao c,Ao (λq=>c q.2)]
   .rw[Ao b,Ao b,Ao (λq=>b q.1)]
  .rw[Ao f,Ao f]
 refine YX (λl=>∃K,LW p F K l/\D8 F F w l/\R.Mi K P=(if P.Ez<=r.f then R.Gy G i P else G)) _ c6 (λw=>by
  have:=IC r.b w U;rw[o]at this;exact this) (λq v a=>?_) (λq v a=>?_) (λq v a=>?_) (λq l=>?_) (λq l=>?_)
 .rw[Ao U];exact⟨F,h.h a,D8.J F a⟩
 .refine((h.h a).af3 x (g.h a) n u A z B q).mono ?_;rintro e k (⟨rfl,f,b,c⟩|⟨rfl,f,b,c⟩)
  .refine Aj ⟨I,F,?_,(D8.J F a).trans c⟩;rw[Ay U,m,Ay q,Ay f];exact b
  .refine Am ⟨I,⟨Yh G i r P,b,(D8.J F a).trans c,?_⟩,vX h.lt c⟩;rw[Ay U,m,Ay q,Ao f]
 .refine⟨G,h.h a,D8.J F a,?_⟩;rw[Ay U,m,Ao U]
 .rintro ⟨K,s,k2,t⟩;refine cm (s.abd u.right) ?_;rintro k ⟨j,C,D⟩;refine⟨I,j,?_,k2.trans D⟩;rw[<-t];unfold R.Mi;rw[Ay q,<-gX hk];exact C
 .rintro ⟨K,s,k2,t⟩;refine⟨F,?_,k2⟩;rw[<-t];unfold R.Mi;rw[Ao (by rw[q];simp)];exact s
theorem LW.ac8(h:LW p F G w)(k:R.Inv M G)(a:Yd p G w i r y)(e:R.Lm M G P d i)(hk:(P.J=1/\P.off=R.DL d.h/\P.d=R.EY d.h P.Ez)\/P.J=3)(l:r.a=P.a):
  D7 216 #[ptr p.s,ptr (p.t.ql i),pv P] w Ep λw'=>∃F',LW p F' (R.Hl G i P) w'/\D8 F F' w w':=by
 have m:=((h.g.sn i r a.J).some a.ne).2.2;have c5:=(X8 a.blk).a5;rw[a.rel.d]at c5;have f:=R.F7 a.J;have g:R.Hl G i P=if r.d=1 then (if P.J=1/\P.Ez<=r.f then R.Gy G i P else G) else if r.d=4 then R.G8 G P 7 0 2 else if P.e=false then G else if r.d=3 then R.JF G i else UR G P:=by grind [R.Hl,UR]
 rw[g];refine eQ _ c5 U (λq c hb=>?_) (λq b c hb=>?_) (λq b c hb=>?_) (λq b c hb=>?_) (λq c hb=>?_)
 .rw[Ao U,Ay U];refine cm ((h.h hb).XG e.right (Aj I)) ?_;exact wL
 .rw[Ao U,Ao U,Ao (by rw[b];simp),Ay U];refine cm ((h.h hb).tell (a.h hb) U) ?_;exact wL
 .rw[Ao U,Ao U,Ao (by rw[b];simp),Ao U];refine cm ((h.h hb).abd e.right) ?_;exact wL
 .rw[Ay U];rcases hk with ⟨_,k2,n⟩|k2
  .refine cm ((h.h hb).jF k (a.h hb) U e b k2 n l) ?_;rintro w' ⟨F',m1,m2⟩;refine⟨I,F',?_,(D8.J F hb).trans m2⟩
   grind
  .omega
 .have j:(if r.d=1 then (if P.J=1/\P.Ez<=r.f then R.Gy G i P else G) else if r.d=4 then R.G8 G P 7 0 2 else if P.e=false then G else if r.d=3 then R.JF G i else UR G P)=G:=by grind
  rw[j];exact⟨F,h.h hb,D8.J F hb⟩
abbrev Pq(P:Pk):Obj:=.cells #[Z P.J,Z P.f,Z P.b,Z P.H,Z P.a,Z P.c,Z P.Ez,Z P.off,.bool P.e,.string (str P.d)] 82
structure Rx(W:Aa)(b:Nat)(P:Pk):Prop where
 g0:W.cell? (Y b 0)=some (Z P.J)
 g1:W.cell? (Y b 1)=some (Z P.f)
 g2:W.cell? (Y b 2)=some (Z P.b)
 g3:W.cell? (Y b 3)=some (Z P.H)
 g4:W.cell? (Y b 4)=some (Z P.a)
 g5:W.cell? (Y b 5)=some (Z P.c)
 g6:W.cell? (Y b 6)=some (Z P.Ez)
 g7:W.cell? (Y b 7)=some (Z P.off)
 g8:W.cell? (Y b 8)=some (.bool P.e)
 g9:W.cell? (Y b 9)=some (.string (str P.d))
theorem VF(h:W.heap[b]?=Pq P):Rx W b P:=⟨EI h 0,EI h 1,EI h 2,EI h 3,EI h 4,EI h 5,EI h 6,EI h 7,EI h 8,EI h 9⟩
theorem tX(w:Aa)(s:Nat)(L:Ad)(i:L=.pointer none\/∃b,L=pt b)(P:Pk)(c:World->Prop)
  (k:Hid (∀d,DY w d->D7 248 #[pt s,Z P.c] d DI λe=>e=d))
  (j:Hid (∀d,DY w d->D7 249 #[pt s,pv P,Z 0] d Ep λe=>c e)):
  D7 215 #[pt s,L,pv P] w Ep λe=>c e:=by
 have h:Hid (∀o,DY w (w.alloc o)):=λo=>F9
 have f:∃a,L=.pointer a:=by
  rcases i with rfl|⟨b,rfl⟩
  .exact⟨_,I⟩
  .exact⟨_,I⟩
 obtain⟨a,rfl⟩:=f;clear i
 delta D7
 go_in
 go_wp2_with (first|(go_at_call 248;refine cs (k _ (h _)) ?_)|(go_at_call 249;refine cm (j _ (h _)) λl g=>?_))
 go_returns;exact⟨I,g⟩
theorem tZ(w:Aa)(s:Nat)(L:Ad)(g:L=.pointer none\/∃b,L=pt b)(P:Pk)(c:World->Prop)(hk:P.J=3\/¬P.Ez=0)
  (HV:Hid (∀d,DY w d->D7 248 #[pt s,Z P.c] d DC λf=>f=d))
  (HQ:Hid (∀d,DY w d->c d)):
  D7 215 #[pt s,L,pv P] w Ep λf=>c f:=by
 have HB:Hid (∀o,DY w (w.alloc o)):=λo=>F9
 have e:∃a,L=.pointer a:=by
  rcases g with rfl|⟨b,rfl⟩
  .exact⟨_,I⟩
  .exact⟨_,I⟩
 obtain⟨a,rfl⟩:=e;clear g;by_cases h3:P.J=3
 .have e1:(P.J==3)=true:=by simpa using h3
  exact abK
 .have e1:(P.J==3)=false:=by simpa using h3
  have e2:(P.Ez != 0)=true:=Fy;exact abK
theorem tY(w:Aa)(s n:Nat)i(P:Pk)(d:World->Prop)(s4:w.cell? (Y s 4)=Z i)(hn:n=i)(hk:¬P.J=3)(l:P.Ez=0)
  (v:Hid (∀b,DY w b->D7 248 #[pt s,Z P.c] b DC λc=>c=b))
  (t:Hid (∀b,DY w b->ET 99 #[pt s] b λe c=>∃a cap,e=.returned (.slice a n cap)/\DY b c))
  (u:Hid (∀b,DY w b->D7 249 #[pt s,pv P,Z 1] b Ep λc=>d c)):
  D7 215 #[pt s,.pointer none,pv P] w Ep λc=>d c:=by
 have j:Hid (∀o,DY w (w.alloc o)):=λo=>F9
 have e1:(P.J==3)=false:=by simpa using hk
 have e2:(P.Ez != 0)=false:=Fy;have e3:((n:Int)==i)=true:=by simpa using hn
 have hl:=Gv s4;have HF:Hid (∀f,Below (w.alloc (Pq P)).drew.heap.size (w.alloc (Pq P)).drew f->DY w f/\f.cell? (Y s 4)=some (Z i)/\Rx f w.heap.size P):=λf q=>by
  have r:=(j (Pq P)).drew.trans (q.mono Ev);refine⟨r,(r.cell (p:=Y s 4) hl).trans s4,VF ?_⟩;rw[q.block _ Ev];exact AF w _
 clear hn hk l
 delta D7
 go_in
 go_wp2_with (first|(go_at_call 248;refine cs (v _ (j _)) ?_)|fail)
 go_region_held3 (λc=>c.cell? (Y s 4)=some (Z i)) (go_keep) (first|(go_at_call 99;refine(t _ (j _).drew).mono ?_;rintro e f ⟨a1,c1,rfl,h⟩;have x:=HF f h;have⟨g,y,⟨g0,g1,g2,g3,g4,g5,g6,g7,g8,g9⟩⟩:=x;have k:=Dx g;clear h g))
 all_goals
  go_wp2_with (first|(go_at_call 249;refine cm (u _ k) λz m=>?_))
  go_returns;exact⟨I,m⟩
structure Made(w:Aa)(s:Nat)(cs_:Ae)(i:Nat)(P:Pk)(b:Nat)(W:Aa):Prop where
 ge:w.heap.size<=b
 keep:DF (λk=>k=s) w W
 cells:W.heap[s]?=some (.cells (cs_.set (10+i) (pt b)).toArray 144 (0,0))
 H:W.heap[b]?=some (.cells #[Z P.f,Z P.b,Z P.H,Z P.a,Z P.c,Z 0,.string ⟨#[]⟩,.string ⟨#[]⟩,Z 0,Z 0,Z 0] 179 (0,0))
theorem tu(h:w.heap[s]?=some (.cells cs_.toArray 144 (0,0)))(a:DY w W)(hB:W.heap[w.heap.size]?=o)(c:j=10+i):Made w s cs_ i P W ((W.alloc (.cells #[Z P.f,Z P.b,Z P.H,Z P.a,Z P.c,Z 0,.string ⟨#[]⟩,.string ⟨#[]⟩,Z 0,Z 0,Z 0] 179)).setCell (Y s j) (pt W))/\((W.alloc (.cells #[Z P.f,Z P.b,Z P.H,Z P.a,Z P.c,Z 0,.string ⟨#[]⟩,.string ⟨#[]⟩,Z 0,Z 0,Z 0] 179)).setCell (Y s j) (pt W)).heap[w.heap.size]?=o:=by
 subst c;have hl:=Dv h;have e:=a.size;have d:=(AB.1 hB).1;have f:W.heap[s]?=some (.cells cs_.toArray 144 (0,0)):=by rw[a.block s hl];exact h
 have b:(W.alloc (.cells #[Z P.f,Z P.b,Z P.H,Z P.a,Z P.c,Z 0,.string ⟨#[]⟩,.string ⟨#[]⟩,Z 0,Z 0,Z 0] 179)).heap[s]?=some (.cells cs_.toArray 144 (0,0)):=by grind [Below.heap_alloc]
 refine⟨⟨e,((DF.J a _).alloc _).trans (Eg _),Ek (cs:=cs_) (off:=10+i) b _,?_⟩,?_⟩
 .rw[AU _ _ _ _ Fy];exact AF W _
 grind [Below.heap_setCell,Below.heap_alloc]
abbrev Uh(P:Pk):Obj:=.cells #[Z P.f,Z P.b,Z P.H,Z P.a,Z P.c,Z 0,.string ⟨#[]⟩,.string ⟨#[]⟩,Z 0,Z 0,Z 0] 179
def Yc(w:Aa)(s:Nat)(cs_:Ae)(i:Nat)(P:Pk)(b:Nat)(V:Aa):Prop:=Made w s cs_ i P b V/\V.heap[w.heap.size]?=Pq P
theorem Zg(h:Dy w s cs_.toArray 144)(a:E3 w w (Pq P) W)(b:j=10+i):Yc w s cs_ i P W ((W.setCell (Y s j) (pt W)).alloc (Uh P)).drew:=by
 have hl:=Dv h;have l:=a.1.size;have e:(W.alloc (Uh P)).setCell (Y s j) (pt W.heap.size)=(W.setCell (Y s j) (pt W.heap.size)).alloc (Uh P):=by grind [World.setCell_alloc_past]
 rw[<-e];have⟨⟨c,d,f,g⟩,k⟩:=tu (P:=P) (i:=i) (j:=j) h a.1 a.2 b;exact⟨⟨c,d.drew,f,g⟩,k⟩
theorem uf(w:Aa)(s b ci ni:Nat)(cs_:Ae)(P:Pk)(a:World->Prop)(h:w.heap[s]?=some (.cells cs_.toArray 144 (0,0)))(old:Af)(hold:cs_[10+(3*ci+ni)]?=some (.pointer old))(f:P.f=ci)(g:P.H=ni)(C:ci<3)(v:ni<3)(hk:¬P.J=3)(i:P.Ez=0)
  (r:Hid (∀k,DY w k->D7 248 #[pt s,Z P.c] k (.bool true) λd=>d=k))
  (n:Hid (∀c W,Made w s cs_ (3*ci+ni) P c W->D7 251 #[pt s,pt c,pv P] W Ep λd=>a d)):
  D7 215 #[pt s,pt b,pv P] w Ep λd=>a d:=by
 have l:Hid (∀o,DY w (w.alloc o)):=λo=>F9
 have q:=Dx (λw=>Nr P w);have e1:(P.J==3)=false:=by simpa using hk
 have e2:(P.Ez != 0)=false:=Fy;have hl:=Dv h;have HF:Hid (∀m w1,Below ((w.alloc (Pq P)).drewN m).heap.size ((w.alloc (Pq P)).drewN m) w1->E3 w w (Pq P) w1):=λm w1 h1=>by
  refine⟨(Ed (l (Pq P)) m).trans (h1.mono Ev),?_⟩;rw[h1.block _ Ev];exact AF w _
 have t:Hid (∀W,E3 w w (Pq P) W->Rx W w.heap.size P/\EB W s (10+ci*3+ni) (.pointer old)/\W.frozen? (Y s (10+ci*3+ni))=false/\s<W.heap.size/\w.heap.size<W.heap.size):=λW hW=>by
  exact afE
 have HMB:Hid (∀W,E3 w w (Pq P) W->Yc w s cs_ (3*ci+ni) P W.heap.size ((W.setCell (Y s (10+ci*3+ni)) (pt W.heap.size)).alloc (Uh P)).drew):=λW hW=>Zg h hW U
 have HN:Hid (∀c V,Yc w s cs_ (3*ci+ni) P c V->Rx V w.heap.size P/\D7 251 #[pt s,pt c,pv P] V Ep λd=>a d):=λc V hV=>⟨VF hV.2,n c V hV.1⟩
 clear n h;obtain⟨D,cl,E,ln,x,u,pa,o,F,p⟩:=P;dsimp only[pv,cv,Pq,Uh]at *;subst f g;have G:0<=(ci:Int):=U;have H:(ci:Int)<3:=U;have J:0<=(ni:Int):=U;have K:(ni:Int)<3:=U;clear hk i
 delta D7
 go_in
 go_wp2_with (first|(go_at_call 248;refine cs (r _ (l _)) ?_)|fail)
 go_quiet (fail);go_wp2_with (first|(go_at_call 250;refine cm (q _) λw1 e=>?_;have hW:=HF _ w1 e;have HW1:=Dx hW;have j:=t w1 hW;obtain⟨⟨g0,g1,g2,g3,g4,g5,g6,g7,g8,g9⟩,y,z,A,B⟩:=j;clear e hW)|fail)
 exact afD
theorem ug(w:Aa)(s n ci ni:Nat)k(cs_:Ae)(P:Pk)(b:World->Prop)(h:w.heap[s]?=some (.cells cs_.toArray 144 (0,0)))(old:Af)(hold:cs_[10+(3*ci+ni)]?=some (.pointer old))(r:P.f=ci)(t:P.H=ni)(N:ci<3)(G:ni<3)(hk:¬P.J=3)(v:P.Ez=0)(s4:w.cell? (Y s 4)=Z k)(hn:¬n=k)
  (D:Hid (∀g,DY w g->ET 99 #[pt s] g λe c=>∃a cap,e=.returned (.slice a n cap)/\DY g c))
  (E:Hid (∀g,DY w g->D7 248 #[pt s,Z P.c] g (.bool true) λc=>c=g))
  (z:Hid (∀f W,Made w s cs_ (3*ci+ni) P f W->D7 251 #[pt s,pt f,pv P] W Ep λc=>b c)):
  D7 215 #[pt s,.pointer none,pv P] w Ep λc=>b c:=by
 have l:Hid (∀o,DY w (w.alloc o)):=λo=>F9
 have C:=Dx (λw=>Nr P w);have e1:(P.J==3)=false:=by simpa using hk
 have e2:(P.Ez != 0)=false:=Fy;have e3:((n:Int)==k)=false:=by simpa using hn
 have hl:=Dv h;have HF:Hid (∀w1,Below (w.alloc (Pq P)).drew.heap.size (w.alloc (Pq P)).drew w1->E3 w w (Pq P) w1):=λw1 h1=>by
  refine⟨(l (Pq P)).drew.trans (h1.mono Ev),?_⟩;rw[h1.block _ Ev];exact AF w _
 have m:Hid (∀W w1,E3 w w (Pq P) W->DY W w1->E3 w w (Pq P) w1):=λW w1 hW h1=>by
  refine⟨hW.1.trans (h1.mono hW.1.size),?_⟩;rw[h1.block _ (AB.1 hW.2).1];exact hW.2
 have A:Hid (∀W,E3 w w (Pq P) W->Rx W w.heap.size P/\W.cell? (Y s (10+ci*3+ni))=some (.pointer old)/\W.frozen? (Y s (10+ci*3+ni))=false/\s<W.heap.size/\w.heap.size<W.heap.size):=λW hW=>by
  exact afE
 have HMB:Hid (∀W,E3 w w (Pq P) W->Yc w s cs_ (3*ci+ni) P W.heap.size ((W.setCell (Y s (10+ci*3+ni)) (pt W.heap.size)).alloc (Uh P)).drew):=λW hW=>Zg h hW U
 have HN:Hid (∀f V,Yc w s cs_ (3*ci+ni) P f V->Rx V w.heap.size P/\D7 251 #[pt s,pt f,pv P] V Ep λc=>b c):=λf V hV=>⟨VF hV.2,z f V hV.1⟩
 clear z h;obtain⟨O,cl,Q,ln,H,u,pa,o,S,B⟩:=P;dsimp only[pv,cv,Pq,Uh]at *;subst r t;have T:0<=(ci:Int):=U;have X:(ci:Int)<3:=U;have q3:0<=(ni:Int):=U;have q4:(ni:Int)<3:=U;clear hk v hn
 delta D7
 go_in
 go_wp2_with (first|(go_at_call 248;refine cs (E _ (l _)) ?_)|fail)
 go_region_held3 (λc=>c.cell? (Y s 4)=some (Z k)) (go_keep) (first|(go_at_call 99;refine(D _ (l _).drew).mono ?_;rintro e w0 ⟨a1,c1,rfl,i⟩;have d:=HF w0 i;have q:=Dx d;have y:=A w0 d;obtain⟨⟨u0,u1,u2,u3,u4,u5,u6,u7,u8,u9⟩,v1,v2,v3,v4⟩:=y;have F:w0.cell? (Y s 4)=some (Z k):=(d.1.cell (p:=Y s 4) hl).trans s4;clear i d))
 all_goals
  go_wp2_with (first|(go_at_call 250;refine cm (C _) λw1 j=>?_;have hW:=m _ w1 q j;have HW1:=Dx hW;have x:=A w1 hW;obtain⟨⟨g0,g1,g2,g3,g4,g5,g6,g7,g8,g9⟩,J,K,L,M⟩:=x;clear j hW)|fail)
  exact afD
theorem vE(w:Aa)(s:Nat)(P:Pk):
  D7 156 #[pt s,.pointer none,pv P] w Ep (DY w):=by
 have HB:Hid (∀o,DY w (w.alloc o)):=λo=>F9
 delta D7
 go_in
 exact aaJ
theorem aam(w:Aa)(s b:Nat)(a st:Int)(P:Pk)(c:EB w b 3 (Z a))(d:EB w b 5 (Z st))(hn:¬a=P.a\/¬st=2):
  D7 156 #[pt s,pt b,pv P] w Ep (DY w):=by
 have HB:Hid (∀o,DY w (w.alloc o)):=λo=>F9
 have hl:=Gv c;by_cases h:a=P.a
 .have e1:(a != P.a)=false:=by simpa using h
  have e2:(st != 2)=true:=Fy;clear hn h
  delta D7
  go_in
  exact aaJ
 .have e1:(a != P.a)=true:=by simpa using h
  clear hn h
  delta D7
  go_in
  exact aaJ
theorem oI(w:Aa)(s b:Nat)(n at':Int)(S:Ab)(c:Bool)(P:Pk)(d:World->Prop)(z:w.cell? (Y b 3)=Z P.a)(G:w.cell? (Y b 5)=Z 2)(A:w.cell? (Y b 7)=some (.string S))(B:w.cell? (Y b 8)=Z at')(E:DJ w b 8)(C:0<=at'/\at'<=100)
  (H187:Hid (∀w,D7 203 #[.string S] w (Z n) λa=>a=w))
  (g:Hid (∀f,DY w f->D7 214 #[pt b] f (.bool c) λa=>a=f.drew))
  (i:Hid (¬P.off=n\/¬P.Ez=at'\/c=true->∀f,DY w f->d f))
  (l:Hid (P.off=n->P.Ez=at'->c=false->∀f,Below w (w.setCell (Y b 8) (Z (at'+1))) f->D7 166 #[pt s,pt b] f Ep λa=>d a)):
  D7 156 #[pt s,pt b,pv P] w Ep λa=>d a:=by
 have y:Hid (∀o,DY w (w.alloc o)):=λo=>F9
 have hl:=Gv z;have e1:(P.a != P.a)=false:=Ev;have F:IntKind.i64.wrap (at'+1)=at'+1:=Iz;have HF:Hid (∀m,E3 w w (Pq P) ((w.alloc (Pq P)).drewN m)):=λm=>⟨Ed (y _) m,AF w _⟩
 have HC:Hid (∀W,E3 w w (Pq P) W->W.cell? (Y b 7)=some (.string S)/\W.cell? (Y b 8)=some (Z at')/\DJ W b 8/\Rx W w.heap.size P/\b<W.heap.size/\(∀V,DY w V->True)):=λW hW=>⟨(hW.1.cell (p:=Y b 7) hl).trans A,(hW.1.cell (p:=Y b 8) hl).trans B,(hW.1.frozen (p:=Y b 8) hl).trans E,VF hW.2,Ai hl hW.1.size,λ_ _=>trivial⟩
 have HT:Hid (∀W,E3 w w (Pq P) W->Below w.heap.size (w.setCell (Y b 8) (Z (at'+1))) (W.setCell (Y b 8) (Z (at'+1))).drew.drew):=λW hW=>by
  refine⟨hW.1.os,hW.1.tape,hW.1.output,by simpa using hW.1.size,λj x=>?_⟩;by_cases e:j=b
  .subst e;show (W.setCell (Y j 8) (Z (at'+1))).heap[j]?=_;simp only[World.setCell,Cv,CQ];rw[hW.1.block j x]
  .show (W.setCell (Y b 8) (Z (at'+1))).heap[j]?=_;rw[AU _ _ _ _ e,AU _ _ _ _ e];exact hW.1.block j x
 have⟨H,cl,J,ln,D,u,pa,o,K,v⟩:=P;dsimp only[pv,cv,Pq]at *;by_cases h:o=n
 .have n1:(o != n)=false:=by simpa using h
  by_cases k:pa=at'
  .have n2:(pa != at')=false:=by simpa using k
   cases c with
   |true=>
    have HQ1:=Dx (i (Am (Am I)));clear i l h k
    delta D7
    go_in
    go_wp2_with fail
    go_quiet (fail);go_wp2_with fail
    refine EE _ (HF _) ?_;intro W hW;have⟨d7,d8,y8,⟨g0,g1,g2,g3,g4,g5,g6,g7,g8,g9⟩,hlW,_⟩:=HC W hW;have⟨q,HBW⟩:=FU (g W.drew hW.1.drew) hW.1.drew.drew;clear hW HF HC HT;go_region_held3 (λa=>a.cell? (Y b 7)=some (.string S)/\a.cell? (Y b 8)=some (Z at')/\a.cell? (EN w 6)=some (Z pa)/\a.cell? (EN w 7)=some (Z o)) (go_keep) (first|(go_at_call 203;refine cs (H187 _) ?_)|(go_at_call 214;refine cs q ?_))
    all_goals
     go_wp2;go_returns;exact⟨I,HQ1 _ (Dw HBW)⟩
   |false=>
    have HQ1:=Dx (l h k I);clear i l h k
    delta D7
    go_in
    go_wp2_with fail
    go_quiet (fail);go_wp2_with fail
    refine EE _ (HF _) ?_;intro W hW;have⟨d7,d8,y8,⟨g0,g1,g2,g3,g4,g5,g6,g7,g8,g9⟩,hlW,_⟩:=HC W hW;have⟨q,r⟩:=FU (g W.drew hW.1.drew) (HT W hW);clear hW HF HC HT;go_region_held3 (λa=>a.cell? (Y b 7)=some (.string S)/\a.cell? (Y b 8)=some (Z at')/\a.cell? (EN w 6)=some (Z pa)/\a.cell? (EN w 7)=some (Z o)) (go_keep) (first|(go_at_call 203;refine cs (H187 _) ?_)|(go_at_call 214;refine cs q ?_))
    all_goals
     go_wp2_with (first|(go_at_call 166;refine cm (HQ1 _ r) λL t=>?_))
     go_returns;exact⟨I,t⟩
  .have n2:(pa != at')=true:=by simpa using k
   have HQ1:=Dx (i (Am (Aj k)));clear i l h k;exact aft
 .have n1:(o != n)=true:=by simpa using h
  have HQ1:=Dx (i (Aj h));clear i l h;exact aft
theorem oR(d:EB w s (7+ci) (Z lv))(a:P.f=ci)(g:ci<3)(b:P.b<lv):
  D7 93 #[pt s,pv P] w Ep (DY w):=by
 have HB:Hid (∀o,DY w (w.alloc o)):=λo=>F9
 have hl:=Gv d;have⟨h,cl,e,ln,f,u,pa,o,i,c⟩:=P;dsimp only[pv]at *;subst a;have j:0<=(ci:Int):=U;have k:(ci:Int)<3:=U;have e1:decide (e<lv)=true:=by simpa using b
 delta D7
 go_in
 exact aaJ
theorem ig(a:World->Prop)(t:EB w s (7+ci) (Z P.b))(q:EB w s (10+ci*3+ni) (.pointer old))(k:P.f=ci)(l:P.H=ni)(x:ci<3)(r:ni<3)
  (f:Hid (P.J=6->∀b,DY w b->D7 156 #[pt s,.pointer old,pv P] b Ep λi=>a i))
  (c:Hid (P.J=1\/P.J=3->∀b,DY w b->D7 157 #[pt s,.pointer old,pv P] b Ep λi=>a i))
  (g:Hid (¬(P.J=6\/P.J=1\/P.J=3)->∀b,DY w b->a b)):
  D7 93 #[pt s,pv P] w Ep λi=>a i:=by
 have HB:Hid (∀o n,DY w ((w.alloc o).drewN n)):=λo n=>Ed F9 n
 have hl:=Gv t;have⟨e,cl,p,ln,v,u,pa,o,z,m⟩:=P;dsimp only[pv]at *;subst k l;obtain⟨A,B,C,D⟩:0<=(ci:Int)/\(ci:Int)<3/\0<=(ni:Int)/\(ni:Int)<3:=U;have e1:decide (p<p)=false:=Ev;by_cases d:e=6
 .have HQ:=Dx (f d);subst d;clear f c g
  delta D7
  go_in
  go_wp2_with fail
  go_quiet (fail);go_wp2_with fail
  go_quiet (fail);go_wp2_with fail
  go_quiet (fail);go_wp2_with (first|(go_at_call 156;refine cm (HQ _ (HB _ _)) λw3 hw3=>?_))
  go_returns;exact⟨I,hw3⟩
 .have y:(e==6)=false:=by simpa using d
  by_cases h:e=1
  .have HQ:=Dx (c (Aj h));subst h;clear f c g d;exact afL
  .have n1:(e==1)=false:=by simpa using h
   by_cases j:e=3
   .have HQ:=Dx (c (Am j));subst j;clear f c g d h;exact afL
   .have n3:(e==3)=false:=by simpa using j
    have HQ:=Dx (g U);clear f c g d h j
    delta D7
    go_in
    go_wp2_with fail
    go_quiet (fail);go_wp2_with fail
    go_quiet (fail);go_wp2_with fail
    go_quiet (fail);go_wp2;go_returns;exact⟨I,HQ _ (HB _ _)⟩
abbrev GF(w:Aa)(s ci:Nat)(life:Int):World:=(((w.setCell (Y s (7+ci)) (Z life)).setCell (Y s (10+ci*3)) (.pointer none)).setCell (Y s (10+ci*3+1)) (.pointer none)).setCell (Y s (10+ci*3+2)) (.pointer none)
theorem cY(a:s<w):E3 w (GF w s ci life) o (GF ((w.alloc o).drewN m) s ci life).drew:=by
 have e:GF (w.alloc o) s ci life=(GF w s ci life).alloc o:=by
  unfold GF;rw[Ck o s _ _ a,Ck o s _ _ (by simpa using a),Ck o s _ _ (by simpa using a),Ck o s _ _ (by simpa using a)]
 have e2:(GF ((w.alloc o).drewN m) s ci life).drew=(((GF w s ci life).alloc o).drewN m).drew:=by
  rw[<-e];rfl
 rw[e2];refine⟨(Ed ((AA _ _).alloc Ev _) _).drew,?_⟩;have:=AF (GF w s ci life) o;simpa using this
theorem dU(d0:EB w s (10+ci*3) (.pointer o0))(d1:EB w s (10+ci*3+1) (.pointer o1))(d2:EB w s (10+ci*3+2) (.pointer o2))(hn:ni<3):(GF w s ci life).cell? (Y s (10+ci*3+ni))=some (.pointer none):=by
 have ne:∀{a b:Nat},a≠b->((Y s a):Addr)≠(Y s b):=λh q=>h (by cases q;rfl)
 grind [World.cell?_setCell_other,World.cell?_setCell_same]
theorem oQ(a:World->Prop)(x:EB w s (7+ci) (Z lv))(d0:EB w s (10+ci*3) (.pointer o0))(d1:EB w s (10+ci*3+1) (.pointer o1))(d2:EB w s (10+ci*3+2) (.pointer o2))(z:∀j,DJ w s j)(n:P.f=ci)(r:P.H=ni)(A:ci<3)(l:ni<3)(q:lv<P.b)
  (f:Hid (P.J=6->∀b,Below w (GF w s ci P.b) b->D7 156 #[pt s,.pointer none,pv P] b Ep λi=>a i))
  (c:Hid (P.J=1\/P.J=3->∀b,Below w (GF w s ci P.b) b->D7 157 #[pt s,.pointer none,pv P] b Ep λi=>a i))
  (g:Hid (¬(P.J=6\/P.J=1\/P.J=3)->∀b,Below w (GF w s ci P.b) b->a b)):
  D7 93 #[pt s,pv P] w Ep λi=>a i:=by
 have hl:=Gv x;have HBF:Hid (∀m,E3 w (GF w s ci P.b) (Pq P) (GF ((w.alloc (Pq P)).drewN m) s ci P.b).drew):=λm=>cY hl
 have HW:Hid (∀V,E3 w (GF w s ci P.b) (Pq P) V->Rx V w.heap.size P/\EB V s (10+ci*3+ni) (.pointer none)/\∀m,Below w.heap.size (GF w s ci P.b) (V.drewN m)):=λV hV=>⟨VF hV.2,(hV.1.cell (p:=(Y s (10+ci*3+ni))) hl).trans (dU d0 d1 d2 l),λm=>Ed hV.1 m⟩
 have⟨e,cl,v,ln,y,u,pa,o,C,t⟩:=P;dsimp only[pv,Pq,GF]at *;subst n r;obtain⟨D,E,F,G⟩:0<=(ci:Int)/\(ci:Int)<3/\0<=(ni:Int)/\(ni:Int)<3:=U;have e1:decide (v<lv)=false:=Fy;have e2:decide (lv<v)=true:=by simpa using q
 by_cases d:e=6
 .have HQ:=Dx (f d);subst d;clear f c g
  delta D7
  go_in
  go_wp2_with fail
  go_quiet (fail);go_wp2_with fail
  go_quiet (fail);go_wp2_with fail
  go_region
  go_wp2_with fail
  go_region
  refine EE _ (HBF _) ?_;intro V hV;have hw2:=HW V hV;have⟨⟨g0,g1,g2,g3,g4,g5,g6,g7,g8,g9⟩,f1,f2⟩:=hw2;have HB:=Dx f2;clear hV f2 HW HBF;go_wp2_with fail
  go_quiet (fail);go_wp2_with (first|(go_at_call 156;refine cm (HQ _ (HB _)) λw3 hw3=>?_))
  go_returns;exact⟨I,hw3⟩
 .have B:(e==6)=false:=by simpa using d
  by_cases h:e=1
  .have HQ:=Dx (c (Aj h));subst h;clear f c g d;exact afq
  .have n1:(e==1)=false:=by simpa using h
   by_cases k:e=3
   .have HQ:=Dx (c (Am k));subst k;clear f c g d h;exact afq
   .have n3:(e==3)=false:=by simpa using k
    have HQ:=Dx (g U);clear f c g d h k
    delta D7
    go_in
    go_wp2_with fail
    go_quiet (fail);go_wp2_with fail
    go_quiet (fail);go_wp2_with fail
    go_region
    go_wp2_with fail
    go_region
    refine EE _ (HBF _) ?_;intro V hV;have hw2:=HW V hV;have⟨⟨g0,g1,g2,g3,g4,g5,g6,g7,g8,g9⟩,f1,f2⟩:=hw2;have HB:=Dx f2;clear hV f2 HW HBF;go_wp2_with fail
    go_quiet (fail);go_wp2;go_returns;exact⟨I,HQ _ (HB _)⟩
namespace R
theorem Inv.S7{M:Bk}{G:Wd}(h:Inv M G){p:Pk}{d:Cd}(ha:Lm M G p d i){r:Sn}(v:G.J[i]?=r)(w:¬r.a=p.a)(m:¬p.a<r.a)(hal:Jt G.a p.c=true):Inv M (R.EA G i {Ic with a:=p.a,c:=p.c,d:=1}):=by
 have⟨_,_,_,_,u,_,q,t,_⟩:=ha.right;have b:=ha.key;have f:=(h.bk _ d ha.Q).1;have o:=SX f;have k:=h.wf.sv;have⟨_,_,g,_,_,j,_⟩:=ha.right;have l:=h.T (r':={Ic with a:=p.a,c:=p.c,d:=1}) v (by simp only;omega) ⟨λe=>by simp only at e;omega,by simp only;omega,λ_=>⟨by rw[<-ha.b];exact g.1,j,Ev⟩,by simp[Ic],Ev,Ev,by simp[Ic]⟩ (λ_=>⟨d,by rw[<-b];exact ha.Q,ha.c,λ_=>⟨by simp[Ic],by simp only[Ic];omega⟩,Ev,λ_=>?_,Ev⟩)
 .exact l
 exact afN
end R
def Ks(P:Pk):R.Sn:={R.Ic with a:=P.a,c:=P.c,d:=1}
def adm(P:Pk):PR:=⟨P.f,P.b,P.H,P.a,P.c,0,[],[],0,0,0⟩
theorem LW.tq(h:LW p F G w)(m:R.Lm M G P d i)(f:Made w p.s (IW p.n p.nm p.t G.c G.C G.J) i P b W):
  LW {p with t:=p.t.put i b} (λk=>F k\/k=b) (R.EA G i (Ks P)) W/\Yd {p with t:=p.t.put i b} (R.EA G i (Ks P)) W i (Ks P) (adm P)/\D8 F (λk=>F k\/k=b) w W:=by
 have l:=m.lt;have a:=m.key;simp only[R.JD,R.Key.mk.injEq]at a;have⟨_,_,n,_,z,s,_⟩:=m.right;have g:(Ks P).a≠0:=by show P.a≠0;omega
 have hrel:PT i (G.C.getD (i / 3) 0) (Ks P) (adm P):=⟨a.1,a.2.1,a.2.2.1,I,I,I,λ_=>rfl,λe=>by simp[Ks]at e,I,λe=>by simp[Ks,R.Ic]at e⟩;have o:R.Tm (G.C.getD (i / 3) 0) (Ks P):=⟨λe=>absurd e g,by show 0<=P.a/\P.a<=999;omega,λ_=>⟨by rw[<-m.b];exact n.1,s,by simp[Ks]⟩,by simp[Ks,R.Ic],by simp[Ks],by simp[Ks],by simp[Ks,R.Ic]⟩;have j:Dy W b (adm P).cells.toArray 179:=f.H;have y:=h.a.S7 h.lt h.g.sl l g f.ge f.keep f.cells j hrel;have x:=GD.one h.a.bs Em;have v:=NF h.g o;have q:=h.OW y f.keep x (λ_ r=>Aj r) (λk hk=>by
  rcases hk with hk|rfl
  .exact Ai (h.lt k hk) f.keep.size
  .exact(AB.1 f.H).1) (PN h.wf i (Ks P)) v (λi c _ u=>rfl)
 refine⟨q,⟨?_,g,?_,hrel⟩,f.keep.mono (λk _ e=>by rw[e];exact h.a.A.1),λk hk=>?_⟩
 .show (G.J.set i (Ks P))[i]?=_;rw[Bf,Ay I,Ay (by rw[h.g.sl];exact l)]
 .show W.heap[(p.t.put i b).ql i]?=_;simp only[SP.put,CQ];exact j
 .rcases hk with hk|rfl
  .exact Aj hk
  .exact Am f.ge
theorem Ox(t:SP)(seen:List R.Sn)(n nm:Nat)(c:R.Cf)(a:List Int)(hi:i<9):(IW n nm t c a seen)[10+i]?=Gh t seen i:=by
 exact abw
theorem M8(t:SP)(seen:List R.Sn)(i:Nat):∃o,Gh t seen i=.pointer o:=by
 unfold Gh;split;all_goals grind
theorem zi(hl:seen.length=9)(a:∀r∈seen,0<=r.a):(idx seen)=R.cnt seen:=by
 obtain⟨a0,a1,a2,a3,a4,a5,a6,a7,a8,rfl⟩:∃a0 a1 a2 a3 a4 a5 a6 a7 a8,seen=[a0,a1,a2,a3,a4,a5,a6,a7,a8]:=by
  match seen,hl with
  |[a0,a1,a2,a3,a4,a5,a6,a7,a8],_=>exact⟨a0,a1,a2,a3,a4,a5,a6,a7,a8,rfl⟩
 have q:∀x:R.Sn,0<=x.a->decide (x.a≠0)=decide (0<x.a):=λx b=>by
  grind
 have e:(idx [a0,a1,a2,a3,a4,a5,a6,a7,a8]).map (λi=>([a0,a1,a2,a3,a4,a5,a6,a7,a8][i]?).getD R.Ic)=[a0,a1,a2,a3,a4,a5,a6,a7,a8].filter λx=>decide (x.a≠0):=by
  have:[a0,a1,a2,a3,a4,a5,a6,a7,a8]=(List.range 9).map (λi=>([a0,a1,a2,a3,a4,a5,a6,a7,a8][i]?).getD R.Ic):=rfl;conv=>rhs;rw[this]
  rw[List.filter_map];rfl
 grind [R.cnt,List.filter_congr]
theorem LW.agh(h:LW p F G w):ET 99 #[ptr p.s] w λe d=>∃a cap,e=.returned (.slice a (R.FE G) cap)/\DY w d:=by
 refine h.a.rem.mono ?_;rintro e d ⟨O,rfl,b,g⟩;rw[UB,AX]at b;rw[zi h.g.sl (λr i=>by
  have⟨k,hk⟩:=Bp.1 i;exact(h.g.sn k r hk).a.1)]at b
 have⟨a,c,f⟩:=Fa b;subst f;exact⟨a,c,I,g⟩
theorem mr(w:Aa)(b:Nat)(s:Ac)a(h:s.length<=1000)(f:w.cell? (Y b 7)=some (.string (str s)))(g:w.cell? (Y b 8)=Z a):
  D7 214 #[ptr b] w (.bool (decide (a=R.DL s-1))) λc=>c=w.drew:=by
 have e:=Dx (λw=>IC s w U);have hn:0<=R.DL s/\R.DL s<=1000:=by unfold R.DL;omega
 generalize str s=SM at *;generalize R.DL s=N at *;have d:IntKind.i64.wrap (N-1)=N-1:=Iz
 delta D7
 go_in
 go_wp2_with fail
 go_region_held3 (λc=>c.cell? (Y b 7)=some (.string SM)/\c.cell? (Y b 8)=some (Z a)) (go_keep) (first
  |(go_at_call 203;refine cs (e _) ?_))
 all_goals
  go_wp2
  go_ret
  exact⟨by
   have:(a==N-1)=decide (a=N-1):=by rw[BH];simp
   rw[this];rfl,rfl⟩
def NM(p:Pl)(F:D9)(w:Aa)(G:R.Wd)(w':Aa):Prop:=∃t F',LW {p with t:=t} F' G w'/\D8 F F' w w'
theorem NM.of(h:LW p F' G w')(a:D8 F F' w w'):NM p F w G w':=⟨p.t,F',h,a⟩
def Zm(G:R.Wd)(i:Nat)(r:R.Sn)(P:Pk):R.Wd:=if R.Js G P.c=false then R.G8 G P 7 0 2 else if P.J=3\/P.Ez≠0 then G else if r.a=0/\G.c.d<=(R.FE G:Int) then R.G8 G P 7 1 2 else R.Hl (R.EA G i (Ks P)) i P
theorem LW.aeX(h:LW p F G w)(S:R.Inv M G)(D:R.EP G)(O:G.J[i]?=r)(m:R.Lm M G P d i)(hk:(P.J=1/\P.off=R.DL d.h/\P.d=R.EY d.h P.Ez)\/P.J=3)(hs:¬r.a=P.a)(C:¬P.a<r.a):
  D7 215 #[ptr p.s,Gh p.t G.J i,pv P] w Ep λw'=>NM p F w (Zm G i r P) w':=by
 have X:=m.lt;have E:=m.right;have⟨_,T,_,aa,_⟩:=E;have⟨o,ab⟩:=M8 p.t G.J i;have K:Gh p.t G.J i=.pointer none\/∃b,Gh p.t G.J i=pt b:=by grind [Gh]
 have l:Gh p.t G.J i=if r.a=0 then .pointer none else ptr (p.t.ql i):=by
  unfold Gh;rw[O];rfl
 have n:∀f,DY w f->D7 248 #[pt p.s,Z P.c] f (.bool (R.Js G P.c)) λw'=>w'=f:=λf hb=>(h.h hb).T P.c
 unfold Zm;cases hal:R.Js G P.c with
 |false=>
  rw[Ay rfl];rw[hal]at n;refine tX w p.s _ K P _ n (λf hb=>?_);refine cm ((h.h hb).XG m.right (Aj I)) ?_;exact wJ
 |true=>
  rw[Ao Ev];rw[hal]at n;by_cases c:P.J=3\/P.Ez≠0
  .rw[Ay c];exact tZ w p.s _ K P _ c n (λf hb=>NM.of (h.h hb) (D8.J F hb))
  .rw[Ao c];have k:¬P.J=3:=λq=>c (Aj q)
   have s:P.Ez=0:=by grind
   have s4:=h.a.cell 4 _ I;have v:P.f=(P.f.toNat:Int):=U;have x:P.H=(P.H.toNat:Int):=U;have B:=m.i.symm;have g:(IW p.n p.nm p.t G.c G.C G.J)[10+(3*P.f.toNat+P.H.toNat)]?=some (.pointer o):=by grind [Ox]
   have J:∀u W,Made w p.s (IW p.n p.nm p.t G.c G.C G.J) (3*P.f.toNat+P.H.toNat) P u W->D7 251 #[pt p.s,pt u,pv P] W Ep λw'=>NM p F w (R.Hl (R.EA G i (Ks P)) i P) w':=λu W N=>by
    rw[B]at N;have⟨q1,q2,q3⟩:=h.tq m N;have z:=S.S7 m O hs C (by simpa [R.Js,R.Jt] using hal);have e1:ptr (({p with t:=p.t.put i u}:Pl).t.ql i)=pt u:=by simp[SP.put]
    rcases hk with ⟨H,k2,k3⟩|H
    .have Q:=q1.jF z q2 I (m.yE I) H k2 k3 I;rw[e1]at Q;refine cm Q ?_;rintro w' ⟨F',m1,m2⟩;refine⟨I,p.t.put i u,F',?_,q3.trans m2⟩
     grind [R.EA,Ks,R.F7,R.EP.J,R.Hl]
    .exact absurd H k
   by_cases y:r.a=0
   .rw[l,Ay y];have L:∀f,DY w f->ET 99 #[pt p.s] f λe w'=>∃a cap,e=.returned (.slice a (R.FE G) cap)/\DY f w':=λf hb=>(h.h hb).agh
    by_cases j:G.c.d<=(R.FE G:Int)
    .rw[Ay ⟨y,j⟩];have A:(R.FE G:Int)=G.c.d:=by grind [R.FE,R.cnt,R.EP]
     refine tY w p.s (R.FE G) G.c.d P _ s4 A k s n L (λf hb=>?_);refine cm ((h.h hb).XG m.right (Am I)) ?_;exact wJ
    .rw[Ao (λq=>j q.2)];exact ug w p.s (R.FE G) P.f.toNat P.H.toNat G.c.d _ P _ h.a.bs o g v x U U k s s4 U L n J
   .rw[l,Ao y,Ao (λq=>y q.1)];exact uf w p.s (p.t.ql i) P.f.toNat P.H.toNat _ P _ h.a.bs o g v x U U k s n J
theorem LW.aeK(h:LW p F G w)(t:G.J[i]?=r)(D:1<=P.a):
  D7 156 #[ptr p.s,Gh p.t G.J i,pv P] w Ep λm=>NM p F w (if r.a=P.a/\r.d=3/\P.off=R.DL r.D/\P.Ez=r.at'/\r.at'<R.DL r.D-1 then R.JF (R.EA G i {r with at':=r.at'+1}) i else G) m:=by
 have k:Gh p.t G.J i=if r.a=0 then .pointer none else ptr (p.t.ql i):=by
  unfold Gh;rw[t];rfl
 rw[k];by_cases o:r.a=0
 .rw[Ay o,Ao U];refine cm (vE w p.s P) λm hb=>?_
  exact xf
 .rw[Ao o];obtain⟨y,d,_⟩:=h.q t o;have a:=d.rel;have b:=h.g.sn i r t;obtain⟨_,_,_,c3,_,c5,_,l,n,_⟩:=X8 d.blk;rw[a.a]at c3;rw[a.d]at c5;by_cases c:¬r.a=P.a\/¬r.d-1=2
  .rw[Ao U];refine cm (aam w p.s (p.t.ql i) r.a (r.d-1) P c3 c5 c) λm hb=>?_
   exact xf
  .have e1:=Decidable.byContradiction λq=>c (Aj q)
   have e3:r.d=3:=by
    have:r.d-1=2:=Decidable.byContradiction λq=>c (Am q)
    omega
   obtain⟨z,A,Q,S⟩:=b.h e3;obtain⟨f,Hg⟩:=a.h e3;rw[f]at l;rw[Hg]at n;rw[e1]at c3;rw[e3]at c5;have g:=Gv l;have C:=R.IV (s:=r.D) U;refine oI w p.s (p.t.ql i) (R.DL r.D) r.at' (str r.D) (decide (r.at'=R.DL r.D-1)) P _ c3 c5 l n (Eb d.blk) U (λw=>IC r.D w U) (λx hb=>?_) (λq x hb=>?_) (λL M N x hb=>?_)
   .exact mr x _ r.D r.at' U ((hb.cell (p:=⟨p.t.ql i,7,none⟩) g).trans l) ((hb.cell (p:=⟨p.t.ql i,8,none⟩) g).trans n)
   .rw[Ao (by
     rintro ⟨_,_,x3,x4,T⟩;rcases q with q|q|q
     .exact q x3
     .exact q x4
     .have:=Cs q;omega)]
    exact NM.of (h.h hb) (D8.J F hb)
   .have B:=of_decide_eq_false N;rw[Ay ⟨e1,e3,L,M,U⟩];obtain⟨J,H,K⟩:=h.Oy (r':={r with at':=r.at'+1}) (y':={y with at':=r.at'+1}) d d.ne (Eg _) (Kj (j:=8) (v:=Z (r.at'+1)) d.blk rfl) ⟨a.f,a.b,a.H,a.a,a.c,a.d,a.Q,λ_=>⟨f,rfl⟩,a.C,a.e⟩ ⟨λe=>absurd e d.ne,b.a,b.some,b.b,b.C,λ_=>⟨z,A,by simp only;omega,by simp only;omega⟩,b.g⟩;have u:(w.setCell ⟨p.t.ql i,8,none⟩ (Z (r.at'+1))).heap.size=w.heap.size:=Ev;rw[<-u]at hb;refine cm ((J.h hb).tell (H.h hb) e3) ?_;rintro m ⟨O,E,k2⟩;exact⟨I,NM.of E ((K.trans (D8.J F hb)).trans k2)⟩
end Go.Proofs.YtblomippkddgiabGreatDoor
