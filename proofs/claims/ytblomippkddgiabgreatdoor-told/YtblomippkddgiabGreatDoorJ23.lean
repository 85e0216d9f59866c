import Derived.Test.YtblomippkddgiabGreatDoorJ22
set_option maxRecDepth 100000
set_option maxHeartbeats 1000000
namespace Go.Proofs.YtblomippkddgiabGreatDoor
open Go.RowKit
variable {F:Aq}{p:Pl}{G:R.Wd}{X:Value}{w:World}
theorem Jl(p0 p1:Addr)(w:World):
  CallsD Tryz.prog 86 #[.pointer (some p0),.pointer (some p1)] .returning w fun e u' w'=>e=.returned (.tuple #[])/\u'=.returning/\w'=w:=by
 refine callsD_of_wpS Tryz.func86 rfl fun c₀ cs hu=>?_
 apply wpS_seq;apply wpS_region;simp[wpOpsS,go_sem,recoverD,hu,Tryz.ntmps86,Exit.thenS];rw[show (#[Value.pointer (some p0),Value.pointer (some p1)]++((Array.replicate 7 undef).setIfInBounds 1 (Value.nilIface)).setIfInBounds 0 (Value.nilIface))=#[.pointer (some p0),.pointer (some p1),.nilIface,.nilIface,undef,undef,undef,undef,undef] from rfl];refine wpS_of_wp ?_;go_wp2;exact⟨rfl,.returning,by cases c₀;simp_all,_,results_none rfl _ _ _,rfl,rfl,rfl⟩
theorem KR(a0 a1:Nat)(n q:Nat)(aa:List PanicEntry)(w:World)(h0:w.cell? ⟨a0,0,none⟩=some (.int .i64 0))(h1:w.cell? ⟨a1,0,none⟩=some (.int .i64 0))(z0:w.frozen? ⟨a0,0,none⟩=false)(z1:w.frozen? ⟨a1,0,none⟩=false)(ac:¬a0=a1):
  CallsD Tryz.prog 86 #[.pointer (some ⟨a0,0,none⟩),.pointer (some ⟨a1,0,none⟩)] (.panicking ({v:=.iface 161 (Bq n q),recovered:=false} :: aa)) w fun e u' w'=>
   e=.returned (.tuple #[])/\u'=.panicking ({v:=.iface 161 (Bq n q),recovered:=true} :: aa)/\w'.cell? ⟨a0,0,none⟩=some (.int .i64 0)/\w'.cell? ⟨a1,0,none⟩=some (.int .i64 n)/\Af (fun k=>k=a0\/k=a1) w w':=by
 refine callsD_of_wpS Tryz.func86 rfl fun c₀ cs hu=>?_
 apply wpS_seq;apply wpS_region;simp[wpOpsS,go_sem,recoverD,hu,Tryz.ntmps86,Exit.thenS];rw[show (#[Value.pointer (some {block:=a0,off:=0}),Value.pointer (some {block:=a1,off:=0})]++((Array.replicate 7 undef).setIfInBounds 1 (Value.iface 161 (Bq n q))).setIfInBounds 0 (Value.iface 161 (Bq n q)))=#[.pointer (some {block:=a0,off:=0}),.pointer (some {block:=a1,off:=0}),.iface 161 (Bq n q),.iface 161 (Bq n q),undef,undef,undef,undef,undef] from rfl];refine wpS_of_wp ?_;have ab:=V.Ii n q;have l0:=lt_of_cell h0;have l1:=lt_of_cell h1;go_wp2_with fail
 refine(V.Jm n q _).mono ?_;rintro e w1 ⟨rfl,hb⟩;have s1:=hb.size;have g0:w1.cell? ⟨a0,0,none⟩=some (.int .i64 0):=(hb.cell (p:=⟨a0,0,none⟩) l0).trans h0;have g1:w1.cell? ⟨a1,0,none⟩=some (.int .i64 0):=(hb.cell (p:=⟨a1,0,none⟩) l1).trans h1;have y0:w1.frozen? ⟨a0,0,none⟩=false:=(hb.frozen (p:=⟨a0,0,none⟩) l0).trans z0;have y1:w1.frozen? ⟨a1,0,none⟩=false:=(hb.frozen (p:=⟨a1,0,none⟩) l1).trans z1;have m0:a0<w1.heap.size:=by omega
 have m1:a1<w1.heap.size:=by omega
 have e2:¬a1=a0:=by omega
 have HK:=Ac (Af.Al hb (fun k=>k=a0\/k=a1));clear h0 h1 z0 z1 hb;go_wp2;have F0:((w1.setCell {block:=a0,off:=0} (.int .i64 0)).setCell {block:=a1,off:=0} (Value.int IntKind.i64 ↑n)).cell? ⟨a0,0,none⟩=some (.int .i64 0):=by simp[go_sem,g0]
 have F1:((w1.setCell {block:=a0,off:=0} (.int .i64 0)).setCell {block:=a1,off:=0} (Value.int IntKind.i64 ↑n)).cell? ⟨a1,0,none⟩=some (.int .i64 n):=by simp[go_sem,g1]
 have FB:Af (fun k=>k=a0\/k=a1) w ((w1.setCell {block:=a0,off:=0} (.int .i64 0)).setCell {block:=a1,off:=0} (Value.int IntKind.i64 ↑n)):=
  ((Aa HK).setCell (p:=⟨a0,0,none⟩) (afJ (afJ rfl)) _).setCell (p:=⟨a1,0,none⟩) (afJ (afM rfl)) _
 show bodyPostS Tryz.prog Tryz.f86 c₀ cs _ _ _ _ _;exact⟨rfl,_,rfl,_,results_none rfl _ _ _,rfl,rfl,F0,F1,FB⟩
theorem Vx(w:World)(x cs n cap cb i:Nat)(ln uid proc:Int)(X:Value)(sq er:Int)(C:World->Prop)(hx:w.cell? ⟨x,2,none⟩=some (.slice (some ⟨cs,0,none⟩) n cap))(hi:i<n)(ac:w.cell? ⟨cs,i,none⟩=some (ptr cb))
  (ab:Hid (∀w',Below w.heap.size w w'->w'.heap.size=w.heap.size+2->Calls Tryz.prog 88 #[ptr cb,.int .i64 ln,.int .i64 uid,.int .i64 proc,X] w' fun e aa=>e=.returned (.tuple #[.int .i64 sq,.int .i64 er])/\C aa/\aa.heap[w.heap.size]?=w'.heap[w.heap.size]?/\aa.heap[w.heap.size+1]?=w'.heap[w.heap.size+1]?/\w'.heap.size<=aa.heap.size)):
  Calls Tryz.prog 52 #[ptr x,.int .i64 (i:Int),.int .i64 ln,.int .i64 uid,.int .i64 proc,X] w fun e w'=>e=.returned (.tuple #[.int .i64 sq,.int .i64 er])/\∃w1,C w1/\Af (fun k=>k=w.heap.size\/k=w.heap.size+1) w1 w':=by
 have al:∀(fn:Fn) (first cap:Array Value) (w:World),(Instr.makeFunc fn first cap).run Tryz.prog w=.ok (.func fn first cap) w:=fun _ _ _ _=>rfl
 have q1:(0:Int)<=(i:Int):=by omega
 have q2:(i:Int)<(n:Int):=by omega
 have aj:=lt_of_cell hx;have ak:=lt_of_cell ac;have HB:Hid (Below w.heap.size w ((w.alloc (.cells #[.int .i64 0] 3)).alloc (.cells #[.int .i64 0] 41))):=((Below.refl _ _).alloc (afI _) _).alloc (by simp) _;have HC:=Ac ((Aa ab) _ (Aa HB) (by simp));have ag:Hid (((w.alloc (.cells #[.int .i64 0] 3)).alloc (.cells #[.int .i64 0] 41)).heap[w.heap.size]?=some (.cells #[.int .i64 0] 3 (0,0))):=(Below.heap_alloc _ _ _ (by simp)).trans (heap_alloc_new w _);have ah:Hid (((w.alloc (.cells #[.int .i64 0] 3)).alloc (.cells #[.int .i64 0] 41)).heap[w.heap.size+1]?=some (.cells #[.int .i64 0] 41 (0,0))):=by
  show _=_;have:=heap_alloc_new (w.alloc (.cells #[.int .i64 0] 3)) (.cells #[.int .i64 0] 41);simpa using this
 clear ab
 go_enter_defers Tryz.func52,Tryz.ntmps52
 go_wp2_with (first|(go_at_call 35;go_in))
 refine(Aa HC).mono ?_;rintro e w1 ⟨rfl,hC,ad,ae,ai⟩;have f0:=ad.trans (Aa ag);have f1:=ae.trans (Aa ah);have c0:w1.cell? ⟨w.heap.size,0,none⟩=some (.int .i64 0):=cell_of f0 0 _ rfl;have c1:w1.cell? ⟨w.heap.size+1,0,none⟩=some (.int .i64 0):=cell_of f1 0 _ rfl;have z0:w1.frozen? ⟨w.heap.size,0,none⟩=false:=open_list f0;have z1:w1.frozen? ⟨w.heap.size+1,0,none⟩=false:=open_list f1;simp at ai;have m0:w.heap.size<w1.heap.size:=by omega
 have m1:w.heap.size+1<w1.heap.size:=by omega
 have af:=Ac hC;clear ad ae f0 f1 hC hx ac;go_wp2;refine leaves_cons (f:=86) (args:=#[.pointer (some ⟨w.heap.size,0,none⟩),.pointer (some ⟨w.heap.size+1,0,none⟩)]) (by simp) (by simp[go_sem]) ?_;refine(Jl _ _ _).mono ?_;rintro e u' aa ⟨rfl,rfl,rfl⟩;simp[Leaves,settle,results,Tryz.results52,go_sem,c0,c1];exact⟨w1,Aa af,((Af.refl _ w1).setCell (p:=⟨w.heap.size,0,none⟩) (afJ (afJ rfl)) _).setCell (p:=⟨w.heap.size+1,0,none⟩) (afJ (afM rfl)) _⟩
theorem O9(w:World)(x cs n cap cb i:Nat)(ln uid proc:Int)(X:Value)(n0:Nat)(C:World->Prop)(hx:w.cell? ⟨x,2,none⟩=some (.slice (some ⟨cs,0,none⟩) n cap))(hi:i<n)(ac:w.cell? ⟨cs,i,none⟩=some (ptr cb))
  (ab:Hid (∀w',Below w.heap.size w w'->w'.heap.size=w.heap.size+2->Calls Tryz.prog 88 #[ptr cb,.int .i64 ln,.int .i64 uid,.int .i64 proc,X] w' fun e aa=>e=Az n0 0/\C aa/\aa.heap[w.heap.size]?=w'.heap[w.heap.size]?/\aa.heap[w.heap.size+1]?=w'.heap[w.heap.size+1]?/\w'.heap.size<=aa.heap.size)):
  Calls Tryz.prog 52 #[ptr x,.int .i64 (i:Int),.int .i64 ln,.int .i64 uid,.int .i64 proc,X] w fun e w'=>e=.returned (.tuple #[.int .i64 0,.int .i64 n0])/\∃w1,C w1/\Af (fun k=>k=w.heap.size\/k=w.heap.size+1) w1 w':=by
 have al:∀(fn:Fn) (first cap:Array Value) (w:World),(Instr.makeFunc fn first cap).run Tryz.prog w=.ok (.func fn first cap) w:=fun _ _ _ _=>rfl
 have q1:(0:Int)<=(i:Int):=by omega
 have q2:(i:Int)<(n:Int):=by omega
 have aj:=lt_of_cell hx;have ak:=lt_of_cell ac;have HB:Hid (Below w.heap.size w ((w.alloc (.cells #[.int .i64 0] 3)).alloc (.cells #[.int .i64 0] 41))):=((Below.refl _ _).alloc (afI _) _).alloc (by simp) _;have HC:=Ac ((Aa ab) _ (Aa HB) (by simp));have ag:Hid (((w.alloc (.cells #[.int .i64 0] 3)).alloc (.cells #[.int .i64 0] 41)).heap[w.heap.size]?=some (.cells #[.int .i64 0] 3 (0,0))):=(Below.heap_alloc _ _ _ (by simp)).trans (heap_alloc_new w _);have ah:Hid (((w.alloc (.cells #[.int .i64 0] 3)).alloc (.cells #[.int .i64 0] 41)).heap[w.heap.size+1]?=some (.cells #[.int .i64 0] 41 (0,0))):=by
  show _=_;have:=heap_alloc_new (w.alloc (.cells #[.int .i64 0] 3)) (.cells #[.int .i64 0] 41);simpa using this
 clear ab
 go_enter_defers Tryz.func52,Tryz.ntmps52
 go_wp2_with (first|(go_at_call 35;go_in))
 refine(Aa HC).mono ?_;rintro e w1 ⟨rfl,hC,ad,ae,ai⟩;have f0:=ad.trans (Aa ag);have f1:=ae.trans (Aa ah);have c0:w1.cell? ⟨w.heap.size,0,none⟩=some (.int .i64 0):=cell_of f0 0 _ rfl;have c1:w1.cell? ⟨w.heap.size+1,0,none⟩=some (.int .i64 0):=cell_of f1 0 _ rfl;have z0:w1.frozen? ⟨w.heap.size,0,none⟩=false:=open_list f0;have z1:w1.frozen? ⟨w.heap.size+1,0,none⟩=false:=open_list f1;simp at ai;have m0:w.heap.size<w1.heap.size:=by omega
 have m1:w.heap.size+1<w1.heap.size:=by omega
 have af:=Ac hC;clear ad ae f0 f1 hC hx ac;go_wp2;refine leaves_cons (f:=86) (args:=#[.pointer (some ⟨w.heap.size,0,none⟩),.pointer (some ⟨w.heap.size+1,0,none⟩)]) (by simp) (by simp[go_sem]) ?_;refine(KR w.heap.size (w.heap.size+1) n0 0 [] _ c0 c1 z0 z1 (by omega)).mono ?_;rintro e u' aa ⟨rfl,rfl,f0,f1,fk⟩;simp[Leaves,settle,results,Tryz.results52,go_sem,f0,f1];exact⟨w1,Aa af,fk⟩
theorem O8(w:World)(x cs n cap:Nat)(cl ln uid proc:Int)(X:Value)(hx:w.cell? ⟨x,2,none⟩=some (.slice (some ⟨cs,0,none⟩) n cap))(hc:cl<0\/(n:Int)<=cl):
  Calls Tryz.prog 52 #[ptr x,.int .i64 cl,.int .i64 ln,.int .i64 uid,.int .i64 proc,X] w fun e w'=>e=.returned (.tuple #[.int .i64 0,.int .i64 13])/\Below w.heap.size w w':=by
 have ac:∀(fn:Fn) (first cap:Array Value) (w:World),(Instr.makeFunc fn first cap).run Tryz.prog w=.ok (.func fn first cap) w:=fun _ _ _ _=>rfl
 have ab:=lt_of_cell hx;have HB:Hid (Below w.heap.size w ((w.alloc (.cells #[.int .i64 0] 3)).alloc (.cells #[.int .i64 13] 41))):=((Below.refl _ _).alloc (afI _) _).alloc (by simp) _;by_cases h0:cl<0
 ·have h1:¬0<=cl:=by omega
  clear hc
  go_enter_defers Tryz.func52,Tryz.ntmps52
  go_wp2_with (first|(go_at_call 35;go_in))
  refine leaves_cons (f:=86) (args:=#[.pointer (some ⟨w.heap.size,0,none⟩),.pointer (some ⟨w.heap.size+1,0,none⟩)]) (by simp) (by simp[go_sem]) ?_;refine(Jl _ _ _).mono ?_;rintro e u' aa ⟨rfl,rfl,rfl⟩;simp[Leaves,settle,results,Tryz.results52,go_sem];exact Aa HB
 ·have h1:0<=cl:=by omega
  have h2:¬cl<(n:Int):=by omega
  clear hc
  go_enter_defers Tryz.func52,Tryz.ntmps52
  go_wp2_with (first|(go_at_call 35;go_in))
  refine leaves_cons (f:=86) (args:=#[.pointer (some ⟨w.heap.size,0,none⟩),.pointer (some ⟨w.heap.size+1,0,none⟩)]) (by simp) (by simp[go_sem]) ?_;refine(Jl _ _ _).mono ?_;rintro e u' aa ⟨rfl,rfl,rfl⟩;simp[Leaves,settle,results,Tryz.results52,go_sem];exact Aa HB
theorem LW.SQ(h:LW p F G w){i:Nat}(hi:i<G.Ad.length):w.cell? ⟨p.cs,i,none⟩=some (ptr (p.cb i)):=by
 obtain⟨aa,h1,h2⟩:=h.XH;simp[World.cell?,h1,h2 i hi]
theorem LW.call(h:LW p F G w)(ht:Ec w)(cl ln uid proc:Int)(ad:-9223372036854775808<=uid/\uid<=9223372036854775807){v:List V.It}(hI:V.Items w X v)(hn:v.length<=9000000000000):
  Calls Tryz.prog 52 #[ptr p.x,.int .i64 cl,.int .i64 ln,.int .i64 uid,.int .i64 proc,X] w fun e w'=>e=.returned (.tuple #[.int .i64 (R.Cw G cl ln uid proc v).1.1,.int .i64 (R.Cw G cl ln uid proc v).1.2])/\∃F',LW p F' (R.Cw G cl ln uid proc v).2 w'/\Ap F F' w w':=by
 by_cases ae:cl<0\/(G.Ad.length:Int)<=cl
 ·have e0:R.Cw G cl ln uid proc v=((0,13),G):=by unfold R.Cw;rw[if_pos ae]
  rw[e0];refine(O8 w p.x p.cs G.Ad.length p.cap cl ln uid proc X (cell_of h.bx 2 _ rfl) ae).mono ?_;rintro e w' ⟨rfl,hb⟩;exact⟨rfl,F,h.below hb,Ap.Al F hb⟩
 ·obtain⟨i,rfl⟩:∃i:Nat,cl=(i:Int):=⟨cl.toNat,by omega⟩;have hi:i<G.Ad.length:=by omega
  have hc:=afH hi;have ac:∀w',Below w.heap.size w w'->w'.heap.size=w.heap.size+2->Calls Tryz.prog 88 #[ptr (p.cb i),.int .i64 ln,.int .i64 uid,.int .i64 proc,X] w' fun e aa=>e=JM (R.Cw G i ln uid proc v).1/\(∃wf F',Below w.heap.size w wf/\wf.heap.size=w.heap.size+2/\LW p F' (R.Cw G i ln uid proc v).2 aa/\Ap F F' wf aa)/\aa.heap[w.heap.size]?=w'.heap[w.heap.size]?/\aa.heap[w.heap.size+1]?=w'.heap[w.heap.size+1]?/\w'.heap.size<=aa.heap.size:=fun w' ab hz=>by
   refine((h.below ab).adl (ht.below ab) hc ln uid proc ad (hI.below ab) hn).mono ?_;rintro e aa ⟨rfl,F',q1,q2⟩;refine⟨rfl,⟨w',F',ab,hz,q1,q2⟩,q2.keeps.block _ (by omega) (fun hf=>?_),q2.keeps.block _ (by omega) (fun hf=>?_),q2.keeps.size⟩
   ·have:=h.lt _ hf;omega
   ·have:=h.lt _ hf;omega
  have fin:∀w' w1,(∃wf F',Below w.heap.size w wf/\wf.heap.size=w.heap.size+2/\LW p F' (R.Cw G i ln uid proc v).2 w1/\Ap F F' wf w1)->Af (fun k=>k=w.heap.size\/k=w.heap.size+1) w1 w'->∃F',LW p F' (R.Cw G i ln uid proc v).2 w'/\Ap F F' w w':=by
   rintro w' w1 ⟨wf,F',ab,hz,q1,q2⟩ hK;have af:∀k,F' k->¬(k=w.heap.size\/k=w.heap.size+1):=fun k hf=>by
    rcases q2.fresh k hf with q|q
    ·have:=h.lt k q;omega
    ·omega
   refine⟨F',q1.elsewhere hK af,⟨?_,fun k hf=>?_⟩⟩
   ·exact((Af.Al ab F).trans q2.keeps).andThen hK (fun k ag e=>by omega)
   ·rcases q2.fresh k hf with q|q
    ·exact afJ q
    ·exact afM (by omega)
  by_cases he:(R.Cw G i ln uid proc v).1.2=16\/(R.Cw G i ln uid proc v).1.2=4
  ·have h0:(R.Cw G i ln uid proc v).1.1=0:=by
    rcases R.aam h.wf i ln uid proc v with ⟨n,_,e⟩|⟨_,_,_,_,_,_,_,_,_,_,_,_,_,_,_,e⟩
    ·rw[e]
    ·rw[e]at he;simp at he
   refine(O9 w p.x p.cs G.Ad.length p.cap (p.cb i) i ln uid proc X (R.Cw G i ln uid proc v).1.2.toNat (fun aa=>∃wf F',Below w.heap.size w wf/\wf.heap.size=w.heap.size+2/\LW p F' (R.Cw G i ln uid proc v).2 aa/\Ap F F' wf aa) (cell_of h.bx 2 _ rfl) hi (h.SQ hi) (fun w' ab hz=>(ac w' ab hz).mono ?_)).mono ?_
   ·rintro e aa ⟨rfl,q⟩;unfold JM;rw[if_pos he];exact⟨rfl,q⟩
   ·rintro e w' ⟨rfl,w1,q1,q2⟩;refine⟨?_,fin w' w1 q1 q2⟩;rw[h0];have:(((R.Cw G i ln uid proc v).1.2.toNat:Nat):Int)=(R.Cw G i ln uid proc v).1.2:=by omega
    rw[this]
  ·refine(Vx w p.x p.cs G.Ad.length p.cap (p.cb i) i ln uid proc X (R.Cw G i ln uid proc v).1.1 (R.Cw G i ln uid proc v).1.2 (fun aa=>∃wf F',Below w.heap.size w wf/\wf.heap.size=w.heap.size+2/\LW p F' (R.Cw G i ln uid proc v).2 aa/\Ap F F' wf aa) (cell_of h.bx 2 _ rfl) hi (h.SQ hi) (fun w' ab hz=>(ac w' ab hz).mono ?_)).mono ?_
   ·rintro e aa ⟨rfl,q⟩;unfold JM;rw[if_neg he];exact⟨rfl,q⟩
   ·rintro e w' ⟨rfl,w1,q1,q2⟩;exact⟨rfl,fin w' w1 q1 q2⟩
theorem VC(w:World):Calls Tryz.prog 39 #[.slice none 0 0] w fun e w'=>e=.returned (.slice none 0 0)/\w'=w:=by
 have hq:∀w,(binOp .eql 37 (.slice none 0 0) (.slice none 0 0)).run Tryz.prog w=.ok (.bool true) w:=fun w=>by kernel_rfl
 go_enter Tryz.func39,Tryz.ntmps39;go_wp2;go_returns;exact⟨rfl,rfl⟩
theorem QJ{b off:Nat}:∀(v:List V.It),(∀j x,v[j]?=some x->w.cell? ⟨b,off+j*2,none⟩=some (.int .i64 x.1)/\w.cell? ⟨b,off+j*2+1,none⟩=some (.string x.2))->∀j u,(V.flat v)[j]?=some u->w.cell? ((⟨b,off,none⟩:Addr).add j)=some u:=fun v h j u hj=>by
 have hl:=(afG.1 hj).1;rw[V.FM]at hl;have hx:v[j / 2]?=some v[j / 2]:=afH (by omega);obtain⟨f0,f1⟩:=V.flat_get v (j / 2) _ hx;obtain⟨c0,c1⟩:=h (j / 2) _ hx;rw[Addr.add_lit];rcases Nat.mod_two_eq_zero_or_one j with q|q
 ·have e:j / 2*2=j:=by omega
  rw[e]at f0 c0;rw[hj]at f0;cases f0;exact c0
 ·have e:j / 2*2+1=j:=by omega
  rw[e]at f1;rw[hj]at f1;cases f1;rw[Nat.add_assoc,e]at c1;exact c1
theorem MA(w:World)(b off cap:Nat)(v:List V.It)(hn:v.length<=1000)(h:∀j x,v[j]?=some x->w.cell? ⟨b,off+j*2,none⟩=some (.int .i64 x.1)/\w.cell? ⟨b,off+j*2+1,none⟩=some (.string x.2))(hb:b<w.heap.size):
  Calls Tryz.prog 39 #[.slice (some ⟨b,off,none⟩) v.length cap] w fun e w'=>(∃O,e=.returned O/\V.Row w' w.heap.size O v/\¬O=.slice none 0 0)/\Below w.heap.size w w':=by
 have hq:∀w,(binOp .eql 37 (.slice (some ⟨b,off,none⟩) v.length cap) (.slice none 0 0)).run Tryz.prog w=.ok (.bool false) w:=fun w=>by rfl
 obtain⟨i0,hi,ah,ai,aj⟩:=info_parts V.MR;have hB:Below w.heap.size w (w.alloc (.cells #[] 73)):=(Below.refl _ _).alloc (afI _) _;have ae:Hid (∀j u,(V.flat v)[j]?=some u->(w.alloc (.cells #[] 73)).cell? ((⟨b,off,none⟩:Addr).add j)=some u):=QJ (w:=w.alloc (.cells #[] 73)) v (fun j x hx=>by
  obtain⟨h1,h2⟩:=h j x hx;exact⟨(hB.cell (p:=⟨b,_,none⟩) hb).trans h1,(hB.cell (p:=⟨b,_,none⟩) hb).trans h2⟩)
 have ad:Hid ((w.alloc (.cells #[] 73)).ownsRow w.heap.size 73 2 (.slice (some ⟨w.heap.size,0,none⟩) 0 0) 0 []):=⟨rfl,afM ⟨w.heap.size,0,#[],rfl,afI _,heap_alloc_new w _,afI _,af8 _,rfl,rfl⟩⟩;have af:=V.FM v;have HB:=Ac hB;clear h;go_enter Tryz.func39,Tryz.ntmps39;go_wp2_with (at_builtin;go_must (refine wpList_append_own_at _ rfl (.tmp 5) (.tmp 6) 37 rfl w.heap.size 73 i0 (.agg #[.int .i64 0,.string ⟨#[]⟩]) 2 24 Tryz.underlying37 hi ah ai aj rfl (by decide) (.slice (some ⟨w.heap.size,0,none⟩) 0 0) 0 [] rfl (Aa ad) ⟨b,off,none⟩ v.length cap (V.flat v) rfl af (Aa ae) (V.JX v) (by unfold maxLen;omega) (by omega) (by simp) ?_))
 intro v' wz ab aa ac _;obtain⟨va,vn,vc,ag⟩:=Ar ab;subst ag;have hz:Below w.heap.size w wz:=(Aa HB).grown aa (by simp) (fun k hk=>by cases hk;exact afI _);have HO:=Ac ab;have HN:=Ac ac;clear ab aa ac;go_wp2
 go_ret
 refine⟨⟨_,rfl,?_,fun e=>?_⟩,hz⟩
 ·exact Aa HO
 ·exact(Aa HN) e
theorem Qp{v:List R.It}(h:BF w F X v)(hn:v.length<=1000):Calls Tryz.prog 39 #[X] w fun e w'=>(∃O,e=.returned O/\V.Row w' w.heap.size O v/\(O=.slice none 0 0↔v=[]))/\Below w.heap.size w w':=by
 rcases h with ⟨rfl,rfl⟩|⟨b,off,cap,ab,aa,rfl,_,_,h4,h5⟩
 ·refine(VC w).mono ?_;rintro e w' ⟨rfl,rfl⟩;exact⟨⟨_,rfl,V.PW _ _,by simp⟩,Below.refl _ _⟩
 ·refine(MA w b off cap v hn (fun j x hx=>?_) (afR.1 h4).1).mono ?_
  ·obtain⟨r1,r2⟩:=h5 j x hx;exact⟨by simp[World.cell?,h4,r1],by simp[World.cell?,h4,r2]⟩
  ·rintro e w' ⟨⟨O,rfl,h1,h2⟩,hb⟩;exact⟨⟨O,rfl,h1,fun e=>absurd e h2,fun e=>absurd e aa⟩,hb⟩
theorem aeL:∀args w,(callFunc 39 args).run Tryz.prog w=.ok (.enter 39 args) w:=fun _ _=>rfl
def abS(r:Int×Int×List R.It×Int)(O:Value):Ending:=.returned (.tuple #[.agg #[.int .i64 r.1,.int .i64 r.2.1,O],.int .i64 r.2.2.2])
theorem RN(w:World)(F:Aq)(cb lb nl k:Nat)(x:CU)(v:List R.It)(hv:v.length<=1000)(ag:BF w F x.rv v)(hk:k<nl)(b3:w.cell? ⟨cb,3,none⟩=some (.slice (some ⟨lb,0,none⟩) nl nl))(ha:ab0 w lb k x):
  Calls Tryz.prog 36 #[ptr cb,.int .i64 (k:Int)] w fun e w'=>(∃O,e=.returned (.tuple #[.agg #[.int .i64 x.state,.int .i64 x.seq,O],.int .i64 0])/\V.Row w' w.heap.size O v)/\Below w.heap.size w w':=by
 obtain⟨ra,rn,rc,ah⟩:=EO ag;have am:Hid (∀w',Below w.heap.size w w'->Calls Tryz.prog 39 #[.slice ra rn rc] w' fun e al=>(∃a n c,e=.returned (.slice a n c)/\V.Row al w'.heap.size (.slice a n c) v)/\Below w'.heap.size w' al):=fun w' hb=>by
  have ak:BF w' F (.slice ra rn rc) v:=by
   rw[<-ah];exact ag.keep (Af.Al hb (fun _=>False)) (fun _ _ _ _ h=>h) (fun _ q=>q)
  refine(Qp ak hv).mono ?_;rintro e al ⟨⟨O,rfl,h1,_⟩,h2⟩;obtain⟨a,n,c,rfl⟩:=Ar h1;exact⟨⟨a,n,c,rfl,h1⟩,h2⟩
 obtain⟨st,sq,rv,u,pc,m,ac,cm,wt,tr⟩:=x;obtain⟨a0,a1,a2,a3,a4,a5,a6,a7,a8,a9⟩:=ha;simp only at a0 a1 a2 a3 a4 a5 a6 a7 a8 a9 ah ag;rw[ah]at a2;generalize str m=SM at *;generalize str cm=SC at *;have q1:(0:Int)<=(k:Int):=by omega
 have q2:(k:Int)<(nl:Int):=by omega
 have av:=lt_of_cell b3;have aw:=lt_of_cell a0;simp only;obtain⟨BX,ab⟩:∃BX,(w.alloc (.cells #[.int .i64 0,.int .i64 0,.slice none 0 0] 64)).alloc (.cells #[.int .i64 st,.int .i64 sq,.slice ra rn rc,.int .i64 u,.int .i64 pc,.string SM,.int .i64 ac,.string SC,.int .i64 wt,.int .i64 tr] 129)=BX:=⟨_,rfl⟩;have HB:Hid (Below w.heap.size w BX):=by
  rw[<-ab];exact((Below.refl _ _).alloc (afI _) _).alloc (by simp) _
 have ae:BX.heap[w.heap.size+1]?=some (.cells #[.int .i64 st,.int .i64 sq,.slice ra rn rc,.int .i64 u,.int .i64 pc,.string SM,.int .i64 ac,.string SC,.int .i64 wt,.int .i64 tr] 129 (0,0)):=by
  rw[<-ab,<-World.size_alloc w];exact heap_alloc_new _ _
 have an:BX.heap[w.heap.size]?=some (.cells #[.int .i64 0,.int .i64 0,.slice none 0 0] 64 (0,0)):=by
  rw[<-ab];exact(Below.heap_alloc _ _ _ (by simp)).trans (heap_alloc_new w _)
 have c0:BX.cell? ⟨w.heap.size+1,0,none⟩=some (.int .i64 st):=cell_of ae 0 _ rfl;have c1:BX.cell? ⟨w.heap.size+1,1,none⟩=some (.int .i64 sq):=cell_of ae 1 _ rfl;have c2:BX.cell? ⟨w.heap.size+1,2,none⟩=some (.slice ra rn rc):=cell_of ae 2 _ rfl;have hs:BX.heap.size=w.heap.size+2:=by rw[<-ab];simp
 have ap:=Ac ab;have aq:=Ac an;have HC:=Ac ((Aa am) BX.drew (Aa HB).drew);have ai:Hid (∀(w3:World) (a:Option Addr) (n c:Nat),V.Row w3 BX.drew.heap.size (.slice a n c) v->Below BX.drew.heap.size BX.drew w3->(w3.cell? ⟨w.heap.size,0,none⟩=some (.int .i64 0)/\w3.cell? ⟨w.heap.size,1,none⟩=some (.int .i64 0)/\w3.cell? ⟨w.heap.size,2,none⟩=some (.slice none 0 0)/\(∀j,w3.frozen? ⟨w.heap.size,j,none⟩=false)/\w.heap.size<w3.heap.size/\w3.cell? ⟨w.heap.size+1,0,none⟩=some (.int .i64 st)/\w3.cell? ⟨w.heap.size+1,1,none⟩=some (.int .i64 sq)/\w3.cell? ⟨w.heap.size+1,2,none⟩=some (.slice ra rn rc))/\V.Row (((w3.setCell ⟨w.heap.size,0,none⟩ (.int .i64 st)).setCell ⟨w.heap.size,1,none⟩ (.int .i64 sq)).setCell ⟨w.heap.size,2,none⟩ (.slice a n c)) w.heap.size (.slice a n c) v/\Below w.heap.size w (((w3.setCell ⟨w.heap.size,0,none⟩ (.int .i64 st)).setCell ⟨w.heap.size,1,none⟩ (.int .i64 sq)).setCell ⟨w.heap.size,2,none⟩ (.slice a n c))):=fun w3 a n c aa ad=>by
  have au:BX.drew.heap.size=w.heap.size+2:=hs;have g3:w3.heap[w.heap.size]?=some (.cells #[.int .i64 0,.int .i64 0,.slice none 0 0] 64 (0,0)):=(ad.block _ (by omega)).trans (Aa aq);have g4:=(ad.block (w.heap.size+1) (by omega)).trans (show BX.drew.heap[w.heap.size+1]?=_ from ae);have af:Below w.heap.size w w3:=(Aa HB).drew.trans (ad.mono (by omega));refine⟨⟨cell_of g3 0 _ rfl,cell_of g3 1 _ rfl,cell_of g3 2 _ rfl,fun j=>open_list g3,lt_of_block g3,cell_of g4 0 _ rfl,cell_of g4 1 _ rfl,cell_of g4 2 _ rfl⟩,?_,((af.setCell (by simp) _).setCell (by simp) _).setCell (by simp) _⟩;have ar:Af (fun k=>k=w.heap.size) w3 (((w3.setCell ⟨w.heap.size,0,none⟩ (.int .i64 st)).setCell ⟨w.heap.size,1,none⟩ (.int .i64 sq)).setCell ⟨w.heap.size,2,none⟩ (.slice a n c)):=((Ah _).trans (Ah _)).trans (Ah _);refine V.EU (ar.row aa (fun j hj e=>?_)) (by omega);have:=((World.ownsRow.lt aa) j hj).1;omega
 clear ab ae an am ag ah hs;go_enter Tryz.func36,Tryz.ntmps36;go_wp2_with (first|(go_at_call 64;go_in))
 rw[Aa ap];go_region_held3 (fun w'=>w'.cell? ⟨w.heap.size+1,0,none⟩=some (.int .i64 st)/\w'.cell? ⟨w.heap.size+1,1,none⟩=some (.int .i64 sq)/\w'.cell? ⟨w.heap.size+1,2,none⟩=some (.slice ra rn rc)) (go_keep) ((go_at_call 39;refine(Aa HC).mono ?_;rintro e w3 ⟨⟨oa,on,oc,rfl,aa⟩,ad⟩;have aj:=(Aa ai) w3 oa on oc aa ad;obtain⟨⟨d0,d1,d2,zz,m0,x0,x1,x2⟩,hr,af⟩:=aj;have HR:=Ac hr;have ao:=Ac af;clear aa ad hr af))
 all_goals
  go_wp2;exact bodyPost_ret (v:=.tuple #[.agg #[.int .i64 st,.int .i64 sq,.slice oa on oc],.int .i64 0]) (by simp[results,Tryz.results36,go_sem,d0,d1,d2]) rfl ⟨⟨_,rfl,Aa HR⟩,Aa ao⟩
theorem NB(w:World)(cb lb nl:Nat)(ln:Int)(hk:ln<0\/(nl:Int)<=ln)(b3:w.cell? ⟨cb,3,none⟩=some (.slice (some ⟨lb,0,none⟩) nl nl)):
  Calls Tryz.prog 36 #[ptr cb,.int .i64 ln] w fun e w'=>e=.returned (.tuple #[.agg #[.int .i64 0,.int .i64 0,.slice none 0 0],.int .i64 14])/\Below w.heap.size w w':=by
 have HB:Hid (Below w.heap.size w (w.alloc (.cells #[.int .i64 0,.int .i64 0,.slice none 0 0] 64))):=(Below.refl _ _).alloc (afI _) _;have hl:=lt_of_cell b3;by_cases h0:ln<0
 ·have h1:¬0<=ln:=by omega
  clear hk;go_enter Tryz.func36,Tryz.ntmps36;go_wp2_with (first|(go_at_call 64;go_in))
  exact bodyPost_ret (v:=.tuple #[.agg #[.int .i64 0,.int .i64 0,.slice none 0 0],.int .i64 14]) (by simp[results,Tryz.results36,go_sem]) rfl ⟨rfl,Aa HB⟩
 ·have h1:0<=ln:=by omega
  have h2:¬ln<(nl:Int):=by omega
  clear hk;go_enter Tryz.func36,Tryz.ntmps36;go_wp2_with (first|(go_at_call 64;go_in))
  exact bodyPost_ret (v:=.tuple #[.agg #[.int .i64 0,.int .i64 0,.slice none 0 0],.int .i64 14]) (by simp[results,Tryz.results36,go_sem]) rfl ⟨rfl,Aa HB⟩
theorem NA(w:World)(x cs n cap:Nat)(cl ln:Int)(hx:w.cell? ⟨x,2,none⟩=some (.slice (some ⟨cs,0,none⟩) n cap))(hc:cl<0\/(n:Int)<=cl):
  Calls Tryz.prog 19 #[ptr x,.int .i64 cl,.int .i64 ln] w fun e w'=>e=.returned (.tuple #[.agg #[.int .i64 0,.int .i64 0,.slice none 0 0],.int .i64 13])/\Below w.heap.size w w':=by
 have HB:Hid (Below w.heap.size w (w.alloc (.cells #[.int .i64 0,.int .i64 0,.slice none 0 0] 64))):=(Below.refl _ _).alloc (afI _) _;have hl:=lt_of_cell hx;by_cases h0:cl<0
 ·have h1:¬0<=cl:=by omega
  clear hc;go_enter Tryz.func19,Tryz.ntmps19;go_wp2_with (first|(go_at_call 35;go_in))
  exact bodyPost_ret (v:=.tuple #[.agg #[.int .i64 0,.int .i64 0,.slice none 0 0],.int .i64 13]) (by simp[results,Tryz.results19,go_sem]) rfl ⟨rfl,Aa HB⟩
 ·have h1:0<=cl:=by omega
  have h2:¬cl<(n:Int):=by omega
  clear hc;go_enter Tryz.func19,Tryz.ntmps19;go_wp2_with (first|(go_at_call 35;go_in))
  exact bodyPost_ret (v:=.tuple #[.agg #[.int .i64 0,.int .i64 0,.slice none 0 0],.int .i64 13]) (by simp[results,Tryz.results19,go_sem]) rfl ⟨rfl,Aa HB⟩
theorem Lw(w:World)(x cs n cap cb i:Nat)(ln st sq er:Int)(v:List R.It)(hx:w.cell? ⟨x,2,none⟩=some (.slice (some ⟨cs,0,none⟩) n cap))(hi:i<n)(ae:w.cell? ⟨cs,i,none⟩=some (ptr cb))
  (ac:Hid (∀w',Below w.heap.size w w'->Calls Tryz.prog 36 #[ptr cb,.int .i64 ln] w' fun e ad=>(∃O,e=.returned (.tuple #[.agg #[.int .i64 st,.int .i64 sq,O],.int .i64 er])/\V.Row ad w'.heap.size O v)/\Below w'.heap.size w' ad)):
  Calls Tryz.prog 19 #[ptr x,.int .i64 (i:Int),.int .i64 ln] w fun e w'=>(∃O,e=.returned (.tuple #[.agg #[.int .i64 st,.int .i64 sq,O],.int .i64 er])/\V.Row w' w.heap.size O v)/\Below w.heap.size w w':=by
 have q1:(0:Int)<=(i:Int):=by omega
 have q2:(i:Int)<(n:Int):=by omega
 have ag:=lt_of_cell hx;have ah:=lt_of_cell ae;have HB:Hid (Below w.heap.size w (w.alloc (.cells #[.int .i64 0,.int .i64 0,.slice none 0 0] 64))):=(Below.refl _ _).alloc (afI _) _;have HC:=Ac ((Aa ac) _ (Aa HB));clear ac;go_enter Tryz.func19,Tryz.ntmps19;go_wp2_with (first|(go_at_call 35;go_in))
 refine(Aa HC).mono ?_;rintro e w1 ⟨⟨O,rfl,aa⟩,hb⟩;obtain⟨oa,on,oc,hO⟩:=Ar aa;subst hO;have hs:=hb.size;simp at hs;have ab:w1.heap[w.heap.size]?=some (.cells #[.int .i64 0,.int .i64 0,.slice none 0 0] 64 (0,0)):=(hb.block _ (by simp)).trans (heap_alloc_new w _);have d0:w1.cell? ⟨w.heap.size,0,none⟩=some (.int .i64 0):=cell_of ab 0 _ rfl;have d1:w1.cell? ⟨w.heap.size,1,none⟩=some (.int .i64 0):=cell_of ab 1 _ rfl;have d2:w1.cell? ⟨w.heap.size,2,none⟩=some (.slice none 0 0):=cell_of ab 2 _ rfl;have z0:w1.frozen? ⟨w.heap.size,0,none⟩=false:=open_list ab;have z1:w1.frozen? ⟨w.heap.size,1,none⟩=false:=open_list ab;have z2:w1.frozen? ⟨w.heap.size,2,none⟩=false:=open_list ab;have HW:=Ac (((((Aa HB).trans (hb.mono (by simp))).setCell (p:=⟨w.heap.size,0,none⟩) (by simp) (.int .i64 st)).setCell (p:=⟨w.heap.size,1,none⟩) (by simp) (.int .i64 sq)).setCell (p:=⟨w.heap.size,2,none⟩) (by simp) (.slice oa on oc));have HR:Hid (V.Row (((w1.setCell ⟨w.heap.size,0,none⟩ (.int .i64 st)).setCell ⟨w.heap.size,1,none⟩ (.int .i64 sq)).setCell ⟨w.heap.size,2,none⟩ (.slice oa on oc)) w.heap.size (.slice oa on oc) v):=by
  have af:Af (fun k=>k=w.heap.size) w1 (((w1.setCell ⟨w.heap.size,0,none⟩ (.int .i64 st)).setCell ⟨w.heap.size,1,none⟩ (.int .i64 sq)).setCell ⟨w.heap.size,2,none⟩ (.slice oa on oc)):=((Ah _).trans (Ah _)).trans (Ah _);refine V.EU (af.row aa (fun j hj e=>?_)) (by simp);have:=((World.ownsRow.lt aa) j hj).1;simp at this;omega
 clear hb ab aa;have m0:w.heap.size<w1.heap.size:=by omega
 go_wp2;exact bodyPost_ret (v:=.tuple #[.agg #[.int .i64 st,.int .i64 sq,.slice oa on oc],.int .i64 er]) (by simp[results,Tryz.results19,go_sem,d0,d1,d2]) rfl ⟨⟨_,rfl,Aa HR⟩,Aa HW⟩
theorem LW.status(h:LW p F G w)(aa:∀(i:Nat) (c:R.Cl) (k:Nat) (l:R.Ln),G.Ad[i]?=some c->c.lines[k]?=some l->l.result.length<=1000)(cl ln:Int):
  Calls Tryz.prog 19 #[ptr p.x,.int .i64 cl,.int .i64 ln] w fun e w'=>(∃O,e=abS (R.Kg G cl ln) O/\V.Row w' w.heap.size O (R.Kg G cl ln).2.2.1)/\Below w.heap.size w w':=by
 unfold abS R.Kg;by_cases h1:cl<0\/(G.Ad.length:Int)<=cl
 ·rw[if_pos h1];refine(NA w p.x p.cs G.Ad.length p.cap cl ln (cell_of h.bx 2 _ rfl) h1).mono ?_;rintro e w' ⟨rfl,hb⟩;exact⟨⟨_,rfl,V.PW _ _⟩,hb⟩
 ·rw[if_neg h1];obtain⟨i,rfl⟩:∃i:Nat,cl=(i:Int):=⟨cl.toNat,by omega⟩;have hi:i<G.Ad.length:=by omega
  have hc:=afH hi;have af:=(h.wf.cl i _ hc).lines;by_cases h2:ln<0\/G.c.lines<=ln
  ·rw[if_pos h2];refine(Lw w p.x p.cs G.Ad.length p.cap (p.cb i) i ln 0 0 14 [] (cell_of h.bx 2 _ rfl) hi (h.SQ hi) ?_);intro w' hb;refine(NB w' (p.cb i) (p.lb i) _ ln (by omega) (Ic (h.below hb) hc).a3).mono ?_;rintro e ag ⟨rfl,ac⟩;exact⟨⟨_,rfl,V.PW _ _⟩,ac⟩
  ·rw[if_neg h2];obtain⟨k,rfl⟩:∃k:Nat,ln=(k:Int):=⟨ln.toNat,by omega⟩;have hk:k<G.Ad[i].lines.length:=by omega
   have hl:=afH hk;rw[R.CR hc hl];refine Lw w p.x p.cs G.Ad.length p.cap (p.cb i) i k _ _ 0 _ (cell_of h.bx 2 _ rfl) hi (h.SQ hi) ?_;intro w' hb;have h':=h.below hb;obtain⟨xs,x,hL,hR,hx,ab,ae,_,ad⟩:=h'.line hc hl;have:=RN w' F (p.cb i) (p.lb i) _ k x _ (aa i _ k _ hc hl) ad hk (Ic h' hc).a3 ae;rw[ab.state,ab.seq]at this;exact this
end Go.Proofs.YtblomippkddgiabGreatDoor
