import Derived.Test.YtblomippkddgiaaGreatDoorJ26
set_option maxRecDepth 100000
set_option maxHeartbeats 1000000
namespace Go.Proofs.YtblomippkddgiaaGreatDoor
open Go.RowKit
theorem Gi(p0 p1:Addr)(w:World):
  CallsD Tryz.prog 63 #[.pointer (some p0),.pointer (some p1)] .returning w fun e u' w'=>e=.returned (.tuple #[])/\u'=.returning/\w'=w:=by
 refine callsD_of_wpS Tryz.func63 rfl fun c₀ cs hu=>?_
 apply wpS_seq;apply wpS_region;simp[wpOpsS,go_sem,recoverD,hu,Tryz.ntmps63,Exit.thenS];rw[show (#[Value.pointer (some p0),Value.pointer (some p1)]++((Array.replicate 7 undef).setIfInBounds 1 (Value.nilIface)).setIfInBounds 0 (Value.nilIface))=#[.pointer (some p0),.pointer (some p1),.nilIface,.nilIface,undef,undef,undef,undef,undef] from rfl];refine wpS_of_wp ?_;go_wp2;exact⟨rfl,.returning,by cases c₀;simp_all,_,results_none rfl _ _ _,rfl,rfl,rfl⟩
theorem Hw(a0 a1:Nat)(n q:Nat)(older:List PanicEntry)(w:World)(h0:w.cell? ⟨a0,0,none⟩=some (.int .i64 0))(h1:w.cell? ⟨a1,0,none⟩=some (.int .i64 0))(z0:w.frozen? ⟨a0,0,none⟩=false)(z1:w.frozen? ⟨a1,0,none⟩=false)(hne:¬a0=a1):
  CallsD Tryz.prog 63 #[.pointer (some ⟨a0,0,none⟩),.pointer (some ⟨a1,0,none⟩)] (.panicking ({v:=.iface 86 (Cp n q),recovered:=false} :: older)) w fun e u' w'=>
   e=.returned (.tuple #[])/\u'=.panicking ({v:=.iface 86 (Cp n q),recovered:=true} :: older)/\w'.cell? ⟨a0,0,none⟩=some (.int .i64 0)/\w'.cell? ⟨a1,0,none⟩=some (.int .i64 n)/\Ae (fun k=>k=a0\/k=a1) w w':=by
 refine callsD_of_wpS Tryz.func63 rfl fun c₀ cs hu=>?_
 apply wpS_seq;apply wpS_region;simp[wpOpsS,go_sem,recoverD,hu,Tryz.ntmps63,Exit.thenS];rw[show (#[Value.pointer (some {block:=a0,off:=0}),Value.pointer (some {block:=a1,off:=0})]++((Array.replicate 7 undef).setIfInBounds 1 (Value.iface 86 (Cp n q))).setIfInBounds 0 (Value.iface 86 (Cp n q)))=#[.pointer (some {block:=a0,off:=0}),.pointer (some {block:=a1,off:=0}),.iface 86 (Cp n q),.iface 86 (Cp n q),undef,undef,undef,undef,undef] from rfl];refine wpS_of_wp ?_;have hfl:=V.L8 n q;have l0:=lt_of_cell h0;have l1:=lt_of_cell h1;go_wp2_with fail
 refine(V.ND n q _).mono ?_;rintro e w1 ⟨rfl,hb⟩;have s1:=hb.size;have g0:w1.cell? ⟨a0,0,none⟩=some (.int .i64 0):=(hb.cell (p:=⟨a0,0,none⟩) l0).trans h0;have g1:w1.cell? ⟨a1,0,none⟩=some (.int .i64 0):=(hb.cell (p:=⟨a1,0,none⟩) l1).trans h1;have y0:w1.frozen? ⟨a0,0,none⟩=false:=(hb.frozen (p:=⟨a0,0,none⟩) l0).trans z0;have y1:w1.frozen? ⟨a1,0,none⟩=false:=(hb.frozen (p:=⟨a1,0,none⟩) l1).trans z1;have m0:a0<w1.heap.size:=by omega
 have m1:a1<w1.heap.size:=by omega
 have e2:¬a1=a0:=by omega
 have HK:=Ab (Ae.Aq hb (fun k=>k=a0\/k=a1));clear h0 h1 z0 z1 hb;go_wp2;have F0:((w1.setCell {block:=a0,off:=0} (.int .i64 0)).setCell {block:=a1,off:=0} (Value.int IntKind.i64 ↑n)).cell? ⟨a0,0,none⟩=some (.int .i64 0):=by simp[go_sem,g0]
 have F1:((w1.setCell {block:=a0,off:=0} (.int .i64 0)).setCell {block:=a1,off:=0} (Value.int IntKind.i64 ↑n)).cell? ⟨a1,0,none⟩=some (.int .i64 n):=by simp[go_sem,g1]
 have FB:Ae (fun k=>k=a0\/k=a1) w ((w1.setCell {block:=a0,off:=0} (.int .i64 0)).setCell {block:=a1,off:=0} (Value.int IntKind.i64 ↑n)):=
  ((Aa HK).setCell (p:=⟨a0,0,none⟩) (Or.inl (Or.inl rfl)) _).setCell (p:=⟨a1,0,none⟩) (Or.inl (Or.inr rfl)) _
 show bodyPostS Tryz.prog Tryz.f63 c₀ cs _ _ _ _ _;exact⟨rfl,_,rfl,_,results_none rfl _ _ _,rfl,rfl,F0,F1,FB⟩
theorem QN(w:World)(x cs n cap cb i:Nat)(ln uid proc:Int)(X:Value)(sq er:Int)(C:World->Prop)(hx:w.cell? ⟨x,2,none⟩=some (.slice (some ⟨cs,0,none⟩) n cap))(hi:i<n)(hcs:w.cell? ⟨cs,i,none⟩=some (ptr cb))
  (H41:Hid (∀w',Below w.heap.size w w'->w'.heap.size=w.heap.size+2->Calls Tryz.prog 64 #[ptr cb,.int .i64 ln,.int .i64 uid,.int .i64 proc,X] w' fun e w''=>e=.returned (.tuple #[.int .i64 sq,.int .i64 er])/\C w''/\w''.heap[w.heap.size]?=w'.heap[w.heap.size]?/\w''.heap[w.heap.size+1]?=w'.heap[w.heap.size+1]?/\w'.heap.size<=w''.heap.size)):
  Calls Tryz.prog 31 #[ptr x,.int .i64 (i:Int),.int .i64 ln,.int .i64 uid,.int .i64 proc,X] w fun e w'=>e=.returned (.tuple #[.int .i64 sq,.int .i64 er])/\∃w1,C w1/\Ae (fun k=>k=w.heap.size\/k=w.heap.size+1) w1 w':=by
 have hmf:∀(fn:Fn) (first cap:Array Value) (w:World),(Instr.makeFunc fn first cap).run Tryz.prog w=.ok (.func fn first cap) w:=fun _ _ _ _=>rfl
 have q1:(0:Int)<=(i:Int):=by omega
 have q2:(i:Int)<(n:Int):=by omega
 have hl1:=lt_of_cell hx;have hl2:=lt_of_cell hcs;have HB:Hid (Below w.heap.size w ((w.alloc (.cells #[.int .i64 0] 3)).alloc (.cells #[.int .i64 0] 32))):=((Below.refl _ _).alloc (Nat.le_refl _) _).alloc (by simp) _;have HC:=Ab ((Aa H41) _ (Aa HB) (by simp));have HE0:Hid (((w.alloc (.cells #[.int .i64 0] 3)).alloc (.cells #[.int .i64 0] 32)).heap[w.heap.size]?=some (.cells #[.int .i64 0] 3 (0,0))):=(Below.heap_alloc _ _ _ (by simp)).trans (heap_alloc_new w _);have HE1:Hid (((w.alloc (.cells #[.int .i64 0] 3)).alloc (.cells #[.int .i64 0] 32)).heap[w.heap.size+1]?=some (.cells #[.int .i64 0] 32 (0,0))):=by
  show _=_;have:=heap_alloc_new (w.alloc (.cells #[.int .i64 0] 3)) (.cells #[.int .i64 0] 32);simpa using this
 clear H41
 go_enter_defers Tryz.func31,Tryz.ntmps31
 go_wp2_with (first|(go_at_call 38;go_in))
 refine(Aa HC).mono ?_;rintro e w1 ⟨rfl,hC,hk0,hk1,hsz⟩;have f0:=hk0.trans (Aa HE0);have f1:=hk1.trans (Aa HE1);have c0:w1.cell? ⟨w.heap.size,0,none⟩=some (.int .i64 0):=cell_of f0 0 _ rfl;have c1:w1.cell? ⟨w.heap.size+1,0,none⟩=some (.int .i64 0):=cell_of f1 0 _ rfl;have z0:w1.frozen? ⟨w.heap.size,0,none⟩=false:=open_list f0;have z1:w1.frozen? ⟨w.heap.size+1,0,none⟩=false:=open_list f1;simp at hsz;have m0:w.heap.size<w1.heap.size:=by omega
 have m1:w.heap.size+1<w1.heap.size:=by omega
 have HC1:=Ab hC;clear hk0 hk1 f0 f1 hC hx hcs;go_wp2;refine leaves_cons (f:=63) (args:=#[.pointer (some ⟨w.heap.size,0,none⟩),.pointer (some ⟨w.heap.size+1,0,none⟩)]) (by simp) (by simp[go_sem]) ?_;refine(Gi _ _ _).mono ?_;rintro e u' w'' ⟨rfl,rfl,rfl⟩;simp[Leaves,settle,results,Tryz.results31,go_sem,c0,c1];exact⟨w1,Aa HC1,((Ae.refl _ w1).setCell (p:=⟨w.heap.size,0,none⟩) (Or.inl (Or.inl rfl)) _).setCell (p:=⟨w.heap.size+1,0,none⟩) (Or.inl (Or.inr rfl)) _⟩
theorem KJ(w:World)(x cs n cap cb i:Nat)(ln uid proc:Int)(X:Value)(n0:Nat)(C:World->Prop)(hx:w.cell? ⟨x,2,none⟩=some (.slice (some ⟨cs,0,none⟩) n cap))(hi:i<n)(hcs:w.cell? ⟨cs,i,none⟩=some (ptr cb))
  (H41:Hid (∀w',Below w.heap.size w w'->w'.heap.size=w.heap.size+2->Calls Tryz.prog 64 #[ptr cb,.int .i64 ln,.int .i64 uid,.int .i64 proc,X] w' fun e w''=>e=A5 n0 0/\C w''/\w''.heap[w.heap.size]?=w'.heap[w.heap.size]?/\w''.heap[w.heap.size+1]?=w'.heap[w.heap.size+1]?/\w'.heap.size<=w''.heap.size)):
  Calls Tryz.prog 31 #[ptr x,.int .i64 (i:Int),.int .i64 ln,.int .i64 uid,.int .i64 proc,X] w fun e w'=>e=.returned (.tuple #[.int .i64 0,.int .i64 n0])/\∃w1,C w1/\Ae (fun k=>k=w.heap.size\/k=w.heap.size+1) w1 w':=by
 have hmf:∀(fn:Fn) (first cap:Array Value) (w:World),(Instr.makeFunc fn first cap).run Tryz.prog w=.ok (.func fn first cap) w:=fun _ _ _ _=>rfl
 have q1:(0:Int)<=(i:Int):=by omega
 have q2:(i:Int)<(n:Int):=by omega
 have hl1:=lt_of_cell hx;have hl2:=lt_of_cell hcs;have HB:Hid (Below w.heap.size w ((w.alloc (.cells #[.int .i64 0] 3)).alloc (.cells #[.int .i64 0] 32))):=((Below.refl _ _).alloc (Nat.le_refl _) _).alloc (by simp) _;have HC:=Ab ((Aa H41) _ (Aa HB) (by simp));have HE0:Hid (((w.alloc (.cells #[.int .i64 0] 3)).alloc (.cells #[.int .i64 0] 32)).heap[w.heap.size]?=some (.cells #[.int .i64 0] 3 (0,0))):=(Below.heap_alloc _ _ _ (by simp)).trans (heap_alloc_new w _);have HE1:Hid (((w.alloc (.cells #[.int .i64 0] 3)).alloc (.cells #[.int .i64 0] 32)).heap[w.heap.size+1]?=some (.cells #[.int .i64 0] 32 (0,0))):=by
  show _=_;have:=heap_alloc_new (w.alloc (.cells #[.int .i64 0] 3)) (.cells #[.int .i64 0] 32);simpa using this
 clear H41
 go_enter_defers Tryz.func31,Tryz.ntmps31
 go_wp2_with (first|(go_at_call 38;go_in))
 refine(Aa HC).mono ?_;rintro e w1 ⟨rfl,hC,hk0,hk1,hsz⟩;have f0:=hk0.trans (Aa HE0);have f1:=hk1.trans (Aa HE1);have c0:w1.cell? ⟨w.heap.size,0,none⟩=some (.int .i64 0):=cell_of f0 0 _ rfl;have c1:w1.cell? ⟨w.heap.size+1,0,none⟩=some (.int .i64 0):=cell_of f1 0 _ rfl;have z0:w1.frozen? ⟨w.heap.size,0,none⟩=false:=open_list f0;have z1:w1.frozen? ⟨w.heap.size+1,0,none⟩=false:=open_list f1;simp at hsz;have m0:w.heap.size<w1.heap.size:=by omega
 have m1:w.heap.size+1<w1.heap.size:=by omega
 have HC1:=Ab hC;clear hk0 hk1 f0 f1 hC hx hcs;go_wp2;refine leaves_cons (f:=63) (args:=#[.pointer (some ⟨w.heap.size,0,none⟩),.pointer (some ⟨w.heap.size+1,0,none⟩)]) (by simp) (by simp[go_sem]) ?_;refine(Hw w.heap.size (w.heap.size+1) n0 0 [] _ c0 c1 z0 z1 (by omega)).mono ?_;rintro e u' w'' ⟨rfl,rfl,f0,f1,fk⟩;simp[Leaves,settle,results,Tryz.results31,go_sem,f0,f1];exact⟨w1,Aa HC1,fk⟩
theorem KI(w:World)(x cs n cap:Nat)(cl ln uid proc:Int)(X:Value)(hx:w.cell? ⟨x,2,none⟩=some (.slice (some ⟨cs,0,none⟩) n cap))(hc:cl<0\/(n:Int)<=cl):
  Calls Tryz.prog 31 #[ptr x,.int .i64 cl,.int .i64 ln,.int .i64 uid,.int .i64 proc,X] w fun e w'=>e=.returned (.tuple #[.int .i64 0,.int .i64 13])/\Below w.heap.size w w':=by
 have hmf:∀(fn:Fn) (first cap:Array Value) (w:World),(Instr.makeFunc fn first cap).run Tryz.prog w=.ok (.func fn first cap) w:=fun _ _ _ _=>rfl
 have hl1:=lt_of_cell hx;have HB:Hid (Below w.heap.size w ((w.alloc (.cells #[.int .i64 0] 3)).alloc (.cells #[.int .i64 13] 32))):=((Below.refl _ _).alloc (Nat.le_refl _) _).alloc (by simp) _;by_cases h0:cl<0
 ·have h1:¬0<=cl:=by omega
  clear hc
  go_enter_defers Tryz.func31,Tryz.ntmps31
  go_wp2_with (first|(go_at_call 38;go_in))
  refine leaves_cons (f:=63) (args:=#[.pointer (some ⟨w.heap.size,0,none⟩),.pointer (some ⟨w.heap.size+1,0,none⟩)]) (by simp) (by simp[go_sem]) ?_;refine(Gi _ _ _).mono ?_;rintro e u' w'' ⟨rfl,rfl,rfl⟩;simp[Leaves,settle,results,Tryz.results31,go_sem];exact Aa HB
 ·have h1:0<=cl:=by omega
  have h2:¬cl<(n:Int):=by omega
  clear hc
  go_enter_defers Tryz.func31,Tryz.ntmps31
  go_wp2_with (first|(go_at_call 38;go_in))
  refine leaves_cons (f:=63) (args:=#[.pointer (some ⟨w.heap.size,0,none⟩),.pointer (some ⟨w.heap.size+1,0,none⟩)]) (by simp) (by simp[go_sem]) ?_;refine(Gi _ _ _).mono ?_;rintro e u' w'' ⟨rfl,rfl,rfl⟩;simp[Leaves,settle,results,Tryz.results31,go_sem];exact Aa HB
theorem LW.TH{p:Pl}{F:Ag}{G:R.Wd}{w:World}(h:LW p F G w){i:Nat}(hi:i<G.Ad.length):w.cell? ⟨p.cs,i,none⟩=some (ptr (p.cb i)):=by
 obtain⟨cur,h1,h2⟩:=h.VY;simp[World.cell?,h1,h2 i hi]
theorem LW.call{p:Pl}{F:Ag}{G:R.Wd}{w:World}(h:LW p F G w)(ht:Fu w)(cl ln uid proc:Int)(hu64:-9223372036854775808<=uid/\uid<=9223372036854775807){X:Value}{v:List V.It}(hI:V.Items w X v)(hn:v.length<=9000000000000):
  Calls Tryz.prog 31 #[ptr p.x,.int .i64 cl,.int .i64 ln,.int .i64 uid,.int .i64 proc,X] w fun e w'=>e=.returned (.tuple #[.int .i64 (R.Bf G cl ln uid proc v).1.1,.int .i64 (R.Bf G cl ln uid proc v).1.2])/\∃F',LW p F' (R.Bf G cl ln uid proc v).2 w'/\Ah F F' w w':=by
 by_cases hcl:cl<0\/(G.Ad.length:Int)<=cl
 ·have e0:R.Bf G cl ln uid proc v=((0,13),G):=by unfold R.Bf;rw[if_pos hcl]
  rw[e0];refine(KI w p.x p.cs G.Ad.length p.cap cl ln uid proc X (cell_of h.bx 2 _ rfl) hcl).mono ?_;rintro e w' ⟨rfl,hb⟩;exact⟨rfl,F,h.below hb,Ah.Aq F hb⟩
 ·obtain⟨i,rfl⟩:∃i:Nat,cl=(i:Int):=⟨cl.toNat,by omega⟩;have hi:i<G.Ad.length:=by omega
  have hc:=List.getElem?_eq_getElem hi;have inner:∀w',Below w.heap.size w w'->w'.heap.size=w.heap.size+2->Calls Tryz.prog 64 #[ptr (p.cb i),.int .i64 ln,.int .i64 uid,.int .i64 proc,X] w' fun e w''=>e=Gu (R.Bf G i ln uid proc v).1/\(∃wf F',Below w.heap.size w wf/\wf.heap.size=w.heap.size+2/\LW p F' (R.Bf G i ln uid proc v).2 w''/\Ah F F' wf w'')/\w''.heap[w.heap.size]?=w'.heap[w.heap.size]?/\w''.heap[w.heap.size+1]?=w'.heap[w.heap.size+1]?/\w'.heap.size<=w''.heap.size:=fun w' hb' hz=>by
   refine((h.below hb').Zk (ht.below hb') hc ln uid proc hu64 (hI.below hb') hn).mono ?_;rintro e w'' ⟨rfl,F',q1,q2⟩;refine⟨rfl,⟨w',F',hb',hz,q1,q2⟩,q2.keeps.block _ (by omega) (fun hf=>?_),q2.keeps.block _ (by omega) (fun hf=>?_),q2.keeps.size⟩
   ·have:=h.lt _ hf;omega
   ·have:=h.lt _ hf;omega
  have fin:∀w' w1,(∃wf F',Below w.heap.size w wf/\wf.heap.size=w.heap.size+2/\LW p F' (R.Bf G i ln uid proc v).2 w1/\Ah F F' wf w1)->Ae (fun k=>k=w.heap.size\/k=w.heap.size+1) w1 w'->∃F',LW p F' (R.Bf G i ln uid proc v).2 w'/\Ah F F' w w':=by
   rintro w' w1 ⟨wf,F',hb',hz,q1,q2⟩ hK;have hF':∀k,F' k->¬(k=w.heap.size\/k=w.heap.size+1):=fun k hf=>by
    rcases q2.fresh k hf with q|q
    ·have:=h.lt k q;omega
    ·omega
   refine⟨F',q1.elsewhere hK hF',⟨?_,fun k hf=>?_⟩⟩
   ·exact((Ae.Aq hb' F).trans q2.keeps).andThen hK (fun k hk' e=>by omega)
   ·rcases q2.fresh k hf with q|q
    ·exact Or.inl q
    ·exact Or.inr (by omega)
  by_cases he:(R.Bf G i ln uid proc v).1.2=16\/(R.Bf G i ln uid proc v).1.2=4
  ·have h0:(R.Bf G i ln uid proc v).1.1=0:=by
    rcases R.V5 h.wf i ln uid proc v with ⟨n,_,e⟩|⟨_,_,_,_,_,_,_,_,_,_,_,_,_,_,_,e⟩
    ·rw[e]
    ·rw[e]at he;simp at he
   refine(KJ w p.x p.cs G.Ad.length p.cap (p.cb i) i ln uid proc X (R.Bf G i ln uid proc v).1.2.toNat (fun w''=>∃wf F',Below w.heap.size w wf/\wf.heap.size=w.heap.size+2/\LW p F' (R.Bf G i ln uid proc v).2 w''/\Ah F F' wf w'') (cell_of h.bx 2 _ rfl) hi (h.TH hi) (fun w' hb' hz=>(inner w' hb' hz).mono ?_)).mono ?_
   ·rintro e w'' ⟨rfl,q⟩;unfold Gu;rw[if_pos he];exact⟨rfl,q⟩
   ·rintro e w' ⟨rfl,w1,q1,q2⟩;refine⟨?_,fin w' w1 q1 q2⟩;rw[h0];have:(((R.Bf G i ln uid proc v).1.2.toNat:Nat):Int)=(R.Bf G i ln uid proc v).1.2:=by omega
    rw[this]
  ·refine(QN w p.x p.cs G.Ad.length p.cap (p.cb i) i ln uid proc X (R.Bf G i ln uid proc v).1.1 (R.Bf G i ln uid proc v).1.2 (fun w''=>∃wf F',Below w.heap.size w wf/\wf.heap.size=w.heap.size+2/\LW p F' (R.Bf G i ln uid proc v).2 w''/\Ah F F' wf w'') (cell_of h.bx 2 _ rfl) hi (h.TH hi) (fun w' hb' hz=>(inner w' hb' hz).mono ?_)).mono ?_
   ·rintro e w'' ⟨rfl,q⟩;unfold Gu;rw[if_neg he];exact⟨rfl,q⟩
   ·rintro e w' ⟨rfl,w1,q1,q2⟩;exact⟨rfl,fin w' w1 q1 q2⟩
theorem QS(w:World):Calls Tryz.prog 74 #[.slice none 0 0] w fun e w'=>e=.returned (.slice none 0 0)/\w'=w:=by
 have hq:∀w,(binOp .eql 44 (.slice none 0 0) (.slice none 0 0)).run Tryz.prog w=.ok (.bool true) w:=fun w=>by kernel_rfl
 go_enter Tryz.func74,Tryz.ntmps74;go_wp2;go_returns;exact⟨rfl,rfl⟩
theorem T7{w:World}{b off:Nat}:∀(v:List V.It),(∀j x,v[j]?=some x->w.cell? ⟨b,off+j*2,none⟩=some (.int .i64 x.1)/\w.cell? ⟨b,off+j*2+1,none⟩=some (.string x.2))->∀j u,(V.flat v)[j]?=some u->w.cell? ((⟨b,off,none⟩:Addr).add j)=some u:=fun v h j u hj=>by
 have hl:=(List.getElem?_eq_some_iff.1 hj).1;rw[V.Cm]at hl;have hx:v[j / 2]?=some v[j / 2]:=List.getElem?_eq_getElem (by omega);obtain⟨f0,f1⟩:=V.flat_get v (j / 2) _ hx;obtain⟨c0,c1⟩:=h (j / 2) _ hx;rw[Addr.add_lit];rcases Nat.mod_two_eq_zero_or_one j with q|q
 ·have e:j / 2*2=j:=by omega
  rw[e]at f0 c0;rw[hj]at f0;cases f0;exact c0
 ·have e:j / 2*2+1=j:=by omega
  rw[e]at f1;rw[hj]at f1;cases f1;rw[Nat.add_assoc,e]at c1;exact c1
theorem NH(w:World)(b off cap:Nat)(v:List V.It)(hn:v.length<=1000)(h:∀j x,v[j]?=some x->w.cell? ⟨b,off+j*2,none⟩=some (.int .i64 x.1)/\w.cell? ⟨b,off+j*2+1,none⟩=some (.string x.2))(hb:b<w.heap.size):
  Calls Tryz.prog 74 #[.slice (some ⟨b,off,none⟩) v.length cap] w fun e w'=>(∃O,e=.returned O/\V.Row w' w.heap.size O v/\¬O=.slice none 0 0)/\Below w.heap.size w w':=by
 have hq:∀w,(binOp .eql 44 (.slice (some ⟨b,off,none⟩) v.length cap) (.slice none 0 0)).run Tryz.prog w=.ok (.bool false) w:=fun w=>by rfl
 obtain⟨i0,hi,hz0,hz1,hz2⟩:=info_parts V.N6;have hB:Below w.heap.size w (w.alloc (.cells #[] 106)):=(Below.refl _ _).alloc (Nat.le_refl _) _;have HSRC:Hid (∀j u,(V.flat v)[j]?=some u->(w.alloc (.cells #[] 106)).cell? ((⟨b,off,none⟩:Addr).add j)=some u):=T7 (w:=w.alloc (.cells #[] 106)) v (fun j x hx=>by
  obtain⟨h1,h2⟩:=h j x hx;exact⟨(hB.cell (p:=⟨b,_,none⟩) hb).trans h1,(hB.cell (p:=⟨b,_,none⟩) hb).trans h2⟩)
 have HROW:Hid ((w.alloc (.cells #[] 106)).ownsRow w.heap.size 106 2 (.slice (some ⟨w.heap.size,0,none⟩) 0 0) 0 []):=⟨rfl,Or.inr ⟨w.heap.size,0,#[],rfl,Nat.le_refl _,heap_alloc_new w _,Nat.le_refl _,Nat.zero_le _,rfl,rfl⟩⟩;have hfl:=V.Cm v;have HB:=Ab hB;clear h;go_enter Tryz.func74,Tryz.ntmps74;go_wp2_with (at_builtin;go_must (refine wpList_append_own_at _ rfl (.tmp 5) (.tmp 6) 44 rfl w.heap.size 106 i0 (.agg #[.int .i64 0,.string ⟨#[]⟩]) 2 24 Tryz.underlying44 hi hz0 hz1 hz2 rfl (by decide) (.slice (some ⟨w.heap.size,0,none⟩) 0 0) 0 [] rfl (Aa HROW) ⟨b,off,none⟩ v.length cap (V.flat v) rfl hfl (Aa HSRC) (V.Gz v) (by unfold maxLen;omega) (by omega) (by simp) ?_))
 intro v' wz hown hgrow hnil _;obtain⟨va,vn,vc,hvs⟩:=Am hown;subst hvs;have hz:Below w.heap.size w wz:=(Aa HB).grown hgrow (by simp) (fun k hk=>by cases hk;exact Nat.le_refl _);have HO:=Ab hown;have HN:=Ab hnil;clear hown hgrow hnil;go_wp2
 go_ret
 refine⟨⟨_,rfl,?_,fun e=>?_⟩,hz⟩
 ·exact Aa HO
 ·exact(Aa HN) e
theorem TG{w:World}{F:Ag}{X:Value}{v:List R.It}(h:ED w F X v)(hn:v.length<=1000):Calls Tryz.prog 74 #[X] w fun e w'=>(∃O,e=.returned O/\V.Row w' w.heap.size O v/\(O=.slice none 0 0↔v=[]))/\Below w.heap.size w w':=by
 rcases h with ⟨rfl,rfl⟩|⟨b,off,cap,cur,hne,rfl,_,_,h4,h5⟩
 ·refine(QS w).mono ?_;rintro e w' ⟨rfl,rfl⟩;exact⟨⟨_,rfl,V.Le _ _,by simp⟩,Below.refl _ _⟩
 ·refine(NH w b off cap v hn (fun j x hx=>?_) (Array.getElem?_eq_some_iff.1 h4).1).mono ?_
  ·obtain⟨r1,r2⟩:=h5 j x hx;exact⟨by simp[World.cell?,h4,r1],by simp[World.cell?,h4,r2]⟩
  ·rintro e w' ⟨⟨O,rfl,h1,h2⟩,hb⟩;exact⟨⟨O,rfl,h1,fun e=>absurd e h2,fun e=>absurd e hne⟩,hb⟩
theorem aai:∀args w,(callFunc 74 args).run Tryz.prog w=.ok (.enter 74 args) w:=fun _ _=>rfl
def XT(r:Int×Int×List R.It×Int)(O:Value):Ending:=.returned (.tuple #[.agg #[.int .i64 r.1,.int .i64 r.2.1,O],.int .i64 r.2.2.2])
theorem MU(w:World)(F:Ag)(cb lb nl k:Nat)(x:Dl)(v:List R.It)(hv:v.length<=1000)(hit:ED w F x.rv v)(hk:k<nl)(b3:w.cell? ⟨cb,3,none⟩=some (.slice (some ⟨lb,0,none⟩) nl nl))(ha:XY w lb k x):
  Calls Tryz.prog 39 #[ptr cb,.int .i64 (k:Int)] w fun e w'=>(∃O,e=.returned (.tuple #[.agg #[.int .i64 x.state,.int .i64 x.seq,O],.int .i64 0])/\V.Row w' w.heap.size O v)/\Below w.heap.size w w':=by
 obtain⟨ra,rn,rc,hrv⟩:=EW hit;have HCL:Hid (∀w',Below w.heap.size w w'->Calls Tryz.prog 74 #[.slice ra rn rc] w' fun e w''=>(∃a n c,e=.returned (.slice a n c)/\V.Row w'' w'.heap.size (.slice a n c) v)/\Below w'.heap.size w' w''):=fun w' hb=>by
  have hit':ED w' F (.slice ra rn rc) v:=by
   rw[<-hrv];exact hit.keep (Ae.Aq hb (fun _=>False)) (fun _ _ _ _ h=>h) (fun _ q=>q)
  refine(TG hit' hv).mono ?_;rintro e w'' ⟨⟨O,rfl,h1,_⟩,h2⟩;obtain⟨a,n,c,rfl⟩:=Am h1;exact⟨⟨a,n,c,rfl,h1⟩,h2⟩
 obtain⟨st,sq,rv,u,pc,m,ac,cm,wt,tr⟩:=x;obtain⟨a0,a1,a2,a3,a4,a5,a6,a7,a8,a9⟩:=ha;simp only at a0 a1 a2 a3 a4 a5 a6 a7 a8 a9 hrv hit;rw[hrv]at a2;generalize str m=SM at *;generalize str cm=SC at *;have q1:(0:Int)<=(k:Int):=by omega
 have q2:(k:Int)<(nl:Int):=by omega
 have hl1:=lt_of_cell b3;have hl2:=lt_of_cell a0;simp only;obtain⟨BX,hBX⟩:∃BX,(w.alloc (.cells #[.int .i64 0,.int .i64 0,.slice none 0 0] 46)).alloc (.cells #[.int .i64 st,.int .i64 sq,.slice ra rn rc,.int .i64 u,.int .i64 pc,.string SM,.int .i64 ac,.string SC,.int .i64 wt,.int .i64 tr] 139)=BX:=⟨_,rfl⟩;have HB:Hid (Below w.heap.size w BX):=by
  rw[<-hBX];exact((Below.refl _ _).alloc (Nat.le_refl _) _).alloc (by simp) _
 have hbx:BX.heap[w.heap.size+1]?=some (.cells #[.int .i64 st,.int .i64 sq,.slice ra rn rc,.int .i64 u,.int .i64 pc,.string SM,.int .i64 ac,.string SC,.int .i64 wt,.int .i64 tr] 139 (0,0)):=by
  rw[<-hBX,<-World.size_alloc w];exact heap_alloc_new _ _
 have hby:BX.heap[w.heap.size]?=some (.cells #[.int .i64 0,.int .i64 0,.slice none 0 0] 46 (0,0)):=by
  rw[<-hBX];exact(Below.heap_alloc _ _ _ (by simp)).trans (heap_alloc_new w _)
 have c0:BX.cell? ⟨w.heap.size+1,0,none⟩=some (.int .i64 st):=cell_of hbx 0 _ rfl;have c1:BX.cell? ⟨w.heap.size+1,1,none⟩=some (.int .i64 sq):=cell_of hbx 1 _ rfl;have c2:BX.cell? ⟨w.heap.size+1,2,none⟩=some (.slice ra rn rc):=cell_of hbx 2 _ rfl;have hs:BX.heap.size=w.heap.size+2:=by rw[<-hBX];simp
 have HBX:=Ab hBX;have HBY:=Ab hby;have HC:=Ab ((Aa HCL) BX.drew (Aa HB).drew);have HEND:Hid (∀(w3:World) (a:Option Addr) (n c:Nat),V.Row w3 BX.drew.heap.size (.slice a n c) v->Below BX.drew.heap.size BX.drew w3->(w3.cell? ⟨w.heap.size,0,none⟩=some (.int .i64 0)/\w3.cell? ⟨w.heap.size,1,none⟩=some (.int .i64 0)/\w3.cell? ⟨w.heap.size,2,none⟩=some (.slice none 0 0)/\(∀j,w3.frozen? ⟨w.heap.size,j,none⟩=false)/\w.heap.size<w3.heap.size/\w3.cell? ⟨w.heap.size+1,0,none⟩=some (.int .i64 st)/\w3.cell? ⟨w.heap.size+1,1,none⟩=some (.int .i64 sq)/\w3.cell? ⟨w.heap.size+1,2,none⟩=some (.slice ra rn rc))/\V.Row (((w3.setCell ⟨w.heap.size,0,none⟩ (.int .i64 st)).setCell ⟨w.heap.size,1,none⟩ (.int .i64 sq)).setCell ⟨w.heap.size,2,none⟩ (.slice a n c)) w.heap.size (.slice a n c) v/\Below w.heap.size w (((w3.setCell ⟨w.heap.size,0,none⟩ (.int .i64 st)).setCell ⟨w.heap.size,1,none⟩ (.int .i64 sq)).setCell ⟨w.heap.size,2,none⟩ (.slice a n c))):=fun w3 a n c hrow hb3=>by
  have hds:BX.drew.heap.size=w.heap.size+2:=hs;have g3:w3.heap[w.heap.size]?=some (.cells #[.int .i64 0,.int .i64 0,.slice none 0 0] 46 (0,0)):=(hb3.block _ (by omega)).trans (Aa HBY);have g4:=(hb3.block (w.heap.size+1) (by omega)).trans (show BX.drew.heap[w.heap.size+1]?=_ from hbx);have hbw:Below w.heap.size w w3:=(Aa HB).drew.trans (hb3.mono (by omega));refine⟨⟨cell_of g3 0 _ rfl,cell_of g3 1 _ rfl,cell_of g3 2 _ rfl,fun j=>open_list g3,lt_of_block g3,cell_of g4 0 _ rfl,cell_of g4 1 _ rfl,cell_of g4 2 _ rfl⟩,?_,((hbw.setCell (by simp) _).setCell (by simp) _).setCell (by simp) _⟩;have hkp:Ae (fun k=>k=w.heap.size) w3 (((w3.setCell ⟨w.heap.size,0,none⟩ (.int .i64 st)).setCell ⟨w.heap.size,1,none⟩ (.int .i64 sq)).setCell ⟨w.heap.size,2,none⟩ (.slice a n c)):=((Ai _).trans (Ai _)).trans (Ai _);refine V.Db (hkp.row hrow (fun j hj e=>?_)) (by omega);have:=((World.ownsRow.lt hrow) j hj).1;omega
 clear hBX hbx hby HCL hit hrv hs;go_enter Tryz.func39,Tryz.ntmps39;go_wp2_with (first|(go_at_call 73;go_in))
 rw[Aa HBX];go_region_held3 (fun w'=>w'.cell? ⟨w.heap.size+1,0,none⟩=some (.int .i64 st)/\w'.cell? ⟨w.heap.size+1,1,none⟩=some (.int .i64 sq)/\w'.cell? ⟨w.heap.size+1,2,none⟩=some (.slice ra rn rc)) (go_keep) ((go_at_call 74;refine(Aa HC).mono ?_;rintro e w3 ⟨⟨oa,on,oc,rfl,hrow⟩,hb3⟩;have hend:=(Aa HEND) w3 oa on oc hrow hb3;obtain⟨⟨d0,d1,d2,zz,m0,x0,x1,x2⟩,hr,hbw⟩:=hend;have HR:=Ab hr;have HBW:=Ab hbw;clear hrow hb3 hr hbw))
 all_goals
  go_wp2;exact bodyPost_ret (v:=.tuple #[.agg #[.int .i64 st,.int .i64 sq,.slice oa on oc],.int .i64 0]) (by simp[results,Tryz.results39,go_sem,d0,d1,d2]) rfl ⟨⟨_,rfl,Aa HR⟩,Aa HBW⟩
end Go.Proofs.YtblomippkddgiaaGreatDoor
