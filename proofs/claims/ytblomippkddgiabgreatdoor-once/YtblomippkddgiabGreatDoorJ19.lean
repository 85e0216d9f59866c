import Derived.Test.YtblomippkddgiabGreatDoorJ18
import Derived.WalkMore
import Derived.ScopeJumps
set_option maxRecDepth 100000
set_option maxHeartbeats 4000000
namespace Go.Proofs.YtblomippkddgiabGreatDoor
open Go.RowKit
variable {a:Act}{F:Aq}{x:CU}{xs:List CU}{b i k n:Nat}{p:Pl}{c:R.Cl}{l:R.Ln}{G:R.Wd}{O:Value}{w wr:World}
def Me(G:R.Wd)(i k:Nat)(l:R.Ln):R.Wd:=if l.Ao<R.Ag l.message then R.AA G i k true else R.Fw G i k
theorem LW.again(h:LW p F G w)(hc:G.Ad[i]?=some c)(hl:c.lines[k]?=some l)(h1:l.state=1):
  Calls Tryz.prog 168 #[ptr (p.cb i),.int .i64 (k:Int)] w fun e w'=>e=.returned (.tuple #[])/\∃F',LW p F' (Me G i k l) w'/\Ap F F' w w':=by
 obtain⟨xs,x,hL,hR,hx,ax,au,aD,ar⟩:=h.line hc hl;obtain⟨ra,rn,rc,aw⟩:=EO ar;have aq:=Ic h hc;have hk:=(List.getElem?_eq_some_iff.1 hl).1;have aF:=lt_of_cell aq.a0;have aG:=lt_of_cell au.a0;obtain⟨z1,z2,am,aC,z3⟩:=(((h.wf.cl i c hc).line k l hl)).one h1;obtain⟨z4,em,ea,z5⟩:=ax.one h1;obtain⟨ab,aa⟩:∃ab:World->Prop,∀ac,ab ac↔∃F',LW p F' (Me G i k l) ac/\Ap F F' w ac:=⟨_,fun _=>Iff.rfl⟩;suffices hq:Calls Tryz.prog 168 #[ptr (p.cb i),.int .i64 (k:Int)] w fun e w'=>e=.returned (.tuple #[])/\ab w' from hq.mono (fun e w' h=>⟨h.1,(aa w').1 h.2⟩)
 have aA:Hid (l.Ao<R.Ag l.message->∀w',Below w.heap.size w w'->Calls Tryz.prog 150 #[ptr (p.cb i),.int .i64 (k:Int),.bool true] w' fun e ac=>e=.returned (.tuple #[])/\ab ac):=fun ah w' hb=>by
  refine((h.below hb).piece hc hl h1 ah true).mono ?_;rintro e ac ⟨rfl,F',q1,q2⟩;refine⟨rfl,(aa ac).2 ⟨F',?_,(Ap.Al F hb).trans q2⟩⟩;rw[Me,if_pos ah];exact q1
 have ap:Hid (¬l.Ao<R.Ag l.message->∀w',Below w.heap.size w w'->Calls Tryz.prog 204 #[ptr (p.cb i),.int .i64 (k:Int),NL 3 0 0 0 0 0 0 1 true (str [])] w' fun e ac=>e=.returned (.tuple #[])/\ab ac):=fun ah w' hb=>by
  have av:=R.Lm h.wf hc hl h1;rw[Nh hc]at av;refine((h.below hb).ZE hc hl h1 3 0 1 true [] av).mono ?_;rintro e ac ⟨rfl,F',q1,q2⟩;refine⟨rfl,(aa ac).2 ⟨F',?_,(Ap.Al F hb).trans q2⟩⟩;rw[Me,if_neg ah,R.Oz (R.CR hc hl),Nh hc];exact q1
 rw[show str []=(⟨#[]⟩:ByteArray) from rfl]at ap;have HP:=Ac (fun w=>CS l.message w (by omega));clear aa;obtain⟨a0,a1,a2,a3,a4,a5,a6,a7,a8,a9⟩:=au;obtain⟨b0,b1,b2,b3,b4,b5,b6⟩:=aq;rw[aw]at a2;rw[em]at a5;rw[ea]at a6;generalize str l.message=SM at *;have aH:1<=R.Ag l.message/\R.Ag l.message<=9:=⟨R.De am.1,R.El am.2⟩;generalize R.Ag l.message=P at *;generalize l.Ao=a at *;generalize c.lines.length=nl at *;generalize p.cb i=cb at *;generalize p.lb i=lb at *;obtain⟨az,ay,aI,aj,ae,aE,aB,ad,ag,af⟩:=x;simp only at a0 a1 a3 a4 a7 a8 a9;clear h hL hR hx ax hc hl h1 em ea aC am z1 z2 z3 z4 z5 aD ar aw;obtain⟨LX,ak⟩:∃LX,w.alloc (.cells #[.int .i64 az,.int .i64 ay,.slice ra rn rc,.int .i64 aj,.int .i64 ae,.string SM,.int .i64 a,.string (str ad),.int .i64 ag,.int .i64 af] 129)=LX:=⟨_,rfl⟩;have HB:Hid (Below w.heap.size w LX):=by
  rw[<-ak];exact(Below.refl w.heap.size w).alloc (Nat.le_refl _) _
 have al:LX.heap[w.heap.size]?=some (.cells #[.int .i64 az,.int .i64 ay,.slice ra rn rc,.int .i64 aj,.int .i64 ae,.string SM,.int .i64 a,.string (str ad),.int .i64 ag,.int .i64 af] 129 (0,0)):=by
  rw[<-ak];exact heap_alloc_new w _
 have c4:LX.cell? ⟨w.heap.size,5,none⟩=some (.string SM):=cell_of al 5 _ rfl;have c5:LX.cell? ⟨w.heap.size,6,none⟩=some (.int .i64 a):=cell_of al 6 _ rfl;have ao:=Ac ak;clear ak al;by_cases ah:a<P
 ·go_enter Tryz.func168,Tryz.ntmps168;go_wp2_with fail
  rw[Aa ao];go_region_held3 (fun w'=>w'.cell? ⟨w.heap.size,5,none⟩=some (.string SM)/\w'.cell? ⟨w.heap.size,6,none⟩=some (.int .i64 a)) (go_keep) ((go_at_call 203;refine((Aa HP) _).mono ?_;rintro e w1 ⟨rfl,ai⟩;rw[ai];clear ai))
  go_wp2_with (first|(go_at_call 150;refine((Aa aA) ah _ (Aa HB).drew).mono ?_;rintro e w3 ⟨rfl,an⟩))
  go_returns;exact⟨rfl,an⟩
 ·go_enter Tryz.func168,Tryz.ntmps168;go_wp2_with fail
  rw[Aa ao];go_region_held3 (fun w'=>w'.cell? ⟨w.heap.size,5,none⟩=some (.string SM)/\w'.cell? ⟨w.heap.size,6,none⟩=some (.int .i64 a)) (go_keep) ((go_at_call 203;refine((Aa HP) _).mono ?_;rintro e w1 ⟨rfl,ai⟩;rw[ai];clear ai))
  go_wp2_with (first|(go_at_call 204;refine((Aa ap) ah _ (Aa HB).drew).mono ?_;rintro e w3 ⟨rfl,an⟩))
  go_returns;exact⟨rfl,an⟩
theorem Ah{o:Nat}(v:Value):Af (fun k=>k=b) w (w.setCell ⟨b,o,none⟩ v):=Af.setCell (F:=fun k=>k=b) (Af.refl _ w) (p:=⟨b,o,none⟩) (Or.inl rfl) v
theorem BS{j:Nat}{x':CU}{v:Value}(h:w.heap[b]?=some (.cells (tab CU.cells xs).toArray 129 (0,0)))(hx:xs[k]?=some x)(hj:j<10)(hv:x'.cells=x.cells.set j v):
  (w.setCell ⟨b,k*10+j,none⟩ v).heap[b]?=some (.cells (tab CU.cells (xs.set k x')).toArray 129 (0,0))/\(xs.set k x')[k]?=some x':=by
 refine⟨by rw[Ai h,IU CU.len xs k j x x' v hx hj hv],?_⟩;rw[List.getElem?_set];simp[(List.getElem?_eq_some_iff.1 hx).1]
abbrev Lp(w:World)(b k:Nat)(x:CU):World:=(((((((((w.setCell ⟨b,k*10,none⟩ (.int .i64 x.state)).setCell ⟨b,k*10+1,none⟩ (.int .i64 x.seq)).setCell ⟨b,k*10+2,none⟩ x.rv).setCell ⟨b,k*10+3,none⟩ (.int .i64 x.uid)).setCell ⟨b,k*10+4,none⟩ (.int .i64 x.proc)).setCell ⟨b,k*10+5,none⟩ (.string (str x.msg))).setCell ⟨b,k*10+6,none⟩ (.int .i64 x.Ao)).setCell ⟨b,k*10+7,none⟩ (.string (str x.came))).setCell ⟨b,k*10+8,none⟩ (.int .i64 x.wait)).setCell ⟨b,k*10+9,none⟩ (.int .i64 x.tries)
theorem Va(h:w.heap[b]?=some (.cells (tab CU.cells xs).toArray 129 (0,0)))(hx:xs[k]?=some x)(x':CU):
  (Lp w b k x').heap[b]?=some (.cells (tab CU.cells (xs.set k x')).toArray 129 (0,0))/\Af (fun q=>q=b) w (Lp w b k x'):=by
 obtain⟨st,sq,rv,u,pc,m,a,cm,wt,tr⟩:=x;obtain⟨aa,ab,ac,u',ad,m',a',ae,af,ag⟩:=x';have e0:=BS (j:=0) (x':=⟨aa,sq,rv,u,pc,m,a,cm,wt,tr⟩) (v:=.int .i64 aa) h hx (by omega) rfl;have e1:=BS (j:=1) (x':=⟨aa,ab,rv,u,pc,m,a,cm,wt,tr⟩) (v:=.int .i64 ab) e0.1 e0.2 (by omega) rfl;have e2:=BS (j:=2) (x':=⟨aa,ab,ac,u,pc,m,a,cm,wt,tr⟩) (v:=ac) e1.1 e1.2 (by omega) rfl;have e3:=BS (j:=3) (x':=⟨aa,ab,ac,u',pc,m,a,cm,wt,tr⟩) (v:=.int .i64 u') e2.1 e2.2 (by omega) rfl;have e4:=BS (j:=4) (x':=⟨aa,ab,ac,u',ad,m,a,cm,wt,tr⟩) (v:=.int .i64 ad) e3.1 e3.2 (by omega) rfl;have e5:=BS (j:=5) (x':=⟨aa,ab,ac,u',ad,m',a,cm,wt,tr⟩) (v:=.string (str m')) e4.1 e4.2 (by omega) rfl;have e6:=BS (j:=6) (x':=⟨aa,ab,ac,u',ad,m',a',cm,wt,tr⟩) (v:=.int .i64 a') e5.1 e5.2 (by omega) rfl;have e7:=BS (j:=7) (x':=⟨aa,ab,ac,u',ad,m',a',ae,wt,tr⟩) (v:=.string (str ae)) e6.1 e6.2 (by omega) rfl;have e8:=BS (j:=8) (x':=⟨aa,ab,ac,u',ad,m',a',ae,af,tr⟩) (v:=.int .i64 af) e7.1 e7.2 (by omega) rfl;have e9:=BS (j:=9) (x':=⟨aa,ab,ac,u',ad,m',a',ae,af,ag⟩) (v:=.int .i64 ag) e8.1 e8.2 (by omega) rfl;simp only[List.set_set]at e9;exact⟨e9.1,(((((((((Ah _).trans (Ah _)).trans (Ah _)).trans (Ah _)).trans (Ah _)).trans (Ah _)).trans (Ah _)).trans (Ah _)).trans (Ah _)).trans (Ah _)⟩
abbrev JR(st sq:Int):CU:=⟨st,sq,.slice none 0 0,0,0,[],0,[],0,0⟩
theorem ML(w:World)(b k:Nat)(st:Int)(xs:List CU)(x:CU)(aa:∃a n c,x.rv=.slice a n c)(h:w.heap[b]?=some (.cells (tab CU.cells xs).toArray 129 (0,0)))(hx:xs[k]?=some x):
  Calls Tryz.prog 167 #[.pointer (some ⟨b,k*10,none⟩),.int .i64 st] w fun e w'=>e=.returned (.tuple #[])/\w'.heap[b]?=some (.cells (tab CU.cells (xs.set k (JR st x.seq))).toArray 129 (0,0))/\Af (fun q=>q=b) w w':=by
 obtain⟨a0,a1,a2,a3,a4,a5,a6,a7,a8,a9⟩:=Yu h hx;obtain⟨ra,rn,rc,aa⟩:=aa;rw[aa]at a2;have z0:=open_list (off:=k*10) h;have z1:=open_list (off:=k*10+1) h;have z2:=open_list (off:=k*10+2) h;have z3:=open_list (off:=k*10+3) h;have z4:=open_list (off:=k*10+4) h;have z5:=open_list (off:=k*10+5) h;have z6:=open_list (off:=k*10+6) h;have z7:=open_list (off:=k*10+7) h;have z8:=open_list (off:=k*10+8) h;have z9:=open_list (off:=k*10+9) h;have HH:=Ac h;have HX:=Ac hx;have ab:=lt_of_block h;clear h hx aa;go_enter Tryz.func167,Tryz.ntmps167;go_wp2;go_returns;have hp:=Va (Aa HH) (Aa HX) (JR st x.seq);exact⟨rfl,hp⟩
theorem N3(G:R.Wd)(i k:Nat)(l l':R.Ln):R.Am (R.Am G i k l) i k l'=R.Am G i k l':=by
 simp[R.Am,List.modify_modify_eq,Function.comp_def]
theorem EQ{Q:Exit->Act->World->Prop}{l:Nat}{J:Act->World->Prop}(h:Q .ret a w):Exit.jump l J Q .ret a w:=h
theorem Lf{Q:Exit->Act->World->Prop}{l:Nat}{J:Act->World->Prop}(h:Q .normal a w):Exit.jump l J Q .normal a w:=h
theorem C8{P:Program}{Q:Exit->Act->World->Prop}{c rest:Code}(l:Nat)(hf:findLabel c l=some rest)(first:c.wp P (Exit.jump l (fun a w=>rest.wp P (Exit.jump l (fun _ _=>False) Q) a w) Q) a w):(Code.scope c).wp P Q a w:=by
 refine wp_scope_jumps l _ (fun _ _=>0) hf first (fun a w h=>?_)
 refine Code.wp_mono ?_ h;intro e a w h;cases e with
 |goto q=>exact h.2.elim
 |_=>exact h
theorem Xk(w:World)(cb lb k nl:Nat)(wt tr rt:Int)(aa:World->Prop)(hk:k<nl)(b3:w.cell? ⟨cb,3,none⟩=some (.slice (some ⟨lb,0,none⟩) nl nl))(b4:w.cell? ⟨cb,4,none⟩=some (.int .i64 rt))(a6:w.cell? ⟨lb,k*10+8,none⟩=some (.int .i64 wt))(a7:w.cell? ⟨lb,k*10+9,none⟩=some (.int .i64 tr))(z6:w.frozen? ⟨lb,k*10+8,none⟩=false)(z7:w.frozen? ⟨lb,k*10+9,none⟩=false)(ad:¬cb=lb)(ai:1<=wt/\wt<=8)(ah:0<=tr/\tr<=6)
  (HA:Hid (1<wt->aa (w.setCell ⟨lb,k*10+8,none⟩ (.int .i64 (wt-1)))))
  (HB:Hid (wt=1->tr=0->Calls Tryz.prog 167 #[.pointer (some ⟨lb,k*10,none⟩),.int .i64 3] (w.setCell ⟨lb,k*10+8,none⟩ (.int .i64 (wt-1))) fun e w'=>e=.returned (.tuple #[])/\aa w'))
  (HC:Hid (wt=1->0<tr->Calls Tryz.prog 168 #[ptr cb,.int .i64 (k:Int)] (((w.setCell ⟨lb,k*10+8,none⟩ (.int .i64 (wt-1))).setCell ⟨lb,k*10+9,none⟩ (.int .i64 (tr-1))).setCell ⟨lb,k*10+8,none⟩ (.int .i64 rt)) fun e w'=>e=.returned (.tuple #[])/\aa w')):
  Calls Tryz.prog 98 #[ptr cb,.int .i64 (k:Int)] w fun e w'=>e=.returned (.tuple #[])/\aa w':=by
 have e1:IntKind.i64.wrap (wt-1)=wt-1:=by rw[IntKind.wrap_i64];omega
 have e2:IntKind.i64.wrap (tr-1)=tr-1:=by rw[IntKind.wrap_i64];omega
 have ae:¬lb=cb:=fun e=>ad e.symm
 have af:=lt_of_cell b3;have ag:=lt_of_cell a6;by_cases h1:1<wt
 ·have q1:0<wt-1:=by omega
  have HP:=Ac ((Aa HA) h1);clear HA HB HC;go_enter Tryz.func98,Tryz.ntmps98;go_wp2;refine C8 0 rfl ?_;go_wp2;refine EQ ?_;go_wp2;go_returns;exact⟨rfl,Aa HP⟩
 ·have ab:wt=1:=by omega
  by_cases h2:tr=0
  ·have HP:=Ac ((Aa HB) ab h2);clear HA HB HC;subst ab h2;go_enter Tryz.func98,Tryz.ntmps98;go_wp2;refine C8 0 rfl ?_;go_wp2_with (first|(go_at_call 167;refine(Aa HP).mono ?_;rintro e w3 ⟨rfl,ac⟩))
   refine EQ ?_;go_wp2;go_returns;exact⟨rfl,ac⟩
  ·have h3:0<tr:=by omega
   have HP:=Ac ((Aa HC) ab h3);clear HA HB HC;subst ab;go_enter Tryz.func98,Tryz.ntmps98;go_wp2;refine C8 0 rfl ?_;go_wp2
   go_step3
   refine⟨rfl,?_⟩;show Code.wp Tryz.prog _ _ _ _;go_wp2_with (first|(go_at_call 168;refine(Aa HP).mono ?_;rintro e w3 ⟨rfl,ac⟩))
   refine Lf ?_;go_wp2;go_returns;exact⟨rfl,ac⟩
theorem LW.wait(h:LW p F G w)(hc:G.Ad[i]?=some c)(hl:c.lines[k]?=some l)(h1:l.state=1):
  Calls Tryz.prog 98 #[ptr (p.cb i),.int .i64 (k:Int)] w fun e w'=>e=.returned (.tuple #[])/\∃F',LW p F' (R.AU G i k) w'/\Ap F F' w w':=by
 obtain⟨xs,x,hL,hR,hx,ad,an,ai,ah⟩:=h.line hc hl;obtain⟨ra,rn,rc,ap⟩:=EO ah;have ag:=Ic h hc;have hk:=(List.getElem?_eq_some_iff.1 hl).1;have hi:=(List.getElem?_eq_some_iff.1 hc).1;have aG:=lt_of_cell ag.a0;have aH:=lt_of_cell an.a0;have ae:=(h.wf.cl i c hc).line k l hl;obtain⟨z1,z2,ao,am,aD,au⟩:=ae.one h1;obtain⟨eu,em,ea,ew,et⟩:=ad.one h1;have aB:F (p.lb i):=(h.FG i hi).2.1;have aA:=h.wf.cf;have eT:=R.CR hc hl;have aC:p.cb i≠p.lb i:=AZ (h.cl i c hc) hL (by decide);have av:=ad.two h1;have af:l.result=[]:=ad.res (by omega);have went:∀w',Af (fun q=>q=p.lb i) w w'->Ap F F w w':=fun w' hk=>⟨hk.mono (fun q _ e=>by rw[e];exact aB),fun _ q=>Or.inl q⟩
 unfold R.AU;simp only[eT];rw[if_neg (by omega)];obtain⟨ac,aa⟩:∃ac:World->Prop,∀ak,ac ak↔∃F',LW p F' (if 1<l.wait then R.Am G i k {l with wait:=l.wait-1} else if l.tries=0 then R.Am G i k {l with wait:=l.wait-1,state:=3} else if 8*l.Ao<(l.message.length:Int) then R.AA (R.Am G i k {l with wait:=G.c.Ay,tries:=l.tries-1}) i k true else R.Fw (R.Am G i k {l with wait:=G.c.Ay,tries:=l.tries-1}) i k) ak/\Ap F F' w ak:=⟨_,fun _=>Iff.rfl⟩;suffices hq:Calls Tryz.prog 98 #[ptr (p.cb i),.int .i64 (k:Int)] w fun e w'=>e=.returned (.tuple #[])/\ac w' from hq.mono (fun e w' h=>⟨h.1,(aa w').1 h.2⟩)
 obtain⟨a0,a1,a2,a3,a4,a5,a6,a7,a8,a9⟩:=an;rw[ew]at a8;rw[et]at a9;obtain⟨aJ,aI,aj,aF,ab,aE,ay,al,ax,aw⟩:=x;simp only at eu em ea ew et ap av;subst eu em ea ew et;obtain⟨tc,tp,tt⟩:=av;subst tc;have ar:=ad.state;have aq:=ad.seq;simp only at ar aq;subst ar aq;unfold R.BD at aA;have e1:=BS (j:=8) (x':=⟨l.state,l.seq,aj,l.uid,ab,l.message,l.Ao,l.came,l.wait-1,l.tries⟩) (v:=.int .i64 (l.wait-1)) hL hx (by omega) rfl;have e2:=BS (j:=9) (x':=⟨l.state,l.seq,aj,l.uid,ab,l.message,l.Ao,l.came,l.wait-1,l.tries-1⟩) (v:=.int .i64 (l.tries-1)) e1.1 e1.2 (by omega) rfl;have e3:=BS (j:=8) (x':=⟨l.state,l.seq,aj,l.uid,ab,l.message,l.Ao,l.came,G.c.Ay,l.tries-1⟩) (v:=.int .i64 G.c.Ay) e2.1 e2.2 (by omega) rfl;simp only[List.set_set]at e2 e3;refine Xk w (p.cb i) (p.lb i) k c.lines.length l.wait l.tries G.c.Ay ac hk ag.a3 ag.a4 a8 a9 (open_list hL) (open_list hL) aC aD au ?_ ?_ ?_
 ·intro h2;refine(aa _).2 ⟨F,?_,went _ (Ah _)⟩;rw[if_pos h2];exact h.turn hc hL hR ai (Ah _) e1.1 ⟨ae.seq,fun _=>⟨z1,z2,ao,am,by simp only;omega,au⟩⟩ ⟨rfl,rfl,fun _=>af,fun _=>⟨rfl,rfl,rfl,rfl,rfl⟩,fun _=>⟨rfl,tp,tt⟩⟩ ah
 ·intro h2 h3;refine(ML _ (p.lb i) k 3 _ _ ⟨_,_,_,ap⟩ e1.1 e1.2).mono ?_;rintro e w' ⟨rfl,q1,q2⟩;refine⟨rfl,(aa _).2 ⟨F,?_,went _ ((Ah _).trans q2)⟩⟩;rw[if_neg (by omega),if_pos h3];simp only[List.set_set]at q1;exact h.turn hc hL hR ai ((Ah _).trans q2) q1 ⟨ae.seq,fun q=>by cases q⟩ ⟨rfl,rfl,fun _=>af,fun q=>(by cases q),fun q=>(by cases q)⟩ (by
   rw[af];exact BF.nil _ _)
 ·intro h2 h3;have hT:=h.turn (l':={l with wait:=G.c.Ay,tries:=l.tries-1}) hc hL hR ai (((Ah _).trans (Ah _)).trans (Ah _)) e3.1 ⟨ae.seq,fun _=>⟨z1,z2,ao,am,by simp only;omega,by simp only;omega⟩⟩ ⟨rfl,rfl,fun _=>af,fun _=>⟨rfl,rfl,rfl,rfl,rfl⟩,fun _=>⟨rfl,tp,tt⟩⟩ ah;have az:(R.Am G i k {l with wait:=G.c.Ay,tries:=l.tries-1}).Ad[i]?=some {c with lines:=c.lines.set k {l with wait:=G.c.Ay,tries:=l.tries-1}}:=by
   rw[R.Bo,hc];simp
  refine(hT.again az (l:={l with wait:=G.c.Ay,tries:=l.tries-1}) (by simp[hk]) h1).mono ?_;rintro e w' ⟨rfl,F',q1,q2⟩;refine⟨rfl,(aa _).2 ⟨F',?_,(went _ (((Ah _).trans (Ah _)).trans (Ah _))).trans q2⟩⟩;rw[if_neg (by omega),if_neg (by omega)];unfold Me at q1;by_cases hq:l.Ao<R.Ag l.message
  ·rw[if_pos (R.Gg.2 hq)];rw[if_pos hq]at q1;exact q1
  ·rw[if_neg (fun q=>hq (R.Gg.1 q))];rw[if_neg hq]at q1;exact q1
theorem aaT:(Tryz.prog.info? 137).map (fun i=>(i.zero,i.size,i.bytes))=some (some (.pointer none),1,8):=by kernel_rfl
def pa(o:Option Nat):Option Addr:=o.map fun b=>⟨b,0,none⟩
abbrev pc(o:Option Nat):Value:=.pointer (pa o)
def Gw(f:Nat->Option Nat)(n:Nat):List Value:=((List.range n).filterMap f).map ptr
theorem KI(f:Nat->Option Nat)(n:Nat):Gw f (n+1)=Gw f n++(match f n with|none=>[]|some b=>[ptr b]):=by
 unfold Gw;rw[List.range_succ,List.filterMap_append];cases h:f n<;>simp[h]
theorem Zy(f:Nat->Option Nat)(n:Nat):(Gw f n).length<=n:=by
 unfold Gw;rw[List.length_map];have:=List.length_filterMap_le f (List.range n);simpa using this
structure Gf(w:World)(f:Nat->Option Nat)(n:Nat)(O:Value)(wr:World):Prop where
 row:wr.ownsRow w.heap.size 137 1 O (Gw f n).length (Gw f n)
 below:Below w.heap.size w wr
theorem Gf.none{f:Nat->Option Nat}(h:Gf w f n O wr)(hf:f n=none):Gf w f (n+1) O wr:=by
 have e:Gw f (n+1)=Gw f n:=by rw[KI,hf];simp
 refine⟨?_,h.below⟩;rw[e];exact h.row
theorem Gf.alloc{f:Nat->Option Nat}(h:Gf w f n O wr)(o:Obj):Gf w f n O (wr.alloc o):=⟨h.row.alloc _,h.below.alloc h.below.size _⟩
theorem Gf.some{f:Nat->Option Nat}{O':Value}{wz:World}(hf:f n=some b)(aa:wz.ownsRow w.heap.size 137 1 O' ((Gw f n).length+1) (Gw f n++[ptr b]))(hb:Below w.heap.size w wz):Gf w f (n+1) O' wz:=by
 have e:Gw f (n+1)=Gw f n++[ptr b]:=by rw[KI,hf]
 refine⟨?_,hb⟩;rw[e,List.length_append];exact aa
theorem one_cell(w:World)(t:TypeId)(v:Value)(j:Nat)(u:Value)(h:([v]:List Value)[j]?=Option.some u):(w.alloc (.cells #[v] t)).cell? ((⟨w.heap.size,0,none⟩:Addr).add j)=Option.some u:=by
 rw[Addr.add_lit,Nat.zero_add,World.cell?_alloc_new w _ _ j,<-List.getElem?_toArray]at *;exact h
theorem adS(q:Nat->Option Addr)(k:Nat)(hk:k<3)(w:World):(Instr.index 139 (.agg #[.pointer (q 0),.pointer (q 1),.pointer (q 2),.pointer (q 3),.pointer (q 4),.pointer (q 5),.pointer (q 6),.pointer (q 7),.pointer (q 8)]) (.int .i64 (k:Int))).run Tryz.prog w=.ok (.agg #[.pointer (q (3*k)),.pointer (q (3*k+1)),.pointer (q (3*k+2))]) w:=by
 obtain rfl|rfl|rfl:k=0\/k=1\/k=2:=by omega
 all_goals rfl
theorem adR(q:Nat->Option Addr)(k j:Nat)(hj:j<3)(w:World):(Instr.index 138 (.agg #[.pointer (q (3*k)),.pointer (q (3*k+1)),.pointer (q (3*k+2))]) (.int .i64 (j:Int))).run Tryz.prog w=.ok (.pointer (q (3*k+j))) w:=by
 obtain rfl|rfl|rfl:j=0\/j=1\/j=2:=by omega
 all_goals rfl
theorem abk(w:World)(s:Nat)(f:Nat->Option Nat)(h:∀i,i<9->w.cell? ⟨s,10+i,none⟩=some (pc (f i))):
  Calls Tryz.prog 99 #[ptr s] w fun e w'=>∃O,e=.returned O/\w'.ownsRow w.heap.size 137 1 O (Gw f 9).length (Gw f 9)/\Below w.heap.size w w':=by
 obtain⟨u,hu⟩:∃u:Nat->Option Addr,∀i,u i=pa (f i):=⟨_,fun _=>rfl⟩;have HU:=Ac hu;have c0:=h 0 (by omega);have c1:=h 1 (by omega);have c2:=h 2 (by omega);have c3:=h 3 (by omega);have c4:=h 4 (by omega);have c5:=h 5 (by omega);have c6:=h 6 (by omega);have c7:=h 7 (by omega);have c8:=h 8 (by omega);simp only[pc,<-hu]at c0 c1 c2 c3 c4 c5 c6 c7 c8;have hl:=lt_of_cell c0;obtain⟨i0,hi,am,an,ao⟩:=info_parts aaT;have H0:Hid (Gf w f 0 (.slice none 0 0) w):=⟨World.ownsRow_nil _ _ _ _,Below.refl _ _⟩;clear h hu;go_enter Tryz.func99,Tryz.ntmps99;go_wp2;clear c0 c1 c2 c3 c4 c5 c6 c7 c8;go_loopw [3,13] (fun av iv wr=>∃k:Nat,k<=3/\iv=.int .i64 k/\Gf w f (3*k) av wr) (fun _ iv _=>3-(intOf iv).toNat)
 case atStart=>exact⟨0,by omega,rfl,Aa H0⟩
 case round=>
  obtain⟨k,hk,rfl,hR⟩:=hrel;by_cases aj:k<3
  ·have aq:=adS u k aj;have HR:=Ac hR;clear hR;go_wp2;generalize decide ((k:Int)<3)=b14;go_loopw [3,17] (fun av jv ap=>∃j:Nat,j<=3/\jv=.int .i64 j/\Gf w f (3*k+j) av ap) (fun _ jv _=>3-(intOf jv).toNat)
   case atStart=>exact⟨0,by omega,rfl,(Aa HR).alloc _⟩
   case round=>
    obtain⟨j,hj,rfl,ad⟩:=hrel;by_cases ah:j<3
    ·obtain⟨oa,on,oc,ak⟩:=Ar ad.row;subst ak;have aa:=Ac ad;clear ad;have ag:=adR u k j ah;cases hf:f (3*k+j) with
     |none=>
      have e0:u (3*k+j)=none:=by rw[Aa HU,hf];rfl
      rw[e0]at ag;have HN:=Ac ((Aa aa).none hf);go_wp2;go_roundw
      case rel=>exact⟨j+1,by omega,by go_num,Aa HN⟩
      case measure=>simp[intOf];omega
     |some b=>
      have e0:u (3*k+j)=some ⟨b,0,none⟩:=by rw[Aa HU,hf];rfl
      rw[e0]at ag;have ai:=Zy f (3*k+j);go_wp2_with (at_builtin;go_must (refine wpList_append_own_at _ rfl (.tmp 22) (.tmp 24) 176 rfl w.heap.size 137 i0 (.pointer none) 1 8 Tryz.underlying176 hi am an ao rfl (by decide) _ _ _ rfl (by exact(Aa aa).row.alloc _) ⟨wr.heap.size,0,none⟩ 1 1 [ptr b] rfl rfl (by exact one_cell wr 137 (ptr b)) (by simp[Value.oneCell']) (by unfold maxLen;omega) (by omega) (by have:=(Aa aa).below.size;simp;omega) ?_))
      intro v' wz ac ab _ _;obtain⟨va,vn,vc,al⟩:=Ar ac;subst al;have af:Below w.heap.size w wz:=((Aa aa).below.alloc (Aa aa).below.size _).grown ab (by have:=(Aa aa).below.size;simp;omega) (fun k hk=>((World.ownsRow.lt (Aa aa).row) k hk).1);have HN:Hid (Gf w f (3*k+j+1) (.slice va vn vc) wz):=Gf.some hf ac af;clear ac ab af aa;go_wp2;go_roundw
      case rel=>exact⟨j+1,by omega,by go_num,Aa HN⟩
      case measure=>simp[intOf];omega
    ·obtain rfl:j=3:=by omega
     have ae:=Ac ad;clear ad;go_wp2;go_roundw
     case rel=>exact⟨k+1,by omega,by go_num,by exact Aa ae⟩
     case measure=>simp[intOf];omega
  ·obtain rfl:k=3:=by omega
   have ae:=Ac hR;clear hR;go_wp2
   go_ret
   exact⟨_,rfl,(Aa ae).row,(Aa ae).below⟩
def qf(t:SP)(seen:List R.Sn)(i:Nat):Option Nat:=if ((seen[i]?).getD R.Cs).seq=0 then none else some (t.ql i)
theorem Zm(t:SP)(seen:List R.Sn)(i:Nat):Bt t seen i=pc (qf t seen i):=by
 unfold Bt qf;split<;>rfl
section
variable {s n nm:Nat} {t:SP} {F:Aq} {c:R.Cf} {sv:List R.Sv} {Aj:List Int} {seen:List R.Sn} {jobs:List R.Jb} {w:World}
theorem Cg.cell(h:Cg s n nm t F c sv Aj seen jobs w)(j:Nat)(v:Value)(hv:(Ce n nm t c Aj seen)[j]?=some v):w.cell? ⟨s,j,none⟩=some v:=AP h.bs hv
theorem Cg.rem(h:Cg s n nm t F c sv Aj seen jobs w):Calls Tryz.prog 99 #[ptr s] w fun e w'=>∃O,e=.returned O/\w'.ownsRow w.heap.size 137 1 O (Gw (qf t seen) 9).length (Gw (qf t seen) 9)/\Below w.heap.size w w':=by
 refine abk w s (qf t seen) (fun i hi=>?_);rw[<-Zm];obtain rfl|rfl|rfl|rfl|rfl|rfl|rfl|rfl|rfl:i=0\/i=1\/i=2\/i=3\/i=4\/i=5\/i=6\/i=7\/i=8:=by omega
 all_goals exact h.cell _ _ rfl
end
theorem LW.abQ(h:LW p F G w)(cl li ln sq u kd pa o:Int)(pl:Bool)(body:List UInt8)(hr:AR ⟨kd,cl,li,ln,sq,u,pa,o,pl,body⟩):
  Calls Tryz.prog 220 #[ptr p.s,.agg #[.int .i64 cl,.int .i64 li,.int .i64 ln,.int .i64 sq,.int .i64 u],NL kd 0 0 0 0 0 pa o pl (str body)] w fun e w'=>e=.returned (.tuple #[])/\∃F',LW p F' (R.Bg G cl ⟨kd,cl,li,ln,sq,u,pa,o,pl,body⟩) w'/\Ap F F' w w':=by
 have ht:=h.BN;have ag:w.cell? ⟨p.s,20,none⟩=some (ptr p.n):=ht.cell 20 _ rfl;have aj:=lt_of_cell ag;obtain⟨ac,aa⟩:∃ac:World->Prop,∀ae,ac ae↔∃F',LW p F' (R.Bg G cl ⟨kd,cl,li,ln,sq,u,pa,o,pl,body⟩) ae/\Ap F F' w ae:=⟨_,fun _=>Iff.rfl⟩;suffices hq:Calls Tryz.prog 220 #[ptr p.s,.agg #[.int .i64 cl,.int .i64 li,.int .i64 ln,.int .i64 sq,.int .i64 u],NL kd 0 0 0 0 0 pa o pl (str body)] w fun e w'=>e=.returned (.tuple #[])/\ac w' from hq.mono (fun e w' h=>⟨h.1,(aa w').1 h.2⟩)
 have HS:Hid (∀w',Below w.heap.size w w'->Calls Tryz.prog 245 #[ptr p.n,.int .i64 cl,NL kd cl li ln sq u pa o pl (str body)] w' fun e ae=>e=.returned (.tuple #[])/\ac ae):=fun w' hb=>by
  refine((h.below hb).send cl ⟨kd,cl,li,ln,sq,u,pa,o,pl,body⟩ hr).mono ?_;rintro e ae ⟨rfl,F',q1,q2⟩;exact⟨rfl,(aa ae).2 ⟨F',q1,(Ap.Al F hb).trans q2⟩⟩
 clear aa hr h ht;generalize str body=SB at *;obtain⟨BX,af⟩:∃BX,(w.alloc (.cells #[.int .i64 cl,.int .i64 li,.int .i64 ln,.int .i64 sq,.int .i64 u] 170)).alloc (.cells #[.int .i64 kd,.int .i64 cl,.int .i64 li,.int .i64 ln,.int .i64 sq,.int .i64 u,.int .i64 pa,.int .i64 o,.bool pl,.string SB] 82)=BX:=⟨_,rfl⟩;have HB:Hid (Below w.heap.size w BX):=by
  rw[<-af];exact((Below.refl w.heap.size w).alloc (Nat.le_refl _) _).alloc (by simp) _
 have ai:BX.heap[w.heap.size]?=some (.cells #[.int .i64 cl,.int .i64 li,.int .i64 ln,.int .i64 sq,.int .i64 u] 170 (0,0)):=by
  rw[<-af];exact(Below.heap_alloc _ _ _ (by simp)).trans (heap_alloc_new w _)
 have ab:BX.heap[w.heap.size+1]?=some (.cells #[.int .i64 kd,.int .i64 cl,.int .i64 li,.int .i64 ln,.int .i64 sq,.int .i64 u,.int .i64 pa,.int .i64 o,.bool pl,.string SB] 82 (0,0)):=by
  rw[<-af,<-World.size_alloc w];exact heap_alloc_new _ _
 have HC:=Ac ((Aa HS) BX.drew (Aa HB).drew);have ak:BX.cell? ⟨p.s,20,none⟩=some (ptr p.n):=((Aa HB).cell (p:=⟨p.s,20,none⟩) aj).trans ag;have c0:BX.cell? ⟨w.heap.size,0,none⟩=some (.int .i64 cl):=cell_of ai 0 _ rfl;have e0:BX.cell? ⟨w.heap.size+1,0,none⟩=some (.int .i64 kd):=cell_of ab 0 _ rfl;have e1:BX.cell? ⟨w.heap.size+1,1,none⟩=some (.int .i64 cl):=cell_of ab 1 _ rfl;have e2:BX.cell? ⟨w.heap.size+1,2,none⟩=some (.int .i64 li):=cell_of ab 2 _ rfl;have e3:BX.cell? ⟨w.heap.size+1,3,none⟩=some (.int .i64 ln):=cell_of ab 3 _ rfl;have e4:BX.cell? ⟨w.heap.size+1,4,none⟩=some (.int .i64 sq):=cell_of ab 4 _ rfl;have e5:BX.cell? ⟨w.heap.size+1,5,none⟩=some (.int .i64 u):=cell_of ab 5 _ rfl;have e6:BX.cell? ⟨w.heap.size+1,6,none⟩=some (.int .i64 pa):=cell_of ab 6 _ rfl;have e7:BX.cell? ⟨w.heap.size+1,7,none⟩=some (.int .i64 o):=cell_of ab 7 _ rfl;have e8:BX.cell? ⟨w.heap.size+1,8,none⟩=some (.bool pl):=cell_of ab 8 _ rfl;have e9:BX.cell? ⟨w.heap.size+1,9,none⟩=some (.string SB):=cell_of ab 9 _ rfl;have ah:=Ac af;clear ai ab af HS;go_enter Tryz.func220,Tryz.ntmps220;go_wp2;rw[Aa ah];clear ah ag;go_region_law (refine Av rfl 245 #[.tmp 24,.tmp 26,.tmp 27] #[67,3,82] rfl adv #[ptr p.n,.int .i64 cl,NL kd cl li ln sq u pa o pl SB] rfl _ (Aa HC) ?_;rintro e w1 ⟨rfl,ad⟩;have HP:=Ac ad;clear ad;refine⟨_,rfl,?_⟩)
 all_goals
  go_wp2;go_returns;exact⟨rfl,Aa HP⟩
end Go.Proofs.YtblomippkddgiabGreatDoor
