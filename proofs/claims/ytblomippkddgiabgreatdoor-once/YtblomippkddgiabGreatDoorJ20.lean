import Derived.Test.YtblomippkddgiabGreatDoorJ19
set_option maxRecDepth 100000
set_option maxHeartbeats 4000000
namespace Go.Proofs.YtblomippkddgiabGreatDoor
open Go.RowKit
variable {F:Aq}{jobs:List R.Jb}{b i:Nat}{p:Pl}{c:R.Cf}{r r':R.Sn}{G:R.Wd}{y y':JH}{t:SP}{w w':World}
structure Qe(p:Pl)(G:R.Wd)(w:World)(i:Nat)(r:R.Sn)(y:JH):Prop where
 seen:G.seen[i]?=some r
 ne:r.seq≠0
 blk:w.heap[p.t.ql i]?=some (.cells y.cells.toArray 179 (0,0))
 rel:KZ i (G.Aj.getD (i / 3) 0) r y
theorem LW.q(h:LW p F G w)(hr:G.seen[i]?=some r)(aa:r.seq≠0):∃y,Qe p G w i r y/\F (p.t.ql i):=by
 obtain⟨y,h1,h2,h3⟩:=h.BN.ln i r hr aa;exact⟨y,⟨hr,aa,h1,h2⟩,h3⟩
structure YAt(w:World)(b:Nat)(y:JH):Prop where
 a0:w.cell? ⟨b,0,none⟩=some (.int .i64 y.client)
 a1:w.cell? ⟨b,1,none⟩=some (.int .i64 y.Ae)
 a2:w.cell? ⟨b,2,none⟩=some (.int .i64 y.line)
 a3:w.cell? ⟨b,3,none⟩=some (.int .i64 y.seq)
 a4:w.cell? ⟨b,4,none⟩=some (.int .i64 y.uid)
 a5:w.cell? ⟨b,5,none⟩=some (.int .i64 y.state)
 a6:w.cell? ⟨b,6,none⟩=some (.string (str y.asked))
 a7:w.cell? ⟨b,7,none⟩=some (.string (str y.answer))
 a8:w.cell? ⟨b,8,none⟩=some (.int .i64 y.at')
 a9:w.cell? ⟨b,9,none⟩=some (.int .i64 y.wait)
 JB:w.cell? ⟨b,10,none⟩=some (.int .i64 y.tries)
theorem Qb(h:w.heap[b]?=some (.cells y.cells.toArray 179 (0,0))):YAt w b y:=
 ⟨AP h rfl,AP h rfl,AP h rfl,AP h rfl,AP h rfl,AP h rfl,AP h rfl,AP h rfl,AP h rfl,AP h rfl,AP h rfl⟩
theorem Ws{seen:List R.Sn}(hr:seen[i]?=some r)(ab:r.seq≠0)(aa:r'.seq≠0)(j:Nat):Bt t (seen.set i r') j=Bt t seen j:=by
 unfold Bt;rw[List.getElem?_set];by_cases e:i=j
 ·subst e;rw[if_pos rfl,if_pos (List.getElem?_eq_some_iff.1 hr).1,hr];simp[ab,aa]
 ·simp[e]
theorem Cg.Ix{s n nm:Nat}{sv:List R.Sv}{Aj:List Int}{seen:List R.Sn}(h:Cg s n nm t F c sv Aj seen jobs w){ae:Array Value}(hr:seen[i]?=some r)(ab:r.seq≠0)(ac:r'.seq≠0)(hb:w.heap[t.ql i]?=some (.cells ae 179 (0,0)))(hk:Af (fun b=>b=t.ql i) w w')(ai:w'.heap[t.ql i]?=some (.cells y'.cells.toArray 179 (0,0)))(ad:KZ i (Aj.getD (i / 3) 0) r' y'):Cg s n nm t F c sv Aj (seen.set i r') jobs w':=by
 obtain⟨f1,f2,f3⟩:=h.BP;have ah:JD w F (fun b=>b=t.ql i):=JD.one hb (by decide);have hi:=(List.getElem?_eq_some_iff.1 hr).1;have aa:∀(j:Nat) (x:R.Sn),(seen.set i r')[j]?=some x->x.seq≠0->∃x0,seen[j]?=some x0/\x0.seq≠0/\(j≠i->x0=x)/\(j=i->x=r'):=fun j x hj hx=>by
  rw[List.getElem?_set]at hj;by_cases e:i=j
  ·subst e;simp only[if_true,hi]at hj;exact⟨r,hr,ab,fun q=>absurd rfl q,fun _=>(Option.some.inj hj).symm⟩
  ·rw[if_neg e]at hj;exact⟨x,hj,hx,fun _=>rfl,fun q=>absurd q.symm e⟩
 refine⟨?_,h.zs,hk.row h.made (fun j hj=>?_),fun z hz=>(h.each z hz).keep hk ah (fun _ q=>q),h.dns,h.Z8,fun j x hj hx=>?_,fun a b x x' ha hb hx aj ag=>?_,?_,f1,f2,f3⟩
 ·have e:Ce n nm t c Aj (seen.set i r')=Ce n nm t c Aj seen:=by
   unfold Ce;simp only[Ws hr ab ac]
  rw[e];exact hk.at h.bs (AZ h.bs hb (by decide))
 ·rcases h.made.2 with ⟨hn,_⟩|⟨g,cap,af,hn,_,hg,_⟩
  ·rw[hn]at hj;cases hj
  ·rw[hn]at hj;cases hj;exact AZ hg hb (by decide)
 ·obtain⟨x0,q1,q2,q3,q4⟩:=aa j x hj hx;by_cases e:j=i
  ·subst e;obtain rfl:=q4 rfl;obtain⟨_,_,_,hF⟩:=h.ln j x0 q1 q2;exact⟨y',ai,ad,hF⟩
  ·obtain rfl:=q3 e;obtain⟨y,g1,g2,g3⟩:=h.ln j x0 q1 q2;exact⟨y,hk.at g1 (h.inj j i x0 r q1 hr q2 ab e),g2,g3⟩
 ·obtain⟨x0,q1,q2,_⟩:=aa a x ha hx;obtain⟨x1,q3,q4,_⟩:=aa b x' hb aj;exact h.inj a b x0 x1 q1 q3 q2 q4 ag
 ·obtain⟨a,b,hj⟩:=h.jobs;refine⟨a,b,hk.at hj (fun e=>?_)⟩;rw[e,hb]at hj;cases hj
theorem Ns(h:R.Wf G)(i:Nat)(r:R.Sn):R.Wf (R.AB G i r):=⟨h.cf,h.Gt,fun j c hc=>⟨(h.cl j c hc).lines,(h.cl j c hc).Ae,(h.cl j c hc).bound,(h.cl j c hc).line⟩,h.E3,h.Eo,h.sv,h.Kh,h.nm,h.st,h.nd,h.I5⟩
theorem Nt{Aj:List Int}{seen:List R.Sn}(h:R.Md c Aj seen jobs)(hr:R.Qg (Aj.getD (i / 3) 0) r):R.Md c Aj (seen.set i r) jobs:=by
 refine⟨h.ll,h.lv,by simpa using h.sl,fun j x hx=>?_,h.jl,h.jb⟩;rw[List.getElem?_set]at hx;by_cases e:i=j
 ·rw[if_pos e]at hx;split at hx
  ·cases hx;rw[<-e];exact hr
  ·cases hx
 ·rw[if_neg e]at hx;exact h.sn j x hx
theorem LW.Ix(h:LW p F G w)(hq:Qe p G w i r y)(aa:r'.seq≠0)(hk:Af (fun b=>b=p.t.ql i) w w')(ae:w'.heap[p.t.ql i]?=some (.cells y'.cells.toArray 179 (0,0)))(ab:KZ i (G.Aj.getD (i / 3) 0) r' y')(ai:R.Qg (G.Aj.getD (i / 3) 0) r'):LW p F (R.AB G i r') w'/\Qe p (R.AB G i r') w' i r' y'/\Ap F F w w':=by
 obtain⟨hx,hn,aj,ak⟩:=h.BP;have hb:=hq.blk;have ah:JD w F (fun b=>b=p.t.ql i):=JD.one hb (by decide);obtain⟨_,_,_,ag⟩:=h.BN.ln i r hq.seen hq.ne;have at':∀{b:Nat} {ys:Array Value} {t:TypeId} {f:Nat×Nat},w.heap[b]?=some (.cells ys t f)->t≠179->w'.heap[b]?=some (.cells ys t f):=fun af h1=>hk.at af (AZ af hb h1)
 have ac:∀{α:Type} {k:TypeId} {b:Nat} {lit:α->Lit} {g:α->Option Int} {n:Nat},Mp w k b lit g n->Mp w' k b lit g n:=fun hm=>by
  obtain⟨es,q,hq⟩:=hm.block;exact hm.keep hk (fun e=>Fv hb hq e.symm)
 refine⟨⟨Ns h.wf i r',Nt h.Db ai,at' h.bx (by decide),?_,?_,h.BN.Ix hq.seen hq.ne aa hb hk ae ab,ac h.names,fun j c hc=>at' (h.cl j c hc) (by decide),fun j c hc=>?_,fun j c hc=>ac (h.bound j c hc),h.BP,h.FG,h.inj,fun k hf=>Nat.lt_of_lt_of_le (h.lt k hf) hk.size⟩,⟨?_,aa,ae,ab⟩,⟨hk.mono (fun k _ e=>by rw[e];exact ag),fun _ q=>Or.inl q⟩⟩
 ·obtain⟨ad,h1,h2⟩:=h.XH;exact⟨ad,at' h1 (by decide),h2⟩
 ·obtain⟨K,h1,h2,h3⟩:=h.bn;refine⟨K,at' h1 (by decide),hk.row h2 (fun j hj=>?_),h3⟩;rcases h2.2 with ⟨rfl,_⟩|⟨g,cap,ad,rfl,_,hg,_⟩
  ·cases hj
  ·cases hj;exact AZ hg hb (by decide)
 ·obtain⟨xs,h1,h2,h3⟩:=h.ln j c hc;exact⟨xs,at' h1 (by decide),h2,h3.Eg hk ah (fun _ q=>q)⟩
 ·simp[R.AB,(List.getElem?_eq_some_iff.1 hq.seen).1]
theorem Qe.below(h:Qe p G w i r y)(hb:Below w.heap.size w w'):Qe p G w' i r y:=⟨h.seen,h.ne,by rw[hb.block _ (Array.getElem?_eq_some_iff.1 h.blk).1];exact h.blk,h.rel⟩
theorem Eb{j:Nat}{v:Value}(h:w.heap[b]?=some (.cells y.cells.toArray 179 (0,0)))(hv:y'.cells=y.cells.set j v):(w.setCell ⟨b,j,none⟩ v).heap[b]?=some (.cells y'.cells.toArray 179 (0,0)):=by
 rw[Ai h,hv]
theorem aeG:∀args w,(callFunc 203 args).run Tryz.prog w=.ok (.enter 203 args) w:=fun _ _=>rfl
theorem aeH:∀args w,(callFunc 205 args).run Tryz.prog w=.ok (.enter 205 args) w:=fun _ _=>rfl
theorem aeI:∀args w,(callFunc 220 args).run Tryz.prog w=.ok (.enter 220 args) w:=fun _ _=>rfl
theorem QL(l:List Int)(k:Nat):(l[k]?).getD 0=l.getD k 0:=by simp[List.getD_eq_getElem?_getD]
theorem G6(hw:R.Md G.c G.Aj G.seen G.jobs)(hr:G.seen[i]?=some r)(h3:r.state=3):
  AR ⟨5,((i / 3:Nat):Int),(G.Aj[i / 3]?).getD 0,((i % 3:Nat):Int),r.seq,r.uid,r.at',R.Ag r.result,false,R.Be r.result r.at'⟩:=by
 have hi:i<9:=by rw[<-hw.sl];exact(List.getElem?_eq_some_iff.1 hr).1
 have hs:=hw.sn i r hr;have ab:r.seq≠0:=fun e=>by
  rw[hs.zero e]at h3;cases h3
 obtain⟨a1,a2,a3⟩:=hs.some ab;obtain⟨b1,b2,b3,b4⟩:=hs.ans h3;have hq:=hs.seq;have aa:i / 3<G.Aj.length:=by rw[hw.ll];omega
 have ac:=hw.lv _ (List.getElem_mem aa);rw[List.getD_eq_getElem?_getD,List.getElem?_eq_getElem aa]at a1;rw[List.getElem?_eq_getElem aa];simp only[Option.getD_some]at a1 ⊢;have ad:=R.De b1;have ae:=R.El b2;refine⟨by simp,by simp only;omega,by simp only;omega,by simp only;omega,by simp only;omega,a2,by simp only;omega,by simp only;omega,?_⟩;show Dm _;unfold Dm;rw[if_pos (by simp)];exact R.GZ b3
theorem LW.Nr(h:LW p F G w)(hq:Qe p G w i r y)(h3:r.state=3):
  Calls Tryz.prog 169 #[ptr p.s,ptr (p.t.ql i)] w fun e w'=>e=.returned (.tuple #[])/\∃F',LW p F' (R.AL G i) w'/\Ap F F' w w':=by
 have ah:=G6 h.Db hq.seen h3;have hs:=h.Db.sn i r hq.seen;obtain⟨b1,b2,b3,b4⟩:=hs.ans h3;obtain⟨a,ag⟩:∃a:Nat,r.at'=(a:Int):=⟨r.at'.toNat,by omega⟩;have al:8*a<r.result.length:=by have:=R.Gg.2 b4;omega
 have hr:=hq.rel;obtain⟨aj,CF⟩:=hr.ans h3;unfold R.AL;simp only;rw[R.Bn hq.seen];rw[ag]at ah CF ⊢;obtain⟨ac,ab⟩:∃ac:World->Prop,∀aa,ac aa↔∃F',LW p F' (R.Bg G ((i / 3:Nat):Int) ⟨5,((i / 3:Nat):Int),(G.Aj[i / 3]?).getD 0,((i % 3:Nat):Int),r.seq,r.uid,(a:Int),R.Ag r.result,false,R.Be r.result (a:Int)⟩) aa/\Ap F F' w aa:=⟨_,fun _=>Iff.rfl⟩;suffices hq:Calls Tryz.prog 169 #[ptr p.s,ptr (p.t.ql i)] w fun e w'=>e=.returned (.tuple #[])/\ac w' from hq.mono (fun e w' h=>⟨h.1,(ab w').1 h.2⟩)
 have HS:Hid (∀w',Below w.heap.size w w'->Calls Tryz.prog 220 #[ptr p.s,.agg #[.int .i64 y.client,.int .i64 y.Ae,.int .i64 y.line,.int .i64 y.seq,.int .i64 y.uid],NL 5 0 0 0 0 0 (a:Int) (R.Ag r.result) false (str (R.Be r.result (a:Int)))] w' fun e aa=>e=.returned (.tuple #[])/\ac aa/\aa.cell? ⟨p.t.ql i,0,none⟩=some (.int .i64 y.client)/\aa.cell? ⟨p.t.ql i,1,none⟩=some (.int .i64 y.Ae)/\aa.cell? ⟨p.t.ql i,2,none⟩=some (.int .i64 y.line)/\aa.cell? ⟨p.t.ql i,3,none⟩=some (.int .i64 y.seq)/\aa.cell? ⟨p.t.ql i,4,none⟩=some (.int .i64 y.uid)/\aa.cell? ⟨p.t.ql i,7,none⟩=some (.string (str r.result))/\aa.cell? ⟨p.t.ql i,8,none⟩=some (.int .i64 (a:Int))):=fun w' hb=>by
  have ai:AR ⟨5,y.client,y.Ae,y.line,y.seq,y.uid,(a:Int),R.Ag r.result,false,R.Be r.result (a:Int)⟩:=by
   rw[hr.client,hr.Ae,hr.line,hr.seq,hr.uid,<-QL];exact ah
  refine((h.below hb).abQ _ _ _ _ _ 5 (a:Int) (R.Ag r.result) false _ ai).mono ?_;rintro e aa ⟨rfl,F',q1,q2⟩;have am:=q1;rw[hr.client,hr.Ae,hr.line,hr.seq,hr.uid,<-QL]at am;have ar:(R.Bg G y.client ⟨5,y.client,y.Ae,y.line,y.seq,y.uid,(a:Int),R.Ag r.result,false,R.Be r.result (a:Int)⟩).seen[i]?=some r:=by rw[R.G9];exact hq.seen
  obtain⟨y2,g1,_⟩:=q1.q ar hq.ne;obtain⟨k0,k1,k2,k3,k4,k5,k6,k7,k8,k9,av⟩:=Qb g1.blk;have ad:=g1.rel;rw[R.Iz]at ad;obtain⟨ae,af⟩:=ad.ans h3;rw[ad.client,<-hr.client]at k0;rw[ad.Ae,<-hr.Ae]at k1;rw[ad.line,<-hr.line]at k2;rw[ad.seq,<-hr.seq]at k3;rw[ad.uid,<-hr.uid]at k4;rw[ae]at k7;rw[af,ag]at k8;exact⟨rfl,(ab aa).2 ⟨F',am,(Ap.Al F hb).trans q2⟩,k0,k1,k2,k3,k4,k7,k8⟩
 obtain⟨c0,c1,c2,c3,c4,c5,c6,c7,c8,c9,aq⟩:=Qb hq.blk;rw[aj]at c7;rw[CF]at c8;have HP:=Ac (fun w=>CS r.result w (by omega));have HC:=Ac (fun w=>Ox r.result a w (by omega) al);have HD:=Ac ((Aa HS) w.drew (Below.refl _ _).drew);clear ab ah HS hs h hr hq aj CF;generalize str (R.Be r.result (a:Int))=SB at *;generalize str r.result=SM at *;generalize R.Ag r.result=N at *;generalize p.t.ql i=b at *;obtain⟨cl,li,ln,sq,u,st,ak,an,yt,wt,tr⟩:=y;simp only at c0 c1 c2 c3 c4 HD;clear c5 c6 c9 aq al b1 b2 b3 b4 ag h3;go_enter Tryz.func169,Tryz.ntmps169;go_wp2_with fail
 go_region_held3 (fun w'=>w'.cell? ⟨b,0,none⟩=some (.int .i64 cl)/\w'.cell? ⟨b,1,none⟩=some (.int .i64 li)/\w'.cell? ⟨b,2,none⟩=some (.int .i64 ln)/\w'.cell? ⟨b,3,none⟩=some (.int .i64 sq)/\w'.cell? ⟨b,4,none⟩=some (.int .i64 u)/\w'.cell? ⟨b,7,none⟩=some (.string SM)/\w'.cell? ⟨b,8,none⟩=some (.int .i64 (a:Int))) (go_keep) (first
  |(go_at_call 203;refine((Aa HP) _).mono ?_;rintro e w1 ⟨rfl,ao⟩;rw[ao];clear ao)
  |(go_at_call 205;refine((Aa HC) _).mono ?_;rintro e w2 ⟨rfl,ap⟩;rw[ap];clear ap)
  |(go_at_call 220;refine(Aa HD).mono ?_;rintro e w3 ⟨rfl,au,k0,k1,k2,k3,k4,k7,k8⟩))
 all_goals
  go_wp2;go_returns;exact⟨rfl,au⟩
theorem Yq(w:World)(b:Nat)(s:List UInt8)(a:Int)(hs:s.length<=1000)(h7:w.cell? ⟨b,7,none⟩=some (.string (str s)))(h8:w.cell? ⟨b,8,none⟩=some (.int .i64 a)):
  Calls Tryz.prog 214 #[ptr b] w fun e w'=>e=.returned (.bool (decide (a=R.Ag s-1)))/\Below w.heap.size w w':=by
 have HP:=Ac (fun w=>CS s w (by omega));have hn:0<=R.Ag s/\R.Ag s<=1000:=by unfold R.Ag;omega
 generalize str s=SM at *;generalize R.Ag s=N at *;have ab:IntKind.i64.wrap (N-1)=N-1:=by rw[IntKind.wrap_i64];omega
 go_enter Tryz.func214,Tryz.ntmps214;go_wp2_with fail
 go_region_held3 (fun w'=>w'.cell? ⟨b,7,none⟩=some (.string SM)/\w'.cell? ⟨b,8,none⟩=some (.int .i64 a)) (go_keep) (first
  |(go_at_call 203;refine((Aa HP) _).mono ?_;rintro e w1 ⟨rfl,aa⟩;rw[aa];clear aa))
 all_goals
  go_wp2
  go_ret
  exact⟨by
   have:(a==N-1)=decide (a=N-1):=by rw[Bool.eq_iff_iff];simp
   rw[this];rfl,(Below.refl _ _).drew⟩
theorem Qj(w:World)(s b:Nat)(rt tr:Int)(aa:Bool)(P1 P2 ab:World->Prop)
  (H1:Hid (Calls Tryz.prog 169 #[ptr s,ptr b] w fun e w'=>e=.returned (.tuple #[])/\P1 w'))
  (H2:Hid (∀w',P1 w'->Calls Tryz.prog 214 #[ptr b] w' fun e af=>e=.returned (.bool aa)/\P2 af))
  (H3:Hid (∀w',P2 w'->w'.cell? ⟨s,2,none⟩=some (.int .i64 rt)/\w'.cell? ⟨s,3,none⟩=some (.int .i64 tr)/\(∃x,w'.cell? ⟨b,9,none⟩=some (.int .i64 x))/\(∃x,w'.cell? ⟨b,10,none⟩=some (.int .i64 x))/\w'.frozen? ⟨b,9,none⟩=false/\w'.frozen? ⟨b,10,none⟩=false/\¬s=b))
  (HL:Hid (aa=true->∀w',P2 w'->ab (w'.setCell ⟨b,9,none⟩ (.int .i64 0))))
  (HM:Hid (aa=false->∀w',P2 w'->ab ((w'.drew.setCell ⟨b,9,none⟩ (.int .i64 rt)).setCell ⟨b,10,none⟩ (.int .i64 tr)))):
  Calls Tryz.prog 166 #[ptr s,ptr b] w fun e w'=>e=.returned (.tuple #[])/\ab w':=by
 go_enter Tryz.func166,Tryz.ntmps166;go_wp2_with (first|(go_at_call 169;refine(Aa H1).mono ?_;rintro e w1 ⟨rfl,ae⟩;have HC:=Ac ((Aa H2) w1 ae)))
 refine(Aa HC).mono ?_;rintro e w2 ⟨rfl,ac⟩;obtain⟨s2,s3,⟨x9,b9⟩,⟨ak,ag⟩,z9,al,ad⟩:=(Aa H3) w2 ac;have ai:=lt_of_cell b9;have aj:=lt_of_cell s2;have ah:¬b=s:=fun e=>ad e.symm
 have HX:=Ac ac;clear HC ac;cases aa with
 |true=>
  have HP:=Ac ((Aa HL) rfl w2 (Aa HX));go_wp2;go_returns;exact⟨rfl,Aa HP⟩
 |false=>
  have HP:=Ac ((Aa HM) rfl w2 (Aa HX));go_wp2
  go_region
  all_goals
   go_wp2;go_returns;exact⟨rfl,Aa HP⟩
theorem Hq(G:R.Wd)(i:Nat):(R.AL G i).seen=G.seen:=by unfold R.AL;rw[R.G9]
theorem C4(G:R.Wd)(i:Nat):(R.AL G i).Aj=G.Aj:=by unfold R.AL;rw[R.Iz]
theorem Kd(G:R.Wd)(i:Nat):(R.AL G i).c=G.c:=by unfold R.AL;rw[R.Kc]
theorem LW.abO(h:LW p F G w)(hq:Qe p G w i r y):¬p.s=p.t.ql i:=AZ h.BN.bs hq.blk (by decide)
theorem LW.tell(h:LW p F G w)(hq:Qe p G w i r y)(h3:r.state=3):
  Calls Tryz.prog 166 #[ptr p.s,ptr (p.t.ql i)] w fun e w'=>e=.returned (.tuple #[])/\∃F',LW p F' (R.Em G i) w'/\Ap F F' w w':=by
 have hs:=h.Db.sn i r hq.seen;obtain⟨b1,b2,b3,b4⟩:=hs.ans h3;have ah:=h.wf.cf;unfold R.BD at ah;have ac:(R.AL G i).seen[i]?=some r:=by rw[Hq];exact hq.seen
 have ab:R.Em G i=R.AB (R.AL G i) i {r with timed:=decide (8*r.at'+8<(r.result.length:Int)),wait:=G.c.Ay,tries:=G.c.tries}:=by
  unfold R.Em;simp only;rw[R.Bn ac]
 rw[ab];have turn:∀(F':Aq) (w1 w':World) (y1 y':JH),LW p F' (R.AL G i) w1->Ap F F' w w1->Qe p (R.AL G i) w1 i r y1->Af (fun b=>b=p.t.ql i) w1 w'->w'.heap[p.t.ql i]?=some (.cells y'.cells.toArray 179 (0,0))->KZ i (G.Aj.getD (i / 3) 0) {r with timed:=decide (8*r.at'+8<(r.result.length:Int)),wait:=G.c.Ay,tries:=G.c.tries} y'->∃F',LW p F' (R.AB (R.AL G i) i {r with timed:=decide (8*r.at'+8<(r.result.length:Int)),wait:=G.c.Ay,tries:=G.c.tries}) w'/\Ap F F' w w':=fun F' w1 w' y1 y' k1 k2 k3 k4 k5 k6=>by
  obtain⟨q1,_,q2⟩:=k1.Ix (r':={r with timed:=decide (8*r.at'+8<(r.result.length:Int)),wait:=G.c.Ay,tries:=G.c.tries}) (y':=y') k3 hq.ne k4 k5 (by rw[C4];exact k6) (by
   rw[C4];exact⟨fun e=>absurd e hq.ne,hs.seq,hs.some,hs.Ga,hs.wait,hs.ans,fun _=>⟨h3,by simp only;omega,by simp only;omega⟩⟩)
  exact⟨F',q1,k2.trans q2⟩
 refine Qj w p.s (p.t.ql i) G.c.Ay G.c.tries (decide (r.at'=R.Ag r.result-1)) (fun w'=>∃F',LW p F' (R.AL G i) w'/\Ap F F' w w') (fun w'=>∃F',LW p F' (R.AL G i) w'/\Ap F F' w w') _ (h.Nr hq h3) ?_ ?_ ?_ ?_
 ·rintro w1 ⟨F1,k1,k2⟩;obtain⟨y1,g1,_⟩:=k1.q ac hq.ne;obtain⟨_,_,_,_,_,_,_,c7,c8,_,_⟩:=Qb g1.blk;obtain⟨ag,CF⟩:=g1.rel.ans h3;rw[ag]at c7;rw[CF]at c8;refine(Yq w1 _ r.result r.at' (by omega) c7 c8).mono ?_;rintro e w2 ⟨rfl,hb⟩;exact⟨rfl,F1,k1.below hb,k2.trans (Ap.Al F1 hb)⟩
 ·rintro w1 ⟨F1,k1,k2⟩;obtain⟨y1,g1,_⟩:=k1.q ac hq.ne;obtain⟨_,_,_,_,_,_,_,_,_,c9,af⟩:=Qb g1.blk;have s2:=k1.BN.cell 2 _ rfl;have s3:=k1.BN.cell 3 _ rfl;rw[Kd]at s2 s3;exact⟨s2,s3,⟨_,c9⟩,⟨_,af⟩,open_list g1.blk,open_list g1.blk,k1.abO g1⟩
 ·rintro hl w1 ⟨F1,k1,k2⟩;have hl:r.at'=R.Ag r.result-1:=by simpa using hl
  obtain⟨y1,g1,_⟩:=k1.q ac hq.ne;have aa:=g1.rel;rw[C4]at aa;have hf:decide (8*r.at'+8<(r.result.length:Int))=false:=by
   rw[decide_eq_false_iff_not,R.Ng];omega
  refine turn F1 w1 _ y1 {y1 with wait:=0} k1 k2 g1 (Ah _) (Eb g1.blk rfl) ⟨aa.client,aa.Ae,aa.line,aa.seq,aa.uid,aa.state,aa.asked,aa.ans,?_,?_⟩
  ·simp[hf]
  ·simp[hf]
 ·rintro hl w1 ⟨F1,k1,k2⟩;have hl:¬r.at'=R.Ag r.result-1:=by simpa using hl
  have ad:Below w1.heap.size w1 w1.drew:=(Below.refl _ _).drew;have ae:=k1.below ad;obtain⟨y1,g1,_⟩:=ae.q ac hq.ne;have aa:=g1.rel;rw[C4]at aa;have hf:decide (8*r.at'+8<(r.result.length:Int))=true:=by
   rw[decide_eq_true_iff,R.Ng];omega
  refine turn F1 w1.drew _ y1 {y1 with wait:=G.c.Ay,tries:=G.c.tries} ae (k2.trans (Ap.Al F1 ad)) g1 ((Ah _).trans (Ah _)) ?_ ⟨aa.client,aa.Ae,aa.line,aa.seq,aa.uid,aa.state,aa.asked,aa.ans,?_,?_⟩
  ·exact Eb (y:={y1 with wait:=G.c.Ay}) (Eb g1.blk rfl) rfl
  ·simp[hf]
  ·simp
theorem Ul(w:World)(s b:Nat)(wt tr rt:Int)(aa:World->Prop)(s2:w.cell? ⟨s,2,none⟩=some (.int .i64 rt))(a9:w.cell? ⟨b,9,none⟩=some (.int .i64 wt))(JB:w.cell? ⟨b,10,none⟩=some (.int .i64 tr))(z9:w.frozen? ⟨b,9,none⟩=false)(aj:w.frozen? ⟨b,10,none⟩=false)(ac:¬s=b)(ai:1<=wt/\wt<=8)(ah:0<=tr/\tr<=6)
  (HA:Hid (1<wt\/tr=0->aa (w.setCell ⟨b,9,none⟩ (.int .i64 (wt-1)))))
  (HC:Hid (wt=1->0<tr->Calls Tryz.prog 169 #[ptr s,ptr b] (((w.setCell ⟨b,9,none⟩ (.int .i64 (wt-1))).setCell ⟨b,10,none⟩ (.int .i64 (tr-1))).setCell ⟨b,9,none⟩ (.int .i64 rt)) fun e w'=>e=.returned (.tuple #[])/\aa w')):
  Calls Tryz.prog 100 #[ptr s,ptr b] w fun e w'=>e=.returned (.tuple #[])/\aa w':=by
 have e1:IntKind.i64.wrap (wt-1)=wt-1:=by rw[IntKind.wrap_i64];omega
 have e2:IntKind.i64.wrap (tr-1)=tr-1:=by rw[IntKind.wrap_i64];omega
 have ad:¬b=s:=fun e=>ac e.symm
 have af:=lt_of_cell s2;have ag:=lt_of_cell a9;by_cases h1:1<wt
 ·have q1:0<wt-1:=by omega
  have HP:=Ac ((Aa HA) (Or.inl h1));clear HA HC;go_enter Tryz.func100,Tryz.ntmps100;go_wp2;refine C8 0 rfl ?_;go_wp2;refine EQ ?_;go_wp2;go_returns;exact⟨rfl,Aa HP⟩
 ·have ab:wt=1:=by omega
  by_cases h2:tr=0
  ·have HP:=Ac ((Aa HA) (Or.inr h2));clear HA HC;subst ab h2;go_enter Tryz.func100,Tryz.ntmps100;go_wp2;refine C8 0 rfl ?_;go_wp2;refine EQ ?_;go_wp2;go_returns;exact⟨rfl,Aa HP⟩
  ·have h3:0<tr:=by omega
   have HP:=Ac ((Aa HC) ab h3);clear HA HC;subst ab;go_enter Tryz.func100,Tryz.ntmps100;go_wp2;refine C8 0 rfl ?_;go_wp2
   go_step3
   refine⟨rfl,?_⟩;show Code.wp Tryz.prog _ _ _ _;go_wp2_with (first|(go_at_call 169;refine(Aa HP).mono ?_;rintro e w3 ⟨rfl,ae⟩))
   refine Lf ?_;go_wp2;go_returns;exact⟨rfl,ae⟩
theorem LW.aek(h:LW p F G w)(hq:Qe p G w i r y)(ht:r.timed=true):
  Calls Tryz.prog 100 #[ptr p.s,ptr (p.t.ql i)] w fun e w'=>e=.returned (.tuple #[])/\∃F',LW p F' (R.AJ G i) w'/\Ap F F' w w':=by
 have hs:=h.Db.sn i r hq.seen;obtain⟨t1,t3,t4⟩:=hs.timed ht;have aa:=hq.rel;have ew:y.wait=r.wait:=by rw[aa.wait,if_pos ht]
 have et:=aa.tries ht;have ad:=h.wf.cf;unfold R.BD at ad;obtain⟨_,_,_,_,_,_,_,_,_,c9,ac⟩:=Qb hq.blk;rw[ew]at c9;rw[et]at ac;have z:∀{r':R.Sn},r'.seq=r.seq->(r'.seq=0->r'=R.Cs):=fun e q=>absurd (e ▸ q) hq.ne
 have ab:R.AJ G i=if 1<r.wait then R.AB G i {r with wait:=r.wait-1} else if r.tries=0 then R.AB G i {r with wait:=r.wait-1,timed:=false} else R.AL (R.AB G i {r with wait:=G.c.Ay,tries:=r.tries-1}) i:=by
  unfold R.AJ;simp only;rw[R.Bn hq.seen,if_neg (by simp[ht])]
 rw[ab];refine Ul w p.s (p.t.ql i) r.wait r.tries G.c.Ay _ (h.BN.cell 2 _ rfl) c9 ac (open_list hq.blk) (open_list hq.blk) (h.abO hq) t3 t4 ?_ ?_
 ·intro hx;by_cases h1:1<r.wait
  ·rw[if_pos h1];obtain⟨q1,_,q2⟩:=h.Ix (r':={r with wait:=r.wait-1}) (y':={y with wait:=r.wait-1}) hq hq.ne (Ah _) (Eb (j:=9) (v:=.int .i64 (r.wait-1)) hq.blk rfl) ⟨aa.client,aa.Ae,aa.line,aa.seq,aa.uid,aa.state,aa.asked,aa.ans,by simp[ht],aa.tries⟩ ⟨z rfl,hs.seq,hs.some,hs.Ga,hs.wait,hs.ans,fun _=>⟨t1,by simp only;omega,t4⟩⟩;exact⟨F,q1,q2⟩
  ·have h2:r.tries=0:=by omega
   rw[if_neg h1,if_pos h2];obtain⟨q1,_,q2⟩:=h.Ix (r':={r with wait:=r.wait-1,timed:=false}) (y':={y with wait:=r.wait-1}) hq hq.ne (Ah _) (Eb (j:=9) (v:=.int .i64 (r.wait-1)) hq.blk rfl) ⟨aa.client,aa.Ae,aa.line,aa.seq,aa.uid,aa.state,aa.asked,aa.ans,by simp only[if_neg (show ¬(false:Bool)=true by decide)];omega,by simp⟩ ⟨z rfl,hs.seq,hs.some,hs.Ga,hs.wait,hs.ans,by simp⟩;exact⟨F,q1,q2⟩
 ·intro h1 h2;rw[if_neg (by omega),if_neg (by omega)];obtain⟨q1,q0,q2⟩:=h.Ix (r':={r with wait:=G.c.Ay,tries:=r.tries-1}) (y':={y with wait:=G.c.Ay,tries:=r.tries-1}) hq hq.ne (((Ah _).trans (Ah _)).trans (Ah _)) (Eb (j:=9) (v:=.int .i64 G.c.Ay) (y:={y with wait:=r.wait-1,tries:=r.tries-1}) (Eb (j:=10) (v:=.int .i64 (r.tries-1)) (y:={y with wait:=r.wait-1}) (Eb (j:=9) (v:=.int .i64 (r.wait-1)) hq.blk rfl) rfl) rfl) ⟨aa.client,aa.Ae,aa.line,aa.seq,aa.uid,aa.state,aa.asked,aa.ans,by simp[ht],by simp⟩ ⟨z rfl,hs.seq,hs.some,hs.Ga,hs.wait,hs.ans,fun _=>⟨t1,by simp only;omega,by simp only;omega⟩⟩;refine(q1.Nr q0 t1).mono ?_;rintro e w' ⟨rfl,F',g1,g2⟩;exact⟨rfl,F',g1,q2.trans g2⟩
theorem Uj(w:World)(s n:Nat)(bs:Nat->Nat)(J:Value->Nat->World->Prop)(hn:n<=9)
  (ad:Hid (Calls Tryz.prog 99 #[ptr s] w fun e w'=>∃O,e=.returned O/\J O 0 w'))
  (HS:Hid (∀O k wr,J O k wr->∃a c,O=.slice a n c))
  (HR:Hid (∀O k wr,k<n->J O k wr->∃g c,O=.slice (some ⟨g,0,none⟩) n c/\wr.cell? ⟨g,k,none⟩=some (ptr (bs k))/\∃x,wr.cell? ⟨bs k,9,none⟩=some (.int .i64 x)/\(0<x->Calls Tryz.prog 100 #[ptr s,ptr (bs k)] wr fun e w'=>e=.returned (.tuple #[])/\J O (k+1) w')/\(¬0<x->J O (k+1) wr))):
  Calls Tryz.prog 59 #[ptr s] w fun e w'=>e=.returned (.tuple #[])/\∃O,J O n w':=by
 go_enter Tryz.func59,Tryz.ntmps59;go_wp2_with fail
 refine(Aa ad).mono ?_;rintro e w1 ⟨O,rfl,hJ⟩;obtain⟨a,c,hO⟩:=(Aa HS) O 0 w1 hJ;subst hO;have H0:=Ac hJ;clear hJ;go_wp2;go_loopw [7] (fun iv wr=>∃k:Nat,k<=n/\iv=.int .i64 k/\J (.slice a n c) k wr) (fun iv _=>n-(intOf iv).toNat)
 case atStart=>exact⟨0,Nat.zero_le _,rfl,Aa H0⟩
 case round=>
  obtain⟨k,hk,rfl,hJ⟩:=hrel;by_cases ae:k<n
  ·obtain⟨g,c',hO,ab,x,hx,aa,ac⟩:=(Aa HR) _ k wr ae hJ;cases hO;have HY:=Ac aa;have HN:=Ac ac;clear aa ac hJ;by_cases h1:0<x
   ·have HC:=Ac ((Aa HY) h1);go_wp2_with (first|(go_at_call 100;refine(Aa HC).mono ?_;rintro e w3 ⟨rfl,af⟩))
    go_roundw
    case rel=>exact⟨k+1,by omega,by go_num,af⟩
    case measure=>simp[intOf];omega
   ·have HI:=Ac ((Aa HN) (by omega));go_wp2;go_roundw
    case rel=>exact⟨k+1,by omega,by go_num,Aa HI⟩
    case measure=>simp[intOf];omega
  ·obtain rfl:k=n:=by omega
   have HI:=Ac hJ;clear hJ;go_wp2;go_returns;exact⟨rfl,_,Aa HI⟩
def FW(G:R.Wd)(i n:Nat):R.Wd:=(List.range n).foldl (fun (G:R.Wd) (k:Nat)=>R.AU G (i:Int) (k:Int)) G
theorem Jy(G:R.Wd)(i n:Nat):FW G i (n+1)=R.AU (FW G i n) i n:=by
 simp[FW,List.range_succ]
theorem abr(G:R.Wd)(to:Int)(p:Pk):(R.Bg G to p).c=G.c:=by unfold R.Bg;split<;>rfl
theorem N2(G:R.Wd)(to:Int)(p:Pk):(R.Bg G to p).Ad=G.Ad:=by unfold R.Bg;split<;>rfl
theorem Uo(G:R.Wd)(i k:Nat):(R.AU G i k).c=G.c:=by
 unfold R.AU R.AA R.Fw;simp only;repeat' split
 all_goals first|rfl|(rw[abr];rfl)
theorem P7(G:R.Wd)(i n:Nat):(FW G i n).c=G.c:=by
 induction n with
 |zero=>rfl
 |succ n ih=>rw[Jy,Uo,ih]
theorem N4{k:Nat}{l:R.Ln}(hl:R.BH G i k=l)(h:¬l.state=1):R.AU G i k=G:=by
 unfold R.AU;simp only[hl];rw[if_pos h]
def Jf(G:R.Wd)(n:Nat):R.Wd:=(List.range n).foldl (fun (G:R.Wd) (i:Nat)=>YtblomippkddgiabGreatDoor.FW G i G.c.lines.toNat) G
theorem ND(G:R.Wd)(n:Nat):Jf G (n+1)=YtblomippkddgiabGreatDoor.FW (Jf G n) n (Jf G n).c.lines.toNat:=by
 simp[Jf,List.range_succ]
theorem abz(G:R.Wd)(n:Nat):(Jf G n).c=G.c:=by
 induction n with
 |zero=>rfl
 |succ n ih=>rw[ND,P7,ih]
theorem P8(G:R.Wd):R.EG G=Jf G G.Ad.length:=rfl
theorem Xh(w:World)(cb lb nl:Nat)(I:Nat->World->Prop)(h0:I 0 w)(hc:Hid (∀k wr,I k wr->wr.cell? ⟨cb,3,none⟩=some (.slice (some ⟨lb,0,none⟩) nl nl)))
  (hr:Hid (∀k wr,k<nl->I k wr->∃st,wr.cell? ⟨lb,k*10,none⟩=some (.int .i64 st)/\(st=1->Calls Tryz.prog 98 #[ptr cb,.int .i64 (k:Int)] wr fun e w'=>e=.returned (.tuple #[])/\I (k+1) w')/\(¬st=1->I (k+1) wr))) (hn:nl<=1000):
  Calls Tryz.prog 58 #[ptr cb] w fun e w'=>e=.returned (.tuple #[])/\I nl w':=by
 have b3:=(Aa hc) 0 w h0;have H0:=Ac h0;clear h0;go_enter Tryz.func58,Tryz.ntmps58;go_wp2;go_loopw [8] (fun iv wr=>∃k:Nat,k<=nl/\iv=.int .i64 k/\I k wr) (fun iv _=>nl-(intOf iv).toNat)
 case atStart=>exact⟨0,Nat.zero_le _,rfl,Aa H0⟩
 case round=>
  obtain⟨k,hk,rfl,hI⟩:=hrel;have d3:=(Aa hc) k wr hI;by_cases ac:k<nl
  ·obtain⟨st,ae,aa,ab⟩:=(Aa hr) k wr ac hI;have HY:=Ac aa;have HN:=Ac ab;clear aa ab;by_cases h1:st=1
   ·have HC:=Ac ((Aa HY) h1);subst h1;go_wp2_with (first|(go_at_call 98;refine(Aa HC).mono ?_;rintro e w3 ⟨rfl,ad⟩))
    go_roundw
    case rel=>exact⟨k+1,by omega,by go_num,ad⟩
    case measure=>simp[intOf];omega
   ·have e1:(st==1)=false:=by simpa using h1
    have HI:=Ac ((Aa HN) h1);go_wp2;go_roundw
    case rel=>exact⟨k+1,by omega,by go_num,Aa HI⟩
    case measure=>simp[intOf];omega
  ·obtain rfl:k=nl:=by omega
   go_wp2;go_returns;exact⟨rfl,hI⟩
theorem Up(w:World)(x sv cs n cap:Nat)(cb:Nat->Nat)(I:Nat->World->Prop)(aa:World->Prop)(h0:I 0 w)(hx:w.cell? ⟨x,2,none⟩=some (.slice (some ⟨cs,0,none⟩) n cap))
  (hr:Hid (∀i wr,i<n->I i wr->wr.cell? ⟨cs,i,none⟩=some (ptr (cb i))/\Calls Tryz.prog 58 #[ptr (cb i)] wr fun e w'=>e=.returned (.tuple #[])/\I (i+1) w')) (hn:n<=1000)
  (hs:Hid (∀wr,I n wr->wr.cell? ⟨x,1,none⟩=some (ptr sv)/\Calls Tryz.prog 59 #[ptr sv] wr fun e w'=>e=.returned (.tuple #[])/\aa w')):
  Calls Tryz.prog 32 #[ptr x] w fun e w'=>e=.returned (.tuple #[])/\aa w':=by
 have H0:=Ac h0;clear h0;go_enter Tryz.func32,Tryz.ntmps32;go_wp2;go_loopw [9] (fun iv wr=>∃k:Nat,k<=n/\iv=.int .i64 k/\I k wr) (fun iv _=>n-(intOf iv).toNat)
 case atStart=>exact⟨0,Nat.zero_le _,rfl,Aa H0⟩
 case round=>
  obtain⟨k,hk,rfl,hI⟩:=hrel;by_cases ac:k<n
  ·obtain⟨ad,hC⟩:=(Aa hr) k wr ac hI;have HC:=Ac hC;clear hC;go_wp2_with (first|(go_at_call 58;refine(Aa HC).mono ?_;rintro e w3 ⟨rfl,ab⟩))
   go_roundw
   case rel=>exact⟨k+1,by omega,by go_num,ab⟩
   case measure=>simp[intOf];omega
  ·obtain rfl:k=n:=by omega
   obtain⟨ad,hC⟩:=(Aa hs) wr hI;have HC:=Ac hC;clear hC;go_wp2_with (first|(go_at_call 59;refine(Aa HC).mono ?_;rintro e w3 ⟨rfl,ab⟩))
   go_returns;exact⟨rfl,ab⟩
theorem LW.FW(h:LW p F G w)(hi:i<G.Ad.length):
  Calls Tryz.prog 58 #[ptr (p.cb i)] w fun e w'=>e=.returned (.tuple #[])/\∃F',LW p F' (YtblomippkddgiabGreatDoor.FW G i G.c.lines.toNat) w'/\Ap F F' w w':=by
 have get:∀{F':Aq} {n:Nat} {wr:World},LW p F' (YtblomippkddgiabGreatDoor.FW G i n) wr->∃c,(YtblomippkddgiabGreatDoor.FW G i n).Ad[i]?=some c/\c.lines.length=G.c.lines.toNat:=fun {F' n wr} hw=>by
  have e1:=hw.wf.Gt;have e0:=h.wf.Gt;rw[P7,<-e0]at e1;have ab:i<(YtblomippkddgiabGreatDoor.FW G i n).Ad.length:=by omega
  refine⟨_,List.getElem?_eq_getElem ab,?_⟩;have:=(hw.wf.cl i _ (List.getElem?_eq_getElem ab)).lines;rw[P7]at this;omega
 have ah:∀{F':Aq} {n:Nat} {wr:World},LW p F' (YtblomippkddgiabGreatDoor.FW G i n) wr->wr.cell? ⟨p.cb i,3,none⟩=some (.slice (some ⟨p.lb i,0,none⟩) G.c.lines.toNat G.c.lines.toNat):=fun {F' n wr} hw=>by
  obtain⟨c,hc,hl⟩:=get hw;have:=(Ic hw hc).a3;rw[hl]at this;exact this
 have af:=h.wf.cf;unfold R.BD at af;refine Xh w (p.cb i) (p.lb i) G.c.lines.toNat (fun n wr=>∃F',LW p F' (YtblomippkddgiabGreatDoor.FW G i n) wr/\Ap F F' w wr) ⟨F,h,Ap.refl F w⟩ ?_ ?_ (by omega)
 ·rintro k wr ⟨F',hw,_⟩;exact ah hw
 ·rintro k wr hk ⟨F',hw,ac⟩;obtain⟨c,hc,hl⟩:=get hw;have aa:c.lines[k]?=some (c.lines[k]'(by omega)):=List.getElem?_eq_getElem (by omega);obtain⟨xs,x,hL,hR,hx,ad,ag,_⟩:=hw.line hc aa;refine⟨x.state,ag.a0,fun h1=>?_,fun h1=>?_⟩
  ·refine(hw.wait hc aa (by rw[<-ad.state];exact h1)).mono ?_;rintro e w' ⟨rfl,ae,q1,q2⟩;exact⟨rfl,ae,by rw[Jy];exact q1,ac.trans q2⟩
  ·refine⟨F',?_,ac⟩;rw[Jy,N4 (R.CR hc aa) (by rw[<-ad.state];exact h1)];exact hw
end Go.Proofs.YtblomippkddgiabGreatDoor
