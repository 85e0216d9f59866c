import Derived.Test.YtblomippkddgiabGreatDoorJ33
set_option maxRecDepth 100000
set_option maxHeartbeats 2000000
namespace Go.Proofs.YtblomippkddgiabGreatDoor
open Go.RowKit
variable {F:Aq}{b i:Nat}{o:Obj}{P:Pk}{p:Pl}{M:R.Bk}{d:R.Cd}{r:R.Sn}{G:R.Wd}{y:JH}{W w w':World}
theorem LW.J5(h:LW p F G w){js:List R.Jb}(hk:Af (fun k=>k=p.t.jc) w w')(hj:∃a b:Nat,w'.heap[p.t.jc]?=some (.chan G.c.table.toNat (js.map PE).toArray false a b false))(ac:R.Md G.c G.Aj G.seen js):LW p F {G with jobs:=js} w'/\Ap F F w w':=by
 obtain⟨ja,jb,aa⟩:=h.BN.jobs;have hs:=h.BN.J5 hk hj;have hE:Ca w (fun k=>k=p.t.jc):=fun b hb=>afM ⟨_,_,_,_,_,_,by subst hb;exact aa⟩
 have ab:R.Wf (Bs G G.Ab G.Aj G.seen js):=⟨h.wf.cf,h.wf.Gt,fun j c hc=>⟨(h.wf.cl j c hc).lines,(h.wf.cl j c hc).Ae,(h.wf.cl j c hc).bound,(h.wf.cl j c hc).line⟩,h.wf.E3,h.wf.Eo,h.wf.sv,h.wf.Kh,h.wf.nm,h.wf.st,h.wf.nd,h.wf.I5⟩;have q:=h.Ha hs hk hE (fun _ r=>r) (fun k hf=>afT (h.lt k hf) hk.size) ab ac (fun i c _ u=>rfl);exact⟨q,hk.mono (fun k _ e=>by rw[e];exact h.BN.BP.2.1),fun _ r=>afJ r⟩
theorem ZV{F':Aq}{B:Nat}(hB:∀k,F k->k<B)(hw:Ap F F' w w'):Qh B w w':=by
 refine⟨hw.keeps.size,fun x hx hl=>?_⟩;refine hw.keeps.block x hl (fun hf=>?_);have:=hB x hf;omega
structure ada(P:Pk)(i:Nat)(r:R.Sn)(y:JH):Prop where
 client:y.client=P.client
 Ae:y.Ae=P.Ae
 line:y.line=P.line
 seq:y.seq=P.seq
 uid:y.uid=P.uid
theorem adU(hq:Qe p G w i r y)(hp:R.FY M G P d i)(hs:r.seq=P.seq)(hu:r.uid=P.uid):ada P i r y:=by
 have hk:=hp.key;have hr:=hq.rel;simp only[R.D4,R.Key.mk.injEq]at hk;exact⟨by rw[hr.client,hk.1],by rw[hr.Ae,hk.2.1],by rw[hr.line,hk.2.2.1],by rw[hr.seq,hs],by rw[hr.uid,hu]⟩
def Qi(G:R.Wd)(i:Nat)(r:R.Sn)(P:Pk):R.Wd:=
 if P.part=P.off-1 then {R.AB G i {r with state:=2,message:=r.message++P.body,pieces:=r.pieces+1} with jobs:=G.jobs++[⟨P.client,P.line,P.Ae,P.seq,P.uid⟩]}
 else R.AB G i {r with message:=r.message++P.body,pieces:=r.pieces+1}
theorem LW.aeo(h:LW p F G w)(hI:R.Inv M G)(hq:Qe p G w i r y)(h1:r.state=1)(hp:R.FY M G P d i)(ho:P.off=R.Ag d.msg)(hb:P.body=R.Be d.msg P.part)(hs:r.seq=P.seq)(aC:P.part=r.pieces):
  Calls Tryz.prog 262 #[ptr p.s,ptr (p.t.ql i),pv P] w fun e w'=>(e=.returned (.bool false)/\(P.part=P.off-1/\G.c.table<=(G.jobs.length:Int))/\LW p F G w'/\Ap F F w w')\/(e=.returned (.bool true)/\¬(P.part=P.off-1/\G.c.table<=(G.jobs.length:Int))/\LW p F (Qi G i r P) w'/\Ap F F w w'):=by
 have ag:=h.Db.sn i r hq.seen;obtain⟨g1,g2,g3⟩:=ag.Ga h1;have hr:=hq.rel;have aG:=hp.lt;obtain⟨d',an⟩:=hI.sn i r hq.seen hq.ne;have aj:=hp.key;have aw:d'=d:=by
  have:=an.made;rw[hs,<-aj,hp.made]at this;exact(Option.some.inj this).symm
 subst aw;have ap:r.uid=P.uid:=by rw[an.uid,hp.uid]
 have ae:=adU hq hp hs ap;obtain⟨c0,c1,c2,c3,c4,c5,c6,c7,c8,c9,aE⟩:=Qb hq.blk;have ai:=hr.asked (afJ h1);rw[ai]at c6;rw[ae.client]at c0;rw[ae.Ae]at c1;rw[ae.line]at c2;rw[ae.seq]at c3;rw[ae.uid]at c4;have am:=hp.right.2.2.2.2.2.2.1;have aB:=hp.right.2.2.2.2.2.2.2.1;have aF:P.body.length<=8:=by rw[hb,R.G0];omega
 have au:∀st:Int,(st=1/\¬P.part=P.off-1)\/(st=2/\P.part=P.off-1)->R.Qg (G.Aj.getD (i / 3) 0) {r with state:=st,message:=r.message++P.body,pieces:=r.pieces+1}:=fun st aJ=>by
  have aH:(r.message++P.body).length<=72:=by rw[afS];omega
  have h0:=ag.some hq.ne;refine⟨fun e=>absurd e hq.ne,ag.seq,fun _=>⟨h0.1,h0.2.1,by simp only;omega⟩,fun e=>?_,fun e=>?_,fun e=>by simp only at e;omega,fun e=>?_⟩
  ·simp only at e;have aI:¬P.part=P.off-1:=by omega
   have h8:P.body.length=8:=by
    have:=hp.right.2.2.2.2.2.2.2.2;have ac:P.kind=1\/P.kind=5\/¬(P.kind=1\/P.kind=5):=by omega
    have ar:=R.GZ (s:=d'.msg) (k:=P.part) aB.1;rw[<-ho,if_pos (by omega)]at ar;rw[hb];exact ar
   simp only;rw[afS];omega
  ·simp only at e ⊢;rw[afS];have ah:=an.Ga h1;have al:r.message++P.body=d'.msg:=by
    obtain⟨n,hn⟩:∃n:Nat,r.pieces=(n:Int):=⟨r.pieces.toNat,by omega⟩;rw[ah.1,hb,aC,hn,afY,R.He,R.G5];rw[<-ho];omega
   have h2:2<=d'.msg.length:=by simp[R.Cd.msg,A5]
   have:=congrArg List.length al;rw[afS]at this;omega
  ·have ht:=(ag.timed e).1;omega
 by_cases hl:P.part=P.off-1
 ·obtain⟨ja,jb,hj⟩:=h.BN.jobs;have aq:w.cell? ⟨p.s,19,none⟩=some (.chan (some p.t.jc)):=h.BN.cell 19 _ rfl;have az:=lt_of_cell aq;have ay:=(afR.1 hj).1;have av:=h.wf.cf;unfold R.BD at av;have af:∀wa,Below w.heap.size w wa->wa.cell? ⟨p.s,19,none⟩=some (.chan (some p.t.jc))/\wa.heap[p.t.jc]?=some (.chan G.c.table.toNat (G.jobs.map PE).toArray false ja jb false):=fun wa aa=>⟨(aa.cell (p:=⟨p.s,19,none⟩) az).trans aq,by rw[aa.block _ ay];exact hj⟩
  by_cases ab:G.c.table<=(G.jobs.length:Int)
  ·refine(XA w p.s (p.t.ql i) P P.client P.Ae P.line P.seq P.uid c0 c1 c2 c3 c4 am hl (fun wa aa=>?_)).mono ?_
   ·exact Rp wa p.s p.t.jc G.c.table.toNat ja jb _ P.client P.Ae P.line P.seq P.uid (af wa aa).1 (af wa aa).2 (by simp;omega)
   ·rintro e w' ⟨rfl,aa⟩;exact afJ ⟨rfl,⟨hl,ab⟩,h.below aa,Ap.Al F aa⟩
  ·refine(XB w p.s (p.t.ql i) P r.message P.client P.Ae P.line P.seq P.uid 0 (fun w1=>LW p F {G with jobs:=G.jobs++[⟨P.client,P.line,P.Ae,P.seq,P.uid⟩]} w1/\Ap F F w w1) (fun w1=>LW p F (Qi G i r P) w1/\Ap F F w w1) c0 c1 c2 c3 c4 am hl (by omega) (by omega) (fun wa aa=>?_) ?_ ?_).mono ?_
   ·refine(Rq wa p.s p.t.jc G.c.table.toNat ja jb _ P.client P.Ae P.line P.seq P.uid (af wa aa).1 (af wa aa).2 (by simp;omega)).mono ?_;rintro e w' ⟨rfl,ax,ak⟩;have aD:R.Md G.c G.Aj G.seen (G.jobs++[⟨P.client,P.line,P.Ae,P.seq,P.uid⟩]):=⟨h.Db.ll,h.Db.lv,h.Db.sl,h.Db.sn,by simp;omega,fun j hj=>by
     rcases agb.1 hj with q|q
     ·exact h.Db.jb j q
     ·simp only[af3]at q;subst q;exact⟨hp.right.2.1,hp.right.2.2.2.1⟩⟩
    obtain⟨q1,q2⟩:=(h.below aa).J5 (js:=G.jobs++[⟨P.client,P.line,P.Ae,P.seq,P.uid⟩]) ak ⟨ja+1,jb,by rw[ax];congr 2;simp[PE]⟩ aD;exact⟨rfl,⟨q1,(Ap.Al F aa).trans q2⟩,fun x hx aA=>ak.block x aA (by omega),ak.size⟩
   ·rintro w1 ⟨q1,_⟩;obtain⟨y1,k1,_⟩:=q1.q (i:=i) (r:=r) hq.seen hq.ne;obtain⟨_,_,_,_,_,f5,f6,_⟩:=Qb k1.blk;rw[k1.rel.state,h1]at f5;rw[k1.rel.asked (afJ h1)]at f6;exact⟨f6,open_list k1.blk,f5,open_list k1.blk⟩
   ·rintro w1 wa ⟨q1,q2⟩ ad;obtain⟨y1,k1,_⟩:=q1.q (i:=i) (r:=r) hq.seen hq.ne;have ac:=k1.rel;obtain⟨m1,_,m2⟩:=q1.Ix (r':={r with state:=2,message:=r.message++P.body,pieces:=r.pieces+1}) (y':={y1 with asked:=r.message++P.body,state:=1}) k1 hq.ne ((Ah _).trans (Ah _)) (Eb (j:=5) (v:=.int .i64 1) (y:={y1 with asked:=r.message++P.body}) (Eb (j:=6) (v:=.string (str (r.message++P.body))) k1.blk rfl) rfl) ⟨ac.client,ac.Ae,ac.line,ac.seq,ac.uid,rfl,fun _=>rfl,fun e=>by simp only at e;omega,ac.wait,ac.tries⟩ (au 2 (afM ⟨rfl,hl⟩));have ao:((w1.setCell ⟨p.t.ql i,6,none⟩ (.string (str (r.message++P.body)))).setCell ⟨p.t.ql i,5,none⟩ (.int .i64 1)).heap.size=w1.heap.size:=by simp
    rw[<-ao]at ad;refine⟨?_,(q2.trans m2).trans (Ap.Al F ad)⟩;unfold Qi;rw[if_pos hl];exact m1.below ad
   ·rintro e w' ⟨rfl,q1,q2⟩;exact afM ⟨rfl,fun q=>ab q.2,q1,q2⟩
 ·refine(XC w p.s (p.t.ql i) P r.message (fun w1=>LW p F (Qi G i r P) w1/\Ap F F w w1) c6 (open_list hq.blk) (by omega) (by omega) am hl (fun wa ad=>?_)).mono ?_
  ·obtain⟨m1,_,m2⟩:=h.Ix (r':={r with message:=r.message++P.body,pieces:=r.pieces+1}) (y':={y with asked:=r.message++P.body}) hq hq.ne (Ah _) (Eb (j:=6) (v:=.string (str (r.message++P.body))) hq.blk rfl) ⟨hr.client,hr.Ae,hr.line,hr.seq,hr.uid,hr.state,fun _=>rfl,hr.ans,hr.wait,hr.tries⟩ (au r.state (afJ ⟨h1,hl⟩));have ao:(w.setCell ⟨p.t.ql i,6,none⟩ (.string (str (r.message++P.body)))).heap.size=w.heap.size:=by simp
   rw[<-ao]at ad;refine⟨?_,m2.trans (Ap.Al F ad)⟩;unfold Qi;rw[if_neg hl];exact m1.below ad
  ·rintro e w' ⟨rfl,q1,q2⟩;exact afM ⟨rfl,fun q=>hl q.1,q1,q2⟩
theorem Uf(hk:P.kind=1):Nw G P=R.C3 G P 2 P.part P.off:=by
 unfold Nw;rw[if_neg (by omega)]
theorem LW.UU(h:LW p F G w)(hI:R.Inv M G)(hq:Qe p G w i r y)(h1:r.state=1)(hp:R.FY M G P d i)(hk:P.kind=1)(ho:P.off=R.Ag d.msg)(hb:P.body=R.Be d.msg P.part)(hs:r.seq=P.seq):
  Calls Tryz.prog 251 #[ptr p.s,ptr (p.t.ql i),pv P] w fun e w'=>e=.returned (.tuple #[])/\∃F',LW p F' (if P.part<=r.pieces then R.CL G i P else G) w'/\Ap F F' w w':=by
 have ad:=h.Db.sn i r hq.seen;obtain⟨g1,g2,g3⟩:=ad.Ga h1;have hr:=hq.rel;have c6:=(Qb hq.blk).a6;rw[hr.asked (afJ h1)]at c6;have ac:R.Ag r.message=r.pieces:=by unfold R.Ag;omega
 have ab:R.AY G i=r:=R.Bn hq.seen;have eG:R.CL G i P=if P.part=r.pieces then (if P.part=P.off-1/\G.c.table<=(G.jobs.length:Int) then G else R.IX (Qi G i r P) P) else R.IX G P:=by
  unfold R.CL Qi;simp only[ab];by_cases q1:P.part=r.pieces
  ·rw[if_pos q1,if_pos q1];by_cases q2:P.part=P.off-1
   ·rw[if_pos q2,if_pos q2];by_cases q3:G.c.table<=(G.jobs.length:Int)
    ·rw[if_pos q3,if_pos ⟨q2,q3⟩]
    ·rw[if_neg q3,if_neg (fun q=>q3 q.2)]
   ·rw[if_neg q2,if_neg q2,if_neg (fun q=>q2 q.1)]
  ·rw[if_neg q1,if_neg q1]
 refine QK w p.s (p.t.ql i) P r.message r.pieces (fun w1=>∃K,LW p F K w1/\Ap F F w w1/\R.IX K P=(if P.part<=r.pieces then R.CL G i P else G)) _ c6 (fun w=>by
  have:=CS r.message w (by omega);rw[ac]at this;exact this) (fun q wa aa=>?_) (fun q wa aa=>?_) (fun q wa aa=>?_) (fun q w1=>?_) (fun q w1=>?_)
 ·rw[if_neg (by omega)];exact⟨F,h.below aa,Ap.Al F aa⟩
 ·refine((h.below aa).aeo hI (hq.below aa) h1 hp ho hb hs q).mono ?_;rintro e w' (⟨rfl,q1,q2,q3⟩|⟨rfl,q1,q2,q3⟩)
  ·refine afJ ⟨rfl,F,?_,(Ap.Al F aa).trans q3⟩;rw[if_pos (by omega),eG,if_pos q,if_pos q1];exact q2
  ·refine afM ⟨rfl,⟨Qi G i r P,q2,(Ap.Al F aa).trans q3,?_⟩,ZV h.lt q3⟩;rw[if_pos (by omega),eG,if_pos q,if_neg q1]
 ·refine⟨G,h.below aa,Ap.Al F aa,?_⟩;rw[if_pos (by omega),eG,if_neg (by omega)]
 ·rintro ⟨K,k1,k2,k3⟩;refine(k1.abR hp.right).mono ?_;rintro e w' ⟨rfl,F',m1,m2⟩;refine⟨rfl,F',?_,k2.trans m2⟩;rw[<-k3];unfold R.IX;rw[if_pos q,<-Uf hk];exact m1
 ·rintro ⟨K,k1,k2,k3⟩;refine⟨F,?_,k2⟩;rw[<-k3];unfold R.IX;rw[if_neg (by rw[q];simp)];exact k1
theorem LW.acr(h:LW p F G w)(hI:R.Inv M G)(hq:Qe p G w i r y)(hp:R.FY M G P d i)(hk:(P.kind=1/\P.off=R.Ag d.msg/\P.body=R.Be d.msg P.part)\/P.kind=3)(hs:r.seq=P.seq):
  Calls Tryz.prog 216 #[ptr p.s,ptr (p.t.ql i),pv P] w fun e w'=>e=.returned (.tuple #[])/\∃F',LW p F' (R.Dq G i P) w'/\Ap F F' w w':=by
 have ab:=h.Db.sn i r hq.seen;have ac:=(ab.some hq.ne).2.2;have hr:=hq.rel;have c5:=(Qb hq.blk).a5;rw[hr.state]at c5;have aa:R.AY G i=r:=R.Bn hq.seen;have eK:R.Dq G i P=if r.state=1 then (if P.kind=1/\P.part<=r.pieces then R.CL G i P else G) else if r.state=4 then R.C3 G P 7 0 2 else if P.please=false then G else if r.state=3 then R.Em G i else Nw G P:=by
  unfold R.Dq Nw;simp only[aa]
 rw[eK];refine TE w p.s (p.t.ql i) (r.state-1) P _ c5 (by omega) (fun q wa hb=>?_) (fun q q' wa hb=>?_) (fun q q' wa hb=>?_) (fun q q' wa hb=>?_) (fun q wa hb=>?_)
 ·rw[if_neg (by omega),if_pos (by omega)];refine((h.below hb).PU hp.right (afJ rfl)).mono ?_;rintro e w' ⟨rfl,F',m1,m2⟩;exact⟨rfl,F',m1,(Ap.Al F hb).trans m2⟩
 ·rw[if_neg (by omega),if_neg (by omega),if_neg (by rw[q'];simp),if_pos (by omega)];refine((h.below hb).tell (hq.below hb) (by omega)).mono ?_;rintro e w' ⟨rfl,F',m1,m2⟩;exact⟨rfl,F',m1,(Ap.Al F hb).trans m2⟩
 ·rw[if_neg (by omega),if_neg (by omega),if_neg (by rw[q'];simp),if_neg (by omega)];refine((h.below hb).abR hp.right).mono ?_;rintro e w' ⟨rfl,F',m1,m2⟩;exact⟨rfl,F',m1,(Ap.Al F hb).trans m2⟩
 ·rw[if_pos (by omega)];rcases hk with ⟨_,k2,k3⟩|k2
  ·refine((h.below hb).UU hI (hq.below hb) (by omega) hp q' k2 k3 hs).mono ?_;rintro e w' ⟨rfl,F',m1,m2⟩;refine⟨rfl,F',?_,(Ap.Al F hb).trans m2⟩;by_cases q2:P.part<=r.pieces
   ·rw[if_pos ⟨q',q2⟩];rw[if_pos q2]at m1;exact m1
   ·rw[if_neg (fun q3=>q2 q3.2)];rw[if_neg q2]at m1;exact m1
  ·omega
 ·have hG:(if r.state=1 then (if P.kind=1/\P.part<=r.pieces then R.CL G i P else G) else if r.state=4 then R.C3 G P 7 0 2 else if P.please=false then G else if r.state=3 then R.Em G i else Nw G P)=G:=by
   rcases q with ⟨q1,q2⟩|⟨q1,q2⟩
   ·rw[if_neg (by omega),if_neg (by omega),if_pos q2]
   ·rw[if_pos (by omega),if_neg (fun q3=>q2 q3.1)]
  rw[hG];exact⟨F,h.below hb,Ap.Al F hb⟩
theorem Xi(w:World)(cb lb nl k:Nat)(lf st sq:Int)(P:Pk)(hk:k<nl)(hP:P.line=(k:Int))(b1:w.cell? ⟨cb,1,none⟩=some (.int .i64 lf))(b3:w.cell? ⟨cb,3,none⟩=some (.slice (some ⟨lb,0,none⟩) nl nl))(a0:w.cell? ⟨lb,k*10,none⟩=some (.int .i64 st))(a1:w.cell? ⟨lb,k*10+1,none⟩=some (.int .i64 sq)):
  Calls Tryz.prog 158 #[ptr cb,pv P] w fun e w'=>e=.returned (.bool (decide (st=1/\lf=P.Ae/\sq=P.seq)))/\Below w.heap.size w w':=by
 obtain⟨kd,cl,li,ln,aa,u,pa,o,pl,body⟩:=P;dsimp only[pv]at *;subst hP;have ab:=lt_of_cell b1;have ac:=lt_of_cell a0;have q1:(0:Int)<=(k:Int):=by omega
 have q2:(k:Int)<(nl:Int):=by omega
 have HB:Hid (∀o,Below w.heap.size w (w.alloc o)):=fun o=>(Below.refl _ _).alloc (afI _) _
 generalize str body=SB at *;by_cases h1:st=1
 ·have e1:(st==1)=true:=by simpa using h1
  by_cases h2:lf=li
  ·have e2:(lf==li)=true:=by simpa using h2
   by_cases h3:sq=aa
   ·have e3:(sq==aa)=true:=by simpa using h3
    rw[show decide (st=1/\lf=li/\sq=aa)=true by simp[h1,h2,h3]];clear h1 h2 h3;go_enter Tryz.func158,Tryz.ntmps158;go_wp2_with fail
    go_quiet (fail);go_wp2_with fail
    go_quiet (fail);go_wp2;go_returns;exact⟨rfl,below_drewN (below_drewN ((Aa HB) _) _) _⟩
   ·have e3:(sq==aa)=false:=by simpa using h3
    rw[show decide (st=1/\lf=li/\sq=aa)=false by simp[h3]];clear h1 h2 h3;go_enter Tryz.func158,Tryz.ntmps158;go_wp2_with fail
    go_quiet (fail);go_wp2_with fail
    go_quiet (fail);go_wp2;go_returns;exact⟨rfl,below_drewN (below_drewN ((Aa HB) _) _) _⟩
  ·have e2:(lf==li)=false:=by simpa using h2
   rw[show decide (st=1/\lf=li/\sq=aa)=false by simp[h2]];clear h1 h2;go_enter Tryz.func158,Tryz.ntmps158;go_wp2_with fail
   go_quiet (fail);go_wp2_with fail
   go_quiet (fail);go_wp2;go_returns;exact⟨rfl,below_drewN (below_drewN ((Aa HB) _) _) _⟩
 ·have e1:(st==1)=false:=by simpa using h1
  rw[show decide (st=1/\lf=li/\sq=aa)=false by simp[h1]];clear h1;go_enter Tryz.func158,Tryz.ntmps158;go_wp2_with fail
  go_quiet (fail);go_wp2_with fail
  go_quiet (fail);go_wp2;go_returns;exact⟨rfl,below_drewN (below_drewN ((Aa HB) _) _) _⟩
theorem Yf(w:World)(cb:Nat)(P:Pk)(aa:World->Prop)
  (HS:Hid (∀wa,Below w.heap.size w wa->Calls Tryz.prog 204 #[ptr cb,.int .i64 P.line,NL 6 0 0 0 0 0 P.part P.off false ⟨#[]⟩] wa fun e w'=>e=.returned (.tuple #[])/\aa w')):
  Calls Tryz.prog 217 #[ptr cb,pv P] w fun e w'=>e=.returned (.tuple #[])/\aa w':=by
 have HB:Hid (∀o,Below w.heap.size w (w.alloc o)):=fun o=>(Below.refl _ _).alloc (afI _) _
 go_enter Tryz.func217,Tryz.ntmps217;go_wp2_with (first|(go_at_call 204;refine((Aa HS) _ ((Aa HB) _)).mono ?_;rintro e w3 ⟨rfl,ab⟩))
 go_returns;exact⟨rfl,ab⟩
theorem Qz(w:World)(b k:Nat)(ra:Option Addr)(rn rc:Nat)(xs:List CU)(x:CU)(ad:∃a n c,x.rv=.slice a n c)(h:w.heap[b]?=some (.cells (tab CU.cells xs).toArray 129 (0,0)))(hx:xs[k]?=some x):
  Calls Tryz.prog 218 #[.pointer (some ⟨b,k*10,none⟩),.slice ra rn rc] w fun e w'=>e=.returned (.tuple #[])/\w'.heap[b]?=some (.cells (tab CU.cells (xs.set k {JR 2 x.seq with rv:=.slice ra rn rc})).toArray 129 (0,0))/\Af (fun q=>q=b) w w':=by
 have H:=Ac (ML w b k 2 xs x ad h hx);have hk:=(afG.1 hx).1;have HP:Hid (∀w':World,w'.heap[b]?=some (.cells (tab CU.cells (xs.set k (JR 2 x.seq))).toArray 129 (0,0))->(w'.setCell ⟨b,k*10+2,none⟩ (.slice ra rn rc)).heap[b]?=some (.cells (tab CU.cells (xs.set k {JR 2 x.seq with rv:=.slice ra rn rc})).toArray 129 (0,0))/\(∃a n c,w'.cell? ⟨b,k*10+2,none⟩=some (.slice a n c))/\w'.frozen? ⟨b,k*10+2,none⟩=false/\b<w'.heap.size):=fun w' hw=>by
  have ae:(xs.set k (JR 2 x.seq))[k]?=some (JR 2 x.seq):=by simp[hk]
  have e:=BS (j:=2) (x':={JR 2 x.seq with rv:=.slice ra rn rc}) (v:=.slice ra rn rc) hw ae (by omega) rfl;simp only[ag5]at e;exact⟨e.1,⟨_,_,_,(Yu hw ae).a2⟩,open_list hw,lt_of_block hw⟩
 clear h hx ad;go_enter Tryz.func218,Tryz.ntmps218;go_wp2_with (first|(go_at_call 167;refine(Aa H).mono ?_;rintro e w1 ⟨rfl,aa,ab⟩;have hq:=(Aa HP) w1 aa;obtain⟨ac,⟨qa,qn,qc,ah⟩,ai,aj⟩:=hq;have af:=Ac ac;have ag:=Ac ab;clear aa ac ab))
 go_returns;exact⟨rfl,Aa af,(Aa ag).trans (Ah _)⟩
theorem ab2(w:World)(cb lb nl k:Nat)(ac:Int)(P:Pk)(hk:k<nl)(hP:P.line=(k:Int))(b3:w.cell? ⟨cb,3,none⟩=some (.slice (some ⟨lb,0,none⟩) nl nl))(a6:w.cell? ⟨lb,k*10+6,none⟩=some (.int .i64 ac))(aa:¬P.part=ac):
  Calls Tryz.prog 159 #[ptr cb,pv P] w fun e w'=>e=.returned (.tuple #[])/\Below w.heap.size w w':=by
 obtain⟨kd,cl,li,ln,ae,u,pa,o,pl,body⟩:=P;dsimp only[pv]at *;subst hP;have ab:=lt_of_cell b3;have ad:=lt_of_cell a6;have q1:(0:Int)<=(k:Int):=by omega
 have q2:(k:Int)<(nl:Int):=by omega
 have e1:(pa != ac)=true:=by simpa using aa
 have HB:Hid (∀o,Below w.heap.size w (w.alloc o)):=fun o=>(Below.refl _ _).alloc (afI _) _
 generalize str body=SB at *;clear aa;go_enter Tryz.func159,Tryz.ntmps159;go_wp2_with fail
 go_quiet (fail);go_wp2_with fail
 go_quiet (fail);go_wp2;go_returns;exact⟨rfl,below_drewN (below_drewN ((Aa HB) _) _) _⟩
def Boxed(w V:World)(o:Obj)(W:World):Prop:=Below w.heap.size V W/\W.heap[w.heap.size]?=some o
theorem aal{m:Nat}{v:Value}(hb:b<w.heap.size):Boxed w (w.setCell ⟨b,i,none⟩ v) o (((w.alloc o).drewN m).setCell ⟨b,i,none⟩ v):=by
 have e:((w.alloc o).drewN m).setCell ⟨b,i,none⟩ v=((w.setCell ⟨b,i,none⟩ v).alloc o).drewN m:=by
  rw[<-World.setCell_alloc_past o b i v hb];rfl
 rw[e];refine⟨below_drewN ((Below.refl _ _).alloc (by simp) _) _,?_⟩;have:=heap_alloc_new (w.setCell ⟨b,i,none⟩ v) o;simpa using this
theorem AQ{f:World->Prop}(P:World->Prop)(hP:P W)(h:∀W',P W'->f W'):f W:=h W hP
theorem Xz(w:World)(cb lb nl k:Nat)(n ac:Int)(P:Pk)(S:ByteArray)(A ab:World->Prop)(hk:k<nl)(hP:P.line=(k:Int))(b3:w.cell? ⟨cb,3,none⟩=some (.slice (some ⟨lb,0,none⟩) nl nl))(a5:w.cell? ⟨lb,k*10+5,none⟩=some (.string S))(a6:w.cell? ⟨lb,k*10+6,none⟩=some (.int .i64 ac))(z6:w.frozen? ⟨lb,k*10+6,none⟩=false)(an:0<=ac/\ac<=10)(ak:P.part=ac)
  (aa:Hid (∀w,Calls Tryz.prog 203 #[.string S] w fun e w'=>e=.returned (.int .i64 n)/\w'=w))
  (HS:Hid (ac+1<n->∀wa,Below w.heap.size (w.setCell ⟨lb,k*10+6,none⟩ (.int .i64 (ac+1))) wa->Calls Tryz.prog 150 #[ptr cb,.int .i64 (k:Int),.bool false] wa fun e w'=>e=.returned (.tuple #[])/\A w'))
  (HR:Hid (∀w',A w'->Calls Tryz.prog 149 #[ptr cb,.pointer (some ⟨lb,k*10,none⟩)] w' fun e am=>e=.returned (.tuple #[])/\ab am))
  (HN:Hid (¬ac+1<n->∀wa,Below w.heap.size (w.setCell ⟨lb,k*10+6,none⟩ (.int .i64 (ac+1))) wa->A wa)):
  Calls Tryz.prog 159 #[ptr cb,pv P] w fun e w'=>e=.returned (.tuple #[])/\ab w':=by
 obtain⟨kd,cl,li,ln,ah,u,pa,o,pl,body⟩:=P;dsimp only[pv]at *;subst hP ak;have ao:=lt_of_cell b3;have af:=lt_of_cell a6;have q1:(0:Int)<=(k:Int):=by omega
 have q2:(k:Int)<(nl:Int):=by omega
 have e1:(pa != pa)=false:=by simp
 have ew:IntKind.i64.wrap (pa+1)=pa+1:=by rw[IntKind.wrap_i64];omega
 generalize str body=SB at *;have ae:Hid (∀m,Boxed w (w.setCell ⟨lb,k*10+6,none⟩ (.int .i64 (pa+1))) (.cells #[.int .i64 kd,.int .i64 cl,.int .i64 li,.int .i64 (k:Int),.int .i64 ah,.int .i64 u,.int .i64 pa,.int .i64 o,.bool pl,.string SB] 82) (((w.alloc (.cells #[.int .i64 kd,.int .i64 cl,.int .i64 li,.int .i64 (k:Int),.int .i64 ah,.int .i64 u,.int .i64 pa,.int .i64 o,.bool pl,.string SB] 82)).drewN m).setCell ⟨lb,k*10+6,none⟩ (.int .i64 (pa+1)))):=fun m=>aal af
 have HF:Hid (∀W,Boxed w (w.setCell ⟨lb,k*10+6,none⟩ (.int .i64 (pa+1))) (.cells #[.int .i64 kd,.int .i64 cl,.int .i64 li,.int .i64 (k:Int),.int .i64 ah,.int .i64 u,.int .i64 pa,.int .i64 o,.bool pl,.string SB] 82) W->W.cell? ⟨lb,k*10+5,none⟩=some (.string S)/\W.cell? ⟨lb,k*10+6,none⟩=some (.int .i64 (pa+1))/\W.cell? ⟨w.heap.size,3,none⟩=some (.int .i64 (k:Int))/\Below w.heap.size (w.setCell ⟨lb,k*10+6,none⟩ (.int .i64 (pa+1))) W.drew):=fun W hW=>by
  refine⟨?_,?_,cell_of hW.2 3 _ rfl,hW.1.drew⟩
  ·have al:(⟨lb,k*10+6,none⟩:Addr)≠⟨lb,k*10+5,none⟩:=by simp
   exact((hW.1.cell (p:=⟨lb,k*10+5,none⟩) af).trans (World.cell?_setCell_other (h:=al) ..)).trans a5
  ·rw[hW.1.cell (p:=⟨lb,k*10+6,none⟩) af];exact World.cell?_setCell_same (h:=a6) ..
 by_cases ai:pa+1<n
 ·have HQ:=Ac ((Aa HS) ai);clear HS HN;go_enter Tryz.func159,Tryz.ntmps159;go_wp2_with fail
  go_quiet (fail);go_wp2_with fail
  go_quiet (fail);go_wp2_with fail
  refine AQ _ ((Aa ae) _) ?_;intro W hW;obtain⟨d5,d6,d3,hB⟩:=(Aa HF) W hW;have HB:=Ac hB;clear hW hB ae;go_region_held3 (fun w'=>w'.cell? ⟨lb,k*10+5,none⟩=some (.string S)/\w'.cell? ⟨lb,k*10+6,none⟩=some (.int .i64 (pa+1))/\w'.cell? ⟨w.heap.size,3,none⟩=some (.int .i64 (k:Int))) (go_keep) (first|(go_at_call 203;refine((Aa aa) _).mono ?_;rintro e w1 ⟨rfl,ad⟩;rw[ad];clear ad))
  go_wp2_with (first|(go_at_call 150;refine((Aa HQ) _ (Aa HB)).mono ?_;rintro e w3 ⟨rfl,aj⟩;have HC:=Ac ((Aa HR) w3 aj);clear aj)|(go_at_call 149;refine(Aa HC).mono ?_;rintro e w4 ⟨rfl,ag⟩))
  go_returns;exact⟨rfl,ag⟩
 ·have HQ:=Ac ((Aa HN) ai);clear HS HN;go_enter Tryz.func159,Tryz.ntmps159;go_wp2_with fail
  go_quiet (fail);go_wp2_with fail
  go_quiet (fail);go_wp2_with fail
  refine AQ _ ((Aa ae) _) ?_;intro W hW;obtain⟨d5,d6,d3,hB⟩:=(Aa HF) W hW;have HB:=Ac hB;clear hW hB ae;go_region_held3 (fun w'=>w'.cell? ⟨lb,k*10+5,none⟩=some (.string S)/\w'.cell? ⟨lb,k*10+6,none⟩=some (.int .i64 (pa+1))/\w'.cell? ⟨w.heap.size,3,none⟩=some (.int .i64 (k:Int))) (go_keep) (first|(go_at_call 203;refine((Aa aa) _).mono ?_;rintro e w1 ⟨rfl,ad⟩;rw[ad];clear ad))
  go_wp2_with (first|(go_at_call 149;refine((Aa HR) _ ((Aa HQ) _ (Aa HB))).mono ?_;rintro e w4 ⟨rfl,ag⟩))
  go_returns;exact⟨rfl,ag⟩
abbrev Jj(P:Pk):Obj:=.cells #[.int .i64 P.kind,.int .i64 P.client,.int .i64 P.Ae,.int .i64 P.line,.int .i64 P.seq,.int .i64 P.uid,.int .i64 P.part,.int .i64 P.off,.bool P.please,.string (str P.body)] 82
structure KW(W:World)(b:Nat)(P:Pk):Prop where
 g0:W.cell? ⟨b,0,none⟩=some (.int .i64 P.kind)
 g1:W.cell? ⟨b,1,none⟩=some (.int .i64 P.client)
 g2:W.cell? ⟨b,2,none⟩=some (.int .i64 P.Ae)
 g3:W.cell? ⟨b,3,none⟩=some (.int .i64 P.line)
 g4:W.cell? ⟨b,4,none⟩=some (.int .i64 P.seq)
 g5:W.cell? ⟨b,5,none⟩=some (.int .i64 P.uid)
 g6:W.cell? ⟨b,6,none⟩=some (.int .i64 P.part)
 g7:W.cell? ⟨b,7,none⟩=some (.int .i64 P.off)
 g8:W.cell? ⟨b,8,none⟩=some (.bool P.please)
 g9:W.cell? ⟨b,9,none⟩=some (.string (str P.body))
theorem Ml(h:W.heap[b]?=some (Jj P)):KW W b P:=⟨cell_of h 0 _ rfl,cell_of h 1 _ rfl,cell_of h 2 _ rfl,cell_of h 3 _ rfl,cell_of h 4 _ rfl,cell_of h 5 _ rfl,cell_of h 6 _ rfl,cell_of h 7 _ rfl,cell_of h 8 _ rfl,cell_of h 9 _ rfl⟩
theorem YP(w:World)(s:Nat)(L:Value)(hL:L=.pointer none\/∃b,L=pt b)(P:Pk)(aa:World->Prop)
  (HV:Hid (∀wa,Below w.heap.size w wa->Calls Tryz.prog 248 #[pt s,.int .i64 P.uid] wa fun e w'=>e=.returned (.bool false)/\w'=wa))
  (HQ:Hid (∀wa,Below w.heap.size w wa->Calls Tryz.prog 249 #[pt s,pv P,.int .i64 0] wa fun e w'=>e=.returned (.tuple #[])/\aa w')):
  Calls Tryz.prog 215 #[pt s,L,pv P] w fun e w'=>e=.returned (.tuple #[])/\aa w':=by
 have HB:Hid (∀o,Below w.heap.size w (w.alloc o)):=fun o=>(Below.refl _ _).alloc (afI _) _
 have ac:∃a,L=.pointer a:=by
  rcases hL with rfl|⟨b,rfl⟩
  ·exact⟨_,rfl⟩
  ·exact⟨_,rfl⟩
 obtain⟨a,rfl⟩:=ac;clear hL;go_enter Tryz.func215,Tryz.ntmps215;go_wp2_with (first|(go_at_call 248;refine((Aa HV) _ ((Aa HB) _)).mono ?_;rintro e w1 ⟨rfl,ab⟩;rw[ab];clear ab)|(go_at_call 249;refine((Aa HQ) _ ((Aa HB) _)).mono ?_;rintro e w3 ⟨rfl,ad⟩))
 go_returns;exact⟨rfl,ad⟩
theorem YR(w:World)(s:Nat)(L:Value)(hL:L=.pointer none\/∃b,L=pt b)(P:Pk)(aa:World->Prop)(hk:P.kind=3\/¬P.part=0)
  (HV:Hid (∀wa,Below w.heap.size w wa->Calls Tryz.prog 248 #[pt s,.int .i64 P.uid] wa fun e w'=>e=.returned (.bool true)/\w'=wa))
  (HQ:Hid (∀wa,Below w.heap.size w wa->aa wa)):
  Calls Tryz.prog 215 #[pt s,L,pv P] w fun e w'=>e=.returned (.tuple #[])/\aa w':=by
 have HB:Hid (∀o,Below w.heap.size w (w.alloc o)):=fun o=>(Below.refl _ _).alloc (afI _) _
 have ac:∃a,L=.pointer a:=by
  rcases hL with rfl|⟨b,rfl⟩
  ·exact⟨_,rfl⟩
  ·exact⟨_,rfl⟩
 obtain⟨a,rfl⟩:=ac;clear hL;by_cases h3:P.kind=3
 ·have e1:(P.kind==3)=true:=by simpa using h3
  clear h3 hk;go_enter Tryz.func215,Tryz.ntmps215;go_wp2_with (first|(go_at_call 248;refine((Aa HV) _ ((Aa HB) _)).mono ?_;rintro e w1 ⟨rfl,ab⟩;rw[ab];clear ab))
  go_returns;exact⟨rfl,(Aa HQ) _ ((Aa HB) _)⟩
 ·have e1:(P.kind==3)=false:=by simpa using h3
  have e2:(P.part != 0)=true:=by simp;omega
  clear h3 hk;go_enter Tryz.func215,Tryz.ntmps215;go_wp2_with (first|(go_at_call 248;refine((Aa HV) _ ((Aa HB) _)).mono ?_;rintro e w1 ⟨rfl,ab⟩;rw[ab];clear ab))
  go_returns;exact⟨rfl,(Aa HQ) _ ((Aa HB) _)⟩
theorem YQ(w:World)(s n:Nat)(tb:Int)(P:Pk)(aa:World->Prop)(s4:w.cell? ⟨s,4,none⟩=some (.int .i64 tb))(hn:(n:Int)=tb)(hk:¬P.kind=3)(ae:P.part=0)
  (HV:Hid (∀wa,Below w.heap.size w wa->Calls Tryz.prog 248 #[pt s,.int .i64 P.uid] wa fun e w'=>e=.returned (.bool true)/\w'=wa))
  (HM:Hid (∀wa,Below w.heap.size w wa->Calls Tryz.prog 99 #[pt s] wa fun e w'=>∃a cap,e=.returned (.slice a n cap)/\Below wa.heap.size wa w'))
  (HQ:Hid (∀wa,Below w.heap.size w wa->Calls Tryz.prog 249 #[pt s,pv P,.int .i64 1] wa fun e w'=>e=.returned (.tuple #[])/\aa w')):
  Calls Tryz.prog 215 #[pt s,.pointer none,pv P] w fun e w'=>e=.returned (.tuple #[])/\aa w':=by
 have HB:Hid (∀o,Below w.heap.size w (w.alloc o)):=fun o=>(Below.refl _ _).alloc (afI _) _
 have e1:(P.kind==3)=false:=by simpa using hk
 have e2:(P.part != 0)=false:=by simp;omega
 have e3:((n:Int)==tb)=true:=by simpa using hn
 have hl:=lt_of_cell s4;have HF:Hid (∀w1,Below (w.alloc (Jj P)).drew.heap.size (w.alloc (Jj P)).drew w1->Below w.heap.size w w1/\w1.cell? ⟨s,4,none⟩=some (.int .i64 tb)/\KW w1 w.heap.size P):=fun w1 h1=>by
  have hb:Below w.heap.size w w1:=((Aa HB) (Jj P)).drew.trans (h1.mono (by simp));refine⟨hb,(hb.cell (p:=⟨s,4,none⟩) hl).trans s4,Ml ?_⟩;rw[h1.block _ (by simp)];exact heap_alloc_new w _
 clear hn hk ae;go_enter Tryz.func215,Tryz.ntmps215;go_wp2_with (first|(go_at_call 248;refine((Aa HV) _ ((Aa HB) _)).mono ?_;rintro e w1 ⟨rfl,ab⟩;rw[ab];clear ab)|fail)
 go_region_held3 (fun w'=>w'.cell? ⟨s,4,none⟩=some (.int .i64 tb)) (go_keep) (first|(go_at_call 99;refine((Aa HM) _ ((Aa HB) _).drew).mono ?_;rintro e w1 ⟨a1,c1,rfl,ab⟩;have hf:=(Aa HF) w1 ab;obtain⟨ac,f4,⟨g0,g1,g2,g3,g4,g5,g6,g7,g8,g9⟩⟩:=hf;have ad:=Ac ac;clear ab ac))
 all_goals
  go_wp2_with (first|(go_at_call 249;refine((Aa HQ) _ (Aa ad)).mono ?_;rintro e w3 ⟨rfl,af⟩))
  go_returns;exact⟨rfl,af⟩
structure Made(w:World)(s:Nat)(cs:List Value)(i:Nat)(P:Pk)(b:Nat)(W:World):Prop where
 ge:w.heap.size<=b
 keep:Af (fun k=>k=s) w W
 cells:W.heap[s]?=some (.cells (cs.set (10+i) (pt b)).toArray 144 (0,0))
 line:W.heap[b]?=some (.cells #[.int .i64 P.client,.int .i64 P.Ae,.int .i64 P.line,.int .i64 P.seq,.int .i64 P.uid,.int .i64 0,.string ⟨#[]⟩,.string ⟨#[]⟩,.int .i64 0,.int .i64 0,.int .i64 0] 179 (0,0))
theorem YB{s:Nat}{cs:List Value}{j:Nat}(h:w.heap[s]?=some (.cells cs.toArray 144 (0,0)))(hb:Below w.heap.size w W)(hB:W.heap[w.heap.size]?=some o)(hj:j=10+i):Made w s cs i P W.heap.size ((W.alloc (.cells #[.int .i64 P.client,.int .i64 P.Ae,.int .i64 P.line,.int .i64 P.seq,.int .i64 P.uid,.int .i64 0,.string ⟨#[]⟩,.string ⟨#[]⟩,.int .i64 0,.int .i64 0,.int .i64 0] 179)).setCell ⟨s,j,none⟩ (pt W.heap.size))/\((W.alloc (.cells #[.int .i64 P.client,.int .i64 P.Ae,.int .i64 P.line,.int .i64 P.seq,.int .i64 P.uid,.int .i64 0,.string ⟨#[]⟩,.string ⟨#[]⟩,.int .i64 0,.int .i64 0,.int .i64 0] 179)).setCell ⟨s,j,none⟩ (pt W.heap.size)).heap[w.heap.size]?=some o:=by
 subst hj;have hl:=lt_of_block h;have hs:=hb.size;have aa:=(afR.1 hB).1;have h1:W.heap[s]?=some (.cells cs.toArray 144 (0,0)):=by rw[hb.block s hl];exact h
 have h2:(W.alloc (.cells #[.int .i64 P.client,.int .i64 P.Ae,.int .i64 P.line,.int .i64 P.seq,.int .i64 P.uid,.int .i64 0,.string ⟨#[]⟩,.string ⟨#[]⟩,.int .i64 0,.int .i64 0,.int .i64 0] 179)).heap[s]?=some (.cells cs.toArray 144 (0,0)):=(Below.heap_alloc _ _ _ (by omega)).trans h1;refine⟨⟨hs,((Af.Al hb _).alloc _).trans (Ah _),Ai (cs:=cs) (off:=10+i) h2 _,?_⟩,?_⟩
 ·rw[Below.heap_setCell _ _ _ _ (by simp;omega)];exact heap_alloc_new W _
 ·rw[Below.heap_setCell _ _ _ _ (by simp;omega),Below.heap_alloc _ _ _ aa];exact hB
end Go.Proofs.YtblomippkddgiabGreatDoor
