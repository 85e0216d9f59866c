import Derived.Test.YtblomippkddgiaaGreatDoorK32
set_option maxRecDepth 100000
set_option maxHeartbeats 2000000
namespace Go.Proofs.YtblomippkddgiaaGreatDoor
open Go.RowKit
theorem LW.Jr{p:Pl}{F:Aq}{G:R.Wd}{w w':World}(h:LW p F G w){js:List R.Jb}(hk:Af (fun k=>k=p.t.jc) w w')(hj:∃a b:Nat,w'.heap[p.t.jc]?=some (.chan G.c.table.toNat (js.map NY).toArray false a b false))(hws:R.KQ G.c G.Ai G.seen js):LW p F {G with jobs:=js} w'/\Ay F F w w':=by
 obtain⟨ja,jb,hj0⟩:=h.Co.jobs;have hs:=h.Co.Jr hk hj;have hE:BQ w (fun k=>k=p.t.jc):=fun b hb=>Or.inr ⟨_,_,_,_,_,_,by subst hb;exact hj0⟩
 have hwf:R.Wf (Dq G G.Ac G.Ai G.seen js):=⟨h.wf.cf,h.wf.KF,fun j c hc=>⟨(h.wf.cl j c hc).lines,(h.wf.cl j c hc).Ag,(h.wf.cl j c hc).bound,(h.wf.cl j c hc).line⟩,h.wf.Ih,h.wf.Hf,h.wf.sv,h.wf.MA,h.wf.nm,h.wf.st,h.wf.nd,h.wf.Ma⟩;have q:=h.JB hs hk hE (fun _ r=>r) (fun k hf=>Nat.lt_of_lt_of_le (h.lt k hf) hk.size) hwf hws (fun i c _ u=>rfl);exact⟨q,hk.mono (fun k _ e=>by rw[e];exact h.Co.BM.2.1),fun _ r=>Or.inl r⟩
theorem Yg{F F':Aq}{w w':World}{B:Nat}(hB:∀k,F k->k<B)(hw:Ay F F' w w'):Oz B w w':=by
 refine⟨hw.keeps.size,fun x hx hl=>?_⟩;refine hw.keeps.block x hl (fun hf=>?_);have:=hB x hf;omega
structure abw(P:Pk)(i:Nat)(r:R.Sn)(y:Ku):Prop where
 client:y.client=P.client
 Ag:y.Ag=P.Ag
 line:y.line=P.line
 seq:y.seq=P.seq
 uid:y.uid=P.uid
theorem ab5{p:Pl}{G:R.Wd}{w:World}{i:Nat}{r:R.Sn}{y:Ku}(hq:QF p G w i r y){M:R.Bk}{P:Pk}{d:R.Cd}(hp:R.Fy M G P d i)(hs:r.seq=P.seq)(hu:r.uid=P.uid):abw P i r y:=by
 have hk:=hp.key;have hr:=hq.rel;simp only[R.DZ,R.Key.mk.injEq]at hk;exact⟨by rw[hr.client,hk.1],by rw[hr.Ag,hk.2.1],by rw[hr.line,hk.2.2.1],by rw[hr.seq,hs],by rw[hr.uid,hu]⟩
def OA(G:R.Wd)(i:Nat)(r:R.Sn)(P:Pk):R.Wd:=
 if P.part=P.off-1 then {R.Av G i {r with state:=2,message:=r.message++P.body,pieces:=r.pieces+1} with jobs:=G.jobs++[⟨P.client,P.line,P.Ag,P.seq,P.uid⟩]}
 else R.Av G i {r with message:=r.message++P.body,pieces:=r.pieces+1}
theorem LW.acB{p:Pl}{F:Aq}{G:R.Wd}{w:World}(h:LW p F G w){M:R.Bk}(hI:R.Inv M G){i:Nat}{r:R.Sn}{y:Ku}(hq:QF p G w i r y)(h1:r.state=1){P:Pk}{d:R.Cd}(hp:R.Fy M G P d i)(ho:P.off=R.Ae d.msg)(hb:P.body=R.Bb d.msg P.part)(hs:r.seq=P.seq)(hpt:P.part=r.pieces):
  Calls Tryz.prog 258 #[ptr p.s,ptr (p.t.ql i),pv P] w fun e w'=>(e=.returned (.bool false)/\(P.part=P.off-1/\G.c.table<=(G.jobs.length:Int))/\LW p F G w'/\Ay F F w w')\/(e=.returned (.bool true)/\¬(P.part=P.off-1/\G.c.table<=(G.jobs.length:Int))/\LW p F (OA G i r P) w'/\Ay F F w w'):=by
 have hsn:=h.Eb.sn i r hq.seen;obtain⟨g1,g2,g3⟩:=hsn.IV h1;have hr:=hq.rel;have hi9:=hp.lt;obtain⟨d',hso⟩:=hI.sn i r hq.seen hq.ne;have hkey:=hp.key;have hd':d'=d:=by
  have:=hso.made;rw[hs,<-hkey,hp.made]at this;exact(Option.some.inj this).symm
 subst hd';have huid:r.uid=P.uid:=by rw[hso.uid,hp.uid]
 have hka:=ab5 hq hp hs huid;obtain⟨c0,c1,c2,c3,c4,c5,c6,c7,c8,c9,c10⟩:=TK hq.blk;have hask:=hr.asked (Or.inl h1);rw[hask]at c6;rw[hka.client]at c0;rw[hka.Ag]at c1;rw[hka.line]at c2;rw[hka.seq]at c3;rw[hka.uid]at c4;have hof:=hp.right.2.2.2.2.2.2.1;have hpo:=hp.right.2.2.2.2.2.2.2.1;have hbl:P.body.length<=8:=by rw[hb,R.Gy];omega
 have hgr:∀st:Int,(st=1/\¬P.part=P.off-1)\/(st=2/\P.part=P.off-1)->R.Oy (G.Ai.getD (i / 3) 0) {r with state:=st,message:=r.message++P.body,pieces:=r.pieces+1}:=fun st hst=>by
  have hml:(r.message++P.body).length<=72:=by rw[List.length_append];omega
  have h0:=hsn.some hq.ne;refine⟨fun e=>absurd e hq.ne,hsn.seq,fun _=>⟨h0.1,h0.2.1,by simp only;omega⟩,fun e=>?_,fun e=>?_,fun e=>by simp only at e;omega,fun e=>?_⟩
  ·simp only at e;have hnl:¬P.part=P.off-1:=by omega
   have h8:P.body.length=8:=by
    have:=hp.right.2.2.2.2.2.2.2.2;have hk1:P.kind=1\/P.kind=5\/¬(P.kind=1\/P.kind=5):=by omega
    have hb8:=R.Gx (s:=d'.msg) (k:=P.part) hpo.1;rw[<-ho,if_pos (by omega)]at hb8;rw[hb];exact hb8
   simp only;rw[List.length_append];omega
  ·simp only at e ⊢;rw[List.length_append];have hall:=hso.IV h1;have hmsg:r.message++P.body=d'.msg:=by
    obtain⟨n,hn⟩:∃n:Nat,r.pieces=(n:Int):=⟨r.pieces.toNat,by omega⟩;rw[hall.1,hb,hpt,hn,Int.toNat_natCast,R.GH,R.Gz];rw[<-ho];omega
   have h2:2<=d'.msg.length:=by simp[R.Cd.msg,AX]
   have:=congrArg List.length hmsg;rw[List.length_append]at this;omega
  ·have ht:=(hsn.timed e).1;omega
 by_cases hl:P.part=P.off-1
 ·obtain⟨ja,jb,hj⟩:=h.Co.jobs;have c19:w.cell? ⟨p.s,19,none⟩=some (.chan (some p.t.jc)):=h.Co.cell 19 _ rfl;have hls:=lt_of_cell c19;have hlj:=(Array.getElem?_eq_some_iff.1 hj).1;have hcf:=h.wf.cf;unfold R.BL at hcf;have hat:∀wa,Below w.heap.size w wa->wa.cell? ⟨p.s,19,none⟩=some (.chan (some p.t.jc))/\wa.heap[p.t.jc]?=some (.chan G.c.table.toNat (G.jobs.map NY).toArray false ja jb false):=fun wa hb'=>⟨(hb'.cell (p:=⟨p.s,19,none⟩) hls).trans c19,by rw[hb'.block _ hlj];exact hj⟩
  by_cases hfull:G.c.table<=(G.jobs.length:Int)
  ·refine(VI w p.s (p.t.ql i) P P.client P.Ag P.line P.seq P.uid c0 c1 c2 c3 c4 hof hl (fun wa hb'=>?_)).mono ?_
   ·exact P8 wa p.s p.t.jc G.c.table.toNat ja jb _ P.client P.Ag P.line P.seq P.uid (hat wa hb').1 (hat wa hb').2 (by simp;omega)
   ·rintro e w' ⟨rfl,hb'⟩;exact Or.inl ⟨rfl,⟨hl,hfull⟩,h.below hb',Ay.Aj F hb'⟩
  ·refine(VJ w p.s (p.t.ql i) P r.message P.client P.Ag P.line P.seq P.uid 0 (fun w1=>LW p F {G with jobs:=G.jobs++[⟨P.client,P.line,P.Ag,P.seq,P.uid⟩]} w1/\Ay F F w w1) (fun w1=>LW p F (OA G i r P) w1/\Ay F F w w1) c0 c1 c2 c3 c4 hof hl (by omega) (by omega) (fun wa hb'=>?_) ?_ ?_).mono ?_
   ·refine(P9 wa p.s p.t.jc G.c.table.toNat ja jb _ P.client P.Ag P.line P.seq P.uid (hat wa hb').1 (hat wa hb').2 (by simp;omega)).mono ?_;rintro e w' ⟨rfl,hjc,hkp⟩;have hws:R.KQ G.c G.Ai G.seen (G.jobs++[⟨P.client,P.line,P.Ag,P.seq,P.uid⟩]):=⟨h.Eb.ll,h.Eb.lv,h.Eb.sl,h.Eb.sn,by simp;omega,fun j hj=>by
     rcases List.mem_append.1 hj with q|q
     ·exact h.Eb.jb j q
     ·simp only[List.mem_singleton]at q;subst q;exact⟨hp.right.2.1,hp.right.2.2.2.1⟩⟩
    obtain⟨q1,q2⟩:=(h.below hb').Jr (js:=G.jobs++[⟨P.client,P.line,P.Ag,P.seq,P.uid⟩]) hkp ⟨ja+1,jb,by rw[hjc];congr 2;simp[NY]⟩ hws;exact⟨rfl,⟨q1,(Ay.Aj F hb').trans q2⟩,fun x hx hlx=>hkp.block x hlx (by omega),hkp.size⟩
   ·rintro w1 ⟨q1,_⟩;obtain⟨y1,k1,_⟩:=q1.q (i:=i) (r:=r) hq.seen hq.ne;obtain⟨_,_,_,_,_,f5,f6,_⟩:=TK k1.blk;rw[k1.rel.state,h1]at f5;rw[k1.rel.asked (Or.inl h1)]at f6;exact⟨f6,open_list k1.blk,f5,open_list k1.blk⟩
   ·rintro w1 wa ⟨q1,q2⟩ hba;obtain⟨y1,k1,_⟩:=q1.q (i:=i) (r:=r) hq.seen hq.ne;have hk1:=k1.rel;obtain⟨m1,_,m2⟩:=q1.LF (r':={r with state:=2,message:=r.message++P.body,pieces:=r.pieces+1}) (y':={y1 with asked:=r.message++P.body,state:=1}) k1 hq.ne ((Am _).trans (Am _)) (GK (j:=5) (v:=.int .i64 1) (y:={y1 with asked:=r.message++P.body}) (GK (j:=6) (v:=.string (str (r.message++P.body))) k1.blk rfl) rfl) ⟨hk1.client,hk1.Ag,hk1.line,hk1.seq,hk1.uid,rfl,fun _=>rfl,fun e=>by simp only at e;omega,hk1.wait,hk1.tries⟩ (hgr 2 (Or.inr ⟨rfl,hl⟩));have hsz:((w1.setCell ⟨p.t.ql i,6,none⟩ (.string (str (r.message++P.body)))).setCell ⟨p.t.ql i,5,none⟩ (.int .i64 1)).heap.size=w1.heap.size:=by simp
    rw[<-hsz]at hba;refine⟨?_,(q2.trans m2).trans (Ay.Aj F hba)⟩;unfold OA;rw[if_pos hl];exact m1.below hba
   ·rintro e w' ⟨rfl,q1,q2⟩;exact Or.inr ⟨rfl,fun q=>hfull q.2,q1,q2⟩
 ·refine(VK w p.s (p.t.ql i) P r.message (fun w1=>LW p F (OA G i r P) w1/\Ay F F w w1) c6 (open_list hq.blk) (by omega) (by omega) hof hl (fun wa hba=>?_)).mono ?_
  ·obtain⟨m1,_,m2⟩:=h.LF (r':={r with message:=r.message++P.body,pieces:=r.pieces+1}) (y':={y with asked:=r.message++P.body}) hq hq.ne (Am _) (GK (j:=6) (v:=.string (str (r.message++P.body))) hq.blk rfl) ⟨hr.client,hr.Ag,hr.line,hr.seq,hr.uid,hr.state,fun _=>rfl,hr.ans,hr.wait,hr.tries⟩ (hgr r.state (Or.inl ⟨h1,hl⟩));have hsz:(w.setCell ⟨p.t.ql i,6,none⟩ (.string (str (r.message++P.body)))).heap.size=w.heap.size:=by simp
   rw[<-hsz]at hba;refine⟨?_,m2.trans (Ay.Aj F hba)⟩;unfold OA;rw[if_neg hl];exact m1.below hba
  ·rintro e w' ⟨rfl,q1,q2⟩;exact Or.inr ⟨rfl,fun q=>hl q.1,q1,q2⟩
theorem Sk{G:R.Wd}{P:Pk}(hk:P.kind=1):LY G P=R.CU G P 2 P.part P.off:=by
 unfold LY;rw[if_neg (by omega)]
theorem LW.Tj{p:Pl}{F:Aq}{G:R.Wd}{w:World}(h:LW p F G w){M:R.Bk}(hI:R.Inv M G){i:Nat}{r:R.Sn}{y:Ku}(hq:QF p G w i r y)(h1:r.state=1){P:Pk}{d:R.Cd}(hp:R.Fy M G P d i)(hk:P.kind=1)(ho:P.off=R.Ae d.msg)(hb:P.body=R.Bb d.msg P.part)(hs:r.seq=P.seq):
  Calls Tryz.prog 236 #[ptr p.s,ptr (p.t.ql i),pv P] w fun e w'=>e=.returned (.tuple #[])/\∃F',LW p F' (if P.part<=r.pieces then R.Cy G i P else G) w'/\Ay F F' w w':=by
 have hsn:=h.Eb.sn i r hq.seen;obtain⟨g1,g2,g3⟩:=hsn.IV h1;have hr:=hq.rel;have c6:=(TK hq.blk).a6;rw[hr.asked (Or.inl h1)]at c6;have hpp:R.Ae r.message=r.pieces:=by unfold R.Ae;omega
 have hseen:R.Ap G i=r:=R.BN hq.seen;have eG:R.Cy G i P=if P.part=r.pieces then (if P.part=P.off-1/\G.c.table<=(G.jobs.length:Int) then G else R.Iu (OA G i r P) P) else R.Iu G P:=by
  unfold R.Cy OA;simp only[hseen];by_cases q1:P.part=r.pieces
  ·rw[if_pos q1,if_pos q1];by_cases q2:P.part=P.off-1
   ·rw[if_pos q2,if_pos q2];by_cases q3:G.c.table<=(G.jobs.length:Int)
    ·rw[if_pos q3,if_pos ⟨q2,q3⟩]
    ·rw[if_neg q3,if_neg (fun q=>q3 q.2)]
   ·rw[if_neg q2,if_neg q2,if_neg (fun q=>q2 q.1)]
  ·rw[if_neg q1,if_neg q1]
 refine Pg w p.s (p.t.ql i) P r.message r.pieces (fun w1=>∃K,LW p F K w1/\Ay F F w w1/\R.Iu K P=(if P.part<=r.pieces then R.Cy G i P else G)) _ c6 (fun w=>by
  have:=C8 r.message w (by omega);rw[hpp]at this;exact this) (fun q wa hb'=>?_) (fun q wa hb'=>?_) (fun q wa hb'=>?_) (fun q w1=>?_) (fun q w1=>?_)
 ·rw[if_neg (by omega)];exact⟨F,h.below hb',Ay.Aj F hb'⟩
 ·refine((h.below hb').acB hI (hq.below hb') h1 hp ho hb hs q).mono ?_;rintro e w' (⟨rfl,q1,q2,q3⟩|⟨rfl,q1,q2,q3⟩)
  ·refine Or.inl ⟨rfl,F,?_,(Ay.Aj F hb').trans q3⟩;rw[if_pos (by omega),eG,if_pos q,if_pos q1];exact q2
  ·refine Or.inr ⟨rfl,⟨OA G i r P,q2,(Ay.Aj F hb').trans q3,?_⟩,Yg h.lt q3⟩;rw[if_pos (by omega),eG,if_pos q,if_neg q1]
 ·refine⟨G,h.below hb',Ay.Aj F hb',?_⟩;rw[if_pos (by omega),eG,if_neg (by omega)]
 ·rintro ⟨K,k1,k2,k3⟩;refine(k1.aad hp.right).mono ?_;rintro e w' ⟨rfl,F',m1,m2⟩;refine⟨rfl,F',?_,k2.trans m2⟩;rw[<-k3];unfold R.Iu;rw[if_pos q,<-Sk hk];exact m1
 ·rintro ⟨K,k1,k2,k3⟩;refine⟨F,?_,k2⟩;rw[<-k3];unfold R.Iu;rw[if_neg (by rw[q];simp)];exact k1
theorem LW.aaO{p:Pl}{F:Aq}{G:R.Wd}{w:World}(h:LW p F G w){M:R.Bk}(hI:R.Inv M G){i:Nat}{r:R.Sn}{y:Ku}(hq:QF p G w i r y){P:Pk}{d:R.Cd}(hp:R.Fy M G P d i)(hk:(P.kind=1/\P.off=R.Ae d.msg/\P.body=R.Bb d.msg P.part)\/P.kind=3)(hs:r.seq=P.seq):
  Calls Tryz.prog 200 #[ptr p.s,ptr (p.t.ql i),pv P] w fun e w'=>e=.returned (.tuple #[])/\∃F',LW p F' (R.CL G i P) w'/\Ay F F' w w':=by
 have hsn:=h.Eb.sn i r hq.seen;have hst:=(hsn.some hq.ne).2.2;have hr:=hq.rel;have c5:=(TK hq.blk).a5;rw[hr.state]at c5;have hseen:R.Ap G i=r:=R.BN hq.seen;have eK:R.CL G i P=if r.state=1 then (if P.kind=1/\P.part<=r.pieces then R.Cy G i P else G) else if r.state=4 then R.CU G P 7 0 2 else if P.please=false then G else if r.state=3 then R.DR G i else LY G P:=by
  unfold R.CL LY;simp only[hseen]
 rw[eK];refine RF w p.s (p.t.ql i) (r.state-1) P _ c5 (by omega) (fun q wa hb=>?_) (fun q q' wa hb=>?_) (fun q q' wa hb=>?_) (fun q q' wa hb=>?_) (fun q wa hb=>?_)
 ·rw[if_neg (by omega),if_pos (by omega)];refine((h.below hb).Oa hp.right (Or.inl rfl)).mono ?_;rintro e w' ⟨rfl,F',m1,m2⟩;exact⟨rfl,F',m1,(Ay.Aj F hb).trans m2⟩
 ·rw[if_neg (by omega),if_neg (by omega),if_neg (by rw[q'];simp),if_pos (by omega)];refine((h.below hb).tell (hq.below hb) (by omega)).mono ?_;rintro e w' ⟨rfl,F',m1,m2⟩;exact⟨rfl,F',m1,(Ay.Aj F hb).trans m2⟩
 ·rw[if_neg (by omega),if_neg (by omega),if_neg (by rw[q'];simp),if_neg (by omega)];refine((h.below hb).aad hp.right).mono ?_;rintro e w' ⟨rfl,F',m1,m2⟩;exact⟨rfl,F',m1,(Ay.Aj F hb).trans m2⟩
 ·rw[if_pos (by omega)];rcases hk with ⟨_,k2,k3⟩|k2
  ·refine((h.below hb).Tj hI (hq.below hb) (by omega) hp q' k2 k3 hs).mono ?_;rintro e w' ⟨rfl,F',m1,m2⟩;refine⟨rfl,F',?_,(Ay.Aj F hb).trans m2⟩;by_cases q2:P.part<=r.pieces
   ·rw[if_pos ⟨q',q2⟩];rw[if_pos q2]at m1;exact m1
   ·rw[if_neg (fun q3=>q2 q3.2)];rw[if_neg q2]at m1;exact m1
  ·omega
 ·have hG:(if r.state=1 then (if P.kind=1/\P.part<=r.pieces then R.Cy G i P else G) else if r.state=4 then R.CU G P 7 0 2 else if P.please=false then G else if r.state=3 then R.DR G i else LY G P)=G:=by
   rcases q with ⟨q1,q2⟩|⟨q1,q2⟩
   ·rw[if_neg (by omega),if_neg (by omega),if_pos q2]
   ·rw[if_pos (by omega),if_neg (fun q3=>q2 q3.1)]
  rw[hG];exact⟨F,h.below hb,Ay.Aj F hb⟩
theorem Vs(w:World)(cb lb nl k:Nat)(lf st sq:Int)(P:Pk)(hk:k<nl)(hP:P.line=(k:Int))(b1:w.cell? ⟨cb,1,none⟩=some (.int .i64 lf))(b3:w.cell? ⟨cb,3,none⟩=some (.slice (some ⟨lb,0,none⟩) nl nl))(a0:w.cell? ⟨lb,k*10,none⟩=some (.int .i64 st))(a1:w.cell? ⟨lb,k*10+1,none⟩=some (.int .i64 sq)):
  Calls Tryz.prog 140 #[ptr cb,pv P] w fun e w'=>e=.returned (.bool (decide (st=1/\lf=P.Ag/\sq=P.seq)))/\Below w.heap.size w w':=by
 obtain⟨kd,cl,li,ln,sq',u,pa,o,pl,body⟩:=P;dsimp only[pv]at *;subst hP;have hl1:=lt_of_cell b1;have hl2:=lt_of_cell a0;have q1:(0:Int)<=(k:Int):=by omega
 have q2:(k:Int)<(nl:Int):=by omega
 have HB:Hid (∀o,Below w.heap.size w (w.alloc o)):=fun o=>(Below.refl _ _).alloc (Nat.le_refl _) _
 generalize str body=SB at *;by_cases h1:st=1
 ·have e1:(st==1)=true:=by simpa using h1
  by_cases h2:lf=li
  ·have e2:(lf==li)=true:=by simpa using h2
   by_cases h3:sq=sq'
   ·have e3:(sq==sq')=true:=by simpa using h3
    rw[show decide (st=1/\lf=li/\sq=sq')=true by simp[h1,h2,h3]];clear h1 h2 h3;go_enter Tryz.func140,Tryz.ntmps140;go_wp2_with fail
    go_quiet (fail);go_wp2_with fail
    go_quiet (fail);go_wp2;go_returns;exact⟨rfl,below_drewN (below_drewN ((Aa HB) _) _) _⟩
   ·have e3:(sq==sq')=false:=by simpa using h3
    rw[show decide (st=1/\lf=li/\sq=sq')=false by simp[h3]];clear h1 h2 h3;go_enter Tryz.func140,Tryz.ntmps140;go_wp2_with fail
    go_quiet (fail);go_wp2_with fail
    go_quiet (fail);go_wp2;go_returns;exact⟨rfl,below_drewN (below_drewN ((Aa HB) _) _) _⟩
  ·have e2:(lf==li)=false:=by simpa using h2
   rw[show decide (st=1/\lf=li/\sq=sq')=false by simp[h2]];clear h1 h2;go_enter Tryz.func140,Tryz.ntmps140;go_wp2_with fail
   go_quiet (fail);go_wp2_with fail
   go_quiet (fail);go_wp2;go_returns;exact⟨rfl,below_drewN (below_drewN ((Aa HB) _) _) _⟩
 ·have e1:(st==1)=false:=by simpa using h1
  rw[show decide (st=1/\lf=li/\sq=sq')=false by simp[h1]];clear h1;go_enter Tryz.func140,Tryz.ntmps140;go_wp2_with fail
  go_quiet (fail);go_wp2_with fail
  go_quiet (fail);go_wp2;go_returns;exact⟨rfl,below_drewN (below_drewN ((Aa HB) _) _) _⟩
theorem Ws(w:World)(cb:Nat)(P:Pk)(Post:World->Prop)
  (HS:Hid (∀wa,Below w.heap.size w wa->Calls Tryz.prog 188 #[ptr cb,.int .i64 P.line,Ms 6 0 0 0 0 0 P.part P.off false ⟨#[]⟩] wa fun e w'=>e=.returned (.tuple #[])/\Post w')):
  Calls Tryz.prog 201 #[ptr cb,pv P] w fun e w'=>e=.returned (.tuple #[])/\Post w':=by
 have HB:Hid (∀o,Below w.heap.size w (w.alloc o)):=fun o=>(Below.refl _ _).alloc (Nat.le_refl _) _
 go_enter Tryz.func201,Tryz.ntmps201;go_wp2_with (first|(go_at_call 188;refine((Aa HS) _ ((Aa HB) _)).mono ?_;rintro e w3 ⟨rfl,hw3⟩))
 go_returns;exact⟨rfl,hw3⟩
theorem OV(w:World)(b k:Nat)(ra:Option Addr)(rn rc:Nat)(xs:List DK)(x:DK)(hrv:∃a n c,x.rv=.slice a n c)(h:w.heap[b]?=some (.cells (tab DK.cells xs).toArray 139 (0,0)))(hx:xs[k]?=some x):
  Calls Tryz.prog 202 #[.pointer (some ⟨b,k*10,none⟩),.slice ra rn rc] w fun e w'=>e=.returned (.tuple #[])/\w'.heap[b]?=some (.cells (tab DK.cells (xs.set k {Jj 2 x.seq with rv:=.slice ra rn rc})).toArray 139 (0,0))/\Af (fun q=>q=b) w w':=by
 have H:=Ab (OW w b k 2 xs x hrv h hx);have hk:=(List.getElem?_eq_some_iff.1 hx).1;have HP:Hid (∀w':World,w'.heap[b]?=some (.cells (tab DK.cells (xs.set k (Jj 2 x.seq))).toArray 139 (0,0))->(w'.setCell ⟨b,k*10+2,none⟩ (.slice ra rn rc)).heap[b]?=some (.cells (tab DK.cells (xs.set k {Jj 2 x.seq with rv:=.slice ra rn rc})).toArray 139 (0,0))/\(∃a n c,w'.cell? ⟨b,k*10+2,none⟩=some (.slice a n c))/\w'.frozen? ⟨b,k*10+2,none⟩=false/\b<w'.heap.size):=fun w' hw=>by
  have hx':(xs.set k (Jj 2 x.seq))[k]?=some (Jj 2 x.seq):=by simp[hk]
  have e:=Ca (j:=2) (x':={Jj 2 x.seq with rv:=.slice ra rn rc}) (v:=.slice ra rn rc) hw hx' (by omega) rfl;simp only[List.set_set]at e;exact⟨e.1,⟨_,_,_,(AQ hw hx').a2⟩,open_list hw,lt_of_block hw⟩
 clear h hx hrv;go_enter Tryz.func202,Tryz.ntmps202;go_wp2_with (first|(go_at_call 121;refine(Aa H).mono ?_;rintro e w1 ⟨rfl,hb1,hk1⟩;have hq:=(Aa HP) w1 hb1;obtain⟨hq1,⟨qa,qn,qc,hq2⟩,hq3,hq4⟩:=hq;have HB1:=Ab hq1;have HK1:=Ab hk1;clear hb1 hq1 hk1))
 go_returns;exact⟨rfl,Aa HB1,(Aa HK1).trans (Am _)⟩
theorem aaq(w:World)(cb lb nl k:Nat)(ac:Int)(P:Pk)(hk:k<nl)(hP:P.line=(k:Int))(b3:w.cell? ⟨cb,3,none⟩=some (.slice (some ⟨lb,0,none⟩) nl nl))(a6:w.cell? ⟨lb,k*10+6,none⟩=some (.int .i64 ac))(hne:¬P.part=ac):
  Calls Tryz.prog 141 #[ptr cb,pv P] w fun e w'=>e=.returned (.tuple #[])/\Below w.heap.size w w':=by
 obtain⟨kd,cl,li,ln,sq',u,pa,o,pl,body⟩:=P;dsimp only[pv]at *;subst hP;have hl1:=lt_of_cell b3;have hl2:=lt_of_cell a6;have q1:(0:Int)<=(k:Int):=by omega
 have q2:(k:Int)<(nl:Int):=by omega
 have e1:(pa != ac)=true:=by simpa using hne
 have HB:Hid (∀o,Below w.heap.size w (w.alloc o)):=fun o=>(Below.refl _ _).alloc (Nat.le_refl _) _
 generalize str body=SB at *;clear hne;go_enter Tryz.func141,Tryz.ntmps141;go_wp2_with fail
 go_quiet (fail);go_wp2_with fail
 go_quiet (fail);go_wp2;go_returns;exact⟨rfl,below_drewN (below_drewN ((Aa HB) _) _) _⟩
def Boxed(w V:World)(o:Obj)(W:World):Prop:=Below w.heap.size V W/\W.heap[w.heap.size]?=some o
theorem YH{w:World}{o:Obj}{m b i:Nat}{v:Value}(hb:b<w.heap.size):Boxed w (w.setCell ⟨b,i,none⟩ v) o (((w.alloc o).drewN m).setCell ⟨b,i,none⟩ v):=by
 have e:((w.alloc o).drewN m).setCell ⟨b,i,none⟩ v=((w.setCell ⟨b,i,none⟩ v).alloc o).drewN m:=by
  rw[<-World.setCell_alloc_past o b i v hb];rfl
 rw[e];refine⟨below_drewN ((Below.refl _ _).alloc (by simp) _) _,?_⟩;have:=heap_alloc_new (w.setCell ⟨b,i,none⟩ v) o;simpa using this
theorem AL{f:World->Prop}{W:World}(P:World->Prop)(hP:P W)(h:∀W',P W'->f W'):f W:=h W hP
theorem VH(w:World)(cb lb nl k:Nat)(n ac:Int)(P:Pk)(S:ByteArray)(A Post:World->Prop)(hk:k<nl)(hP:P.line=(k:Int))(b3:w.cell? ⟨cb,3,none⟩=some (.slice (some ⟨lb,0,none⟩) nl nl))(a5:w.cell? ⟨lb,k*10+5,none⟩=some (.string S))(a6:w.cell? ⟨lb,k*10+6,none⟩=some (.int .i64 ac))(z6:w.frozen? ⟨lb,k*10+6,none⟩=false)(hac:0<=ac/\ac<=10)(hne:P.part=ac)
  (H187:Hid (∀w,Calls Tryz.prog 187 #[.string S] w fun e w'=>e=.returned (.int .i64 n)/\w'=w))
  (HS:Hid (ac+1<n->∀wa,Below w.heap.size (w.setCell ⟨lb,k*10+6,none⟩ (.int .i64 (ac+1))) wa->Calls Tryz.prog 112 #[ptr cb,.int .i64 (k:Int),.bool false] wa fun e w'=>e=.returned (.tuple #[])/\A w'))
  (HR:Hid (∀w',A w'->Calls Tryz.prog 111 #[ptr cb,.pointer (some ⟨lb,k*10,none⟩)] w' fun e w''=>e=.returned (.tuple #[])/\Post w''))
  (HN:Hid (¬ac+1<n->∀wa,Below w.heap.size (w.setCell ⟨lb,k*10+6,none⟩ (.int .i64 (ac+1))) wa->A wa)):
  Calls Tryz.prog 141 #[ptr cb,pv P] w fun e w'=>e=.returned (.tuple #[])/\Post w':=by
 obtain⟨kd,cl,li,ln,sq',u,pa,o,pl,body⟩:=P;dsimp only[pv]at *;subst hP hne;have hl1:=lt_of_cell b3;have hl2:=lt_of_cell a6;have q1:(0:Int)<=(k:Int):=by omega
 have q2:(k:Int)<(nl:Int):=by omega
 have e1:(pa != pa)=false:=by simp
 have ew:IntKind.i64.wrap (pa+1)=pa+1:=by rw[IntKind.wrap_i64];omega
 generalize str body=SB at *;have HBX:Hid (∀m,Boxed w (w.setCell ⟨lb,k*10+6,none⟩ (.int .i64 (pa+1))) (.cells #[.int .i64 kd,.int .i64 cl,.int .i64 li,.int .i64 (k:Int),.int .i64 sq',.int .i64 u,.int .i64 pa,.int .i64 o,.bool pl,.string SB] 41) (((w.alloc (.cells #[.int .i64 kd,.int .i64 cl,.int .i64 li,.int .i64 (k:Int),.int .i64 sq',.int .i64 u,.int .i64 pa,.int .i64 o,.bool pl,.string SB] 41)).drewN m).setCell ⟨lb,k*10+6,none⟩ (.int .i64 (pa+1)))):=fun m=>YH hl2
 have HF:Hid (∀W,Boxed w (w.setCell ⟨lb,k*10+6,none⟩ (.int .i64 (pa+1))) (.cells #[.int .i64 kd,.int .i64 cl,.int .i64 li,.int .i64 (k:Int),.int .i64 sq',.int .i64 u,.int .i64 pa,.int .i64 o,.bool pl,.string SB] 41) W->W.cell? ⟨lb,k*10+5,none⟩=some (.string S)/\W.cell? ⟨lb,k*10+6,none⟩=some (.int .i64 (pa+1))/\W.cell? ⟨w.heap.size,3,none⟩=some (.int .i64 (k:Int))/\Below w.heap.size (w.setCell ⟨lb,k*10+6,none⟩ (.int .i64 (pa+1))) W.drew):=fun W hW=>by
  refine⟨?_,?_,cell_of hW.2 3 _ rfl,hW.1.drew⟩
  ·have hno:(⟨lb,k*10+6,none⟩:Addr)≠⟨lb,k*10+5,none⟩:=by simp
   exact((hW.1.cell (p:=⟨lb,k*10+5,none⟩) hl2).trans (World.cell?_setCell_other (h:=hno) ..)).trans a5
  ·rw[hW.1.cell (p:=⟨lb,k*10+6,none⟩) hl2];exact World.cell?_setCell_same (h:=a6) ..
 by_cases hlt:pa+1<n
 ·have HQ:=Ab ((Aa HS) hlt);clear HS HN;go_enter Tryz.func141,Tryz.ntmps141;go_wp2_with fail
  go_quiet (fail);go_wp2_with fail
  go_quiet (fail);go_wp2_with fail
  refine AL _ ((Aa HBX) _) ?_;intro W hW;obtain⟨d5,d6,d3,hB⟩:=(Aa HF) W hW;have HB:=Ab hB;clear hW hB HBX;go_region_held3 (fun w'=>w'.cell? ⟨lb,k*10+5,none⟩=some (.string S)/\w'.cell? ⟨lb,k*10+6,none⟩=some (.int .i64 (pa+1))/\w'.cell? ⟨w.heap.size,3,none⟩=some (.int .i64 (k:Int))) (go_keep) (first|(go_at_call 187;refine((Aa H187) _).mono ?_;rintro e w1 ⟨rfl,hw1⟩;rw[hw1];clear hw1))
  go_wp2_with (first|(go_at_call 112;refine((Aa HQ) _ (Aa HB)).mono ?_;rintro e w3 ⟨rfl,hw3⟩;have HC:=Ab ((Aa HR) w3 hw3);clear hw3)|(go_at_call 111;refine(Aa HC).mono ?_;rintro e w4 ⟨rfl,hw4⟩))
  go_returns;exact⟨rfl,hw4⟩
 ·have HQ:=Ab ((Aa HN) hlt);clear HS HN;go_enter Tryz.func141,Tryz.ntmps141;go_wp2_with fail
  go_quiet (fail);go_wp2_with fail
  go_quiet (fail);go_wp2_with fail
  refine AL _ ((Aa HBX) _) ?_;intro W hW;obtain⟨d5,d6,d3,hB⟩:=(Aa HF) W hW;have HB:=Ab hB;clear hW hB HBX;go_region_held3 (fun w'=>w'.cell? ⟨lb,k*10+5,none⟩=some (.string S)/\w'.cell? ⟨lb,k*10+6,none⟩=some (.int .i64 (pa+1))/\w'.cell? ⟨w.heap.size,3,none⟩=some (.int .i64 (k:Int))) (go_keep) (first|(go_at_call 187;refine((Aa H187) _).mono ?_;rintro e w1 ⟨rfl,hw1⟩;rw[hw1];clear hw1))
  go_wp2_with (first|(go_at_call 111;refine((Aa HR) _ ((Aa HQ) _ (Aa HB))).mono ?_;rintro e w4 ⟨rfl,hw4⟩))
  go_returns;exact⟨rfl,hw4⟩
end Go.Proofs.YtblomippkddgiaaGreatDoor
