import Derived.Test.YtblomippkddgiaaGreatDoorK17
set_option maxRecDepth 100000
set_option maxHeartbeats 4000000
namespace Go.Proofs.YtblomippkddgiaaGreatDoor
open Go.RowKit
theorem acY:∀args w,(callFunc 187 args).run Tryz.prog w=.ok (.enter 187 args) w:=fun _ _=>rfl
theorem acZ:∀args w,(callFunc 189 args).run Tryz.prog w=.ok (.enter 189 args) w:=fun _ _=>rfl
theorem ac0:∀args w,(callFunc 192 args).run Tryz.prog w=.ok (.enter 192 args) w:=fun _ _=>rfl
theorem Pj(l:List Int)(k:Nat):(l[k]?).getD 0=l.getD k 0:=by simp[List.getD_eq_getElem?_getD]
theorem ER{G:R.Wd}(hw:R.KQ G.c G.Ai G.seen G.jobs){i:Nat}{r:R.Sn}(hr:G.seen[i]?=some r)(h3:r.state=3):
  AJ ⟨5,((i / 3:Nat):Int),(G.Ai[i / 3]?).getD 0,((i % 3:Nat):Int),r.seq,r.uid,r.at',R.Ae r.result,false,R.Bb r.result r.at'⟩:=by
 have hi:i<9:=by rw[<-hw.sl];exact(List.getElem?_eq_some_iff.1 hr).1
 have hs:=hw.sn i r hr;have hne:r.seq≠0:=fun e=>by
  rw[hs.zero e]at h3;cases h3
 obtain⟨a1,a2,a3⟩:=hs.some hne;obtain⟨b1,b2,b3,b4⟩:=hs.ans h3;have hq:=hs.seq;have hlt:i / 3<G.Ai.length:=by rw[hw.ll];omega
 have hl1:=hw.lv _ (List.getElem_mem hlt);rw[List.getD_eq_getElem?_getD,List.getElem?_eq_getElem hlt]at a1;rw[List.getElem?_eq_getElem hlt];simp only[Option.getD_some]at a1 ⊢;have hp1:=R.Du b1;have hp2:=R.Er b2;refine⟨by simp,by simp only;omega,by simp only;omega,by simp only;omega,by simp only;omega,a2,by simp only;omega,by simp only;omega,?_⟩;show C5 _;unfold C5;rw[if_pos (by simp)];exact R.Gx b3
theorem LW.Se{p:Pl}{F:Aq}{G:R.Wd}{w:World}(h:LW p F G w){i:Nat}{r:R.Sn}{y:Ku}(hq:QF p G w i r y)(h3:r.state=3):
  Calls Tryz.prog 123 #[ptr p.s,ptr (p.t.ql i)] w fun e w'=>e=.returned (.tuple #[])/\∃F',LW p F' (R.AB G i) w'/\Ay F F' w w':=by
 have hrt:=ER h.Eb hq.seen h3;have hs:=h.Eb.sn i r hq.seen;obtain⟨b1,b2,b3,b4⟩:=hs.ans h3;obtain⟨a,hae⟩:∃a:Nat,r.at'=(a:Int):=⟨r.at'.toNat,by omega⟩;have hpl:8*a<r.result.length:=by have:=R.MG.2 b4;omega
 have hr:=hq.rel;obtain⟨ean,Ct⟩:=hr.ans h3;unfold R.AB;simp only;rw[R.BN hq.seen];rw[hae]at hrt Ct ⊢;obtain⟨Post,hPost⟩:∃Post:World->Prop,∀w'',Post w''↔∃F',LW p F' (R.AU G ((i / 3:Nat):Int) ⟨5,((i / 3:Nat):Int),(G.Ai[i / 3]?).getD 0,((i % 3:Nat):Int),r.seq,r.uid,(a:Int),R.Ae r.result,false,R.Bb r.result (a:Int)⟩) w''/\Ay F F' w w'':=⟨_,fun _=>Iff.rfl⟩;suffices hq:Calls Tryz.prog 123 #[ptr p.s,ptr (p.t.ql i)] w fun e w'=>e=.returned (.tuple #[])/\Post w' from hq.mono (fun e w' h=>⟨h.1,(hPost w').1 h.2⟩)
 have HS:Hid (∀w',Below w.heap.size w w'->Calls Tryz.prog 192 #[ptr p.s,.agg #[.int .i64 y.client,.int .i64 y.Ag,.int .i64 y.line,.int .i64 y.seq,.int .i64 y.uid],Ms 5 0 0 0 0 0 (a:Int) (R.Ae r.result) false (str (R.Bb r.result (a:Int)))] w' fun e w''=>e=.returned (.tuple #[])/\Post w''/\w''.cell? ⟨p.t.ql i,0,none⟩=some (.int .i64 y.client)/\w''.cell? ⟨p.t.ql i,1,none⟩=some (.int .i64 y.Ag)/\w''.cell? ⟨p.t.ql i,2,none⟩=some (.int .i64 y.line)/\w''.cell? ⟨p.t.ql i,3,none⟩=some (.int .i64 y.seq)/\w''.cell? ⟨p.t.ql i,4,none⟩=some (.int .i64 y.uid)/\w''.cell? ⟨p.t.ql i,7,none⟩=some (.string (str r.result))/\w''.cell? ⟨p.t.ql i,8,none⟩=some (.int .i64 (a:Int))):=fun w' hb=>by
  have hrt':AJ ⟨5,y.client,y.Ag,y.line,y.seq,y.uid,(a:Int),R.Ae r.result,false,R.Bb r.result (a:Int)⟩:=by
   rw[hr.client,hr.Ag,hr.line,hr.seq,hr.uid,<-Pj];exact hrt
  refine((h.below hb).aac _ _ _ _ _ 5 (a:Int) (R.Ae r.result) false _ hrt').mono ?_;rintro e w'' ⟨rfl,F',q1,q2⟩;have hq1:=q1;rw[hr.client,hr.Ag,hr.line,hr.seq,hr.uid,<-Pj]at hq1;have hsn:(R.AU G y.client ⟨5,y.client,y.Ag,y.line,y.seq,y.uid,(a:Int),R.Ae r.result,false,R.Bb r.result (a:Int)⟩).seen[i]?=some r:=by rw[R.Cw];exact hq.seen
  obtain⟨y2,g1,_⟩:=q1.q hsn hq.ne;obtain⟨k0,k1,k2,k3,k4,k5,k6,k7,k8,k9,k10⟩:=TK g1.blk;have hr2:=g1.rel;rw[R.Hy]at hr2;obtain⟨ean2,eat2⟩:=hr2.ans h3;rw[hr2.client,<-hr.client]at k0;rw[hr2.Ag,<-hr.Ag]at k1;rw[hr2.line,<-hr.line]at k2;rw[hr2.seq,<-hr.seq]at k3;rw[hr2.uid,<-hr.uid]at k4;rw[ean2]at k7;rw[eat2,hae]at k8;exact⟨rfl,(hPost w'').2 ⟨F',hq1,(Ay.Aj F hb).trans q2⟩,k0,k1,k2,k3,k4,k7,k8⟩
 obtain⟨c0,c1,c2,c3,c4,c5,c6,c7,c8,c9,c10⟩:=TK hq.blk;rw[ean]at c7;rw[Ct]at c8;have HP:=Ab (fun w=>C8 r.result w (by omega));have HC:=Ab (fun w=>M4 r.result a w (by omega) hpl);have HD:=Ab ((Aa HS) w.drew (Below.refl _ _).drew);clear hPost hrt HS hs h hr hq ean Ct;generalize str (R.Bb r.result (a:Int))=SB at *;generalize str r.result=SM at *;generalize R.Ae r.result=N at *;generalize p.t.ql i=b at *;obtain⟨cl,li,ln,sq,u,st,ak,an,yt,wt,tr⟩:=y;simp only at c0 c1 c2 c3 c4 HD;clear c5 c6 c9 c10 hpl b1 b2 b3 b4 hae h3;go_enter Tryz.func123,Tryz.ntmps123;go_wp2_with fail
 go_region_held3 (fun w'=>w'.cell? ⟨b,0,none⟩=some (.int .i64 cl)/\w'.cell? ⟨b,1,none⟩=some (.int .i64 li)/\w'.cell? ⟨b,2,none⟩=some (.int .i64 ln)/\w'.cell? ⟨b,3,none⟩=some (.int .i64 sq)/\w'.cell? ⟨b,4,none⟩=some (.int .i64 u)/\w'.cell? ⟨b,7,none⟩=some (.string SM)/\w'.cell? ⟨b,8,none⟩=some (.int .i64 (a:Int))) (go_keep) (first
  |(go_at_call 187;refine((Aa HP) _).mono ?_;rintro e w1 ⟨rfl,hw1⟩;rw[hw1];clear hw1)
  |(go_at_call 189;refine((Aa HC) _).mono ?_;rintro e w2 ⟨rfl,hw2⟩;rw[hw2];clear hw2)
  |(go_at_call 192;refine(Aa HD).mono ?_;rintro e w3 ⟨rfl,hw3,k0,k1,k2,k3,k4,k7,k8⟩))
 all_goals
  go_wp2;go_returns;exact⟨rfl,hw3⟩
theorem WH(w:World)(b:Nat)(s:List UInt8)(a:Int)(hs:s.length<=1000)(h7:w.cell? ⟨b,7,none⟩=some (.string (str s)))(h8:w.cell? ⟨b,8,none⟩=some (.int .i64 a)):
  Calls Tryz.prog 198 #[ptr b] w fun e w'=>e=.returned (.bool (decide (a=R.Ae s-1)))/\Below w.heap.size w w':=by
 have HP:=Ab (fun w=>C8 s w (by omega));have hn:0<=R.Ae s/\R.Ae s<=1000:=by unfold R.Ae;omega
 generalize str s=SM at *;generalize R.Ae s=N at *;have hsub:IntKind.i64.wrap (N-1)=N-1:=by rw[IntKind.wrap_i64];omega
 go_enter Tryz.func198,Tryz.ntmps198;go_wp2_with fail
 go_region_held3 (fun w'=>w'.cell? ⟨b,7,none⟩=some (.string SM)/\w'.cell? ⟨b,8,none⟩=some (.int .i64 a)) (go_keep) (first
  |(go_at_call 187;refine((Aa HP) _).mono ?_;rintro e w1 ⟨rfl,hw1⟩;rw[hw1];clear hw1))
 all_goals
  go_wp2
  go_ret
  exact⟨by
   have:(a==N-1)=decide (a=N-1):=by rw[Bool.eq_iff_iff];simp
   rw[this];rfl,(Below.refl _ _).drew⟩
theorem OB(w:World)(s b:Nat)(rt tr:Int)(last:Bool)(P1 P2 Post:World->Prop)
  (H1:Hid (Calls Tryz.prog 123 #[ptr s,ptr b] w fun e w'=>e=.returned (.tuple #[])/\P1 w'))
  (H2:Hid (∀w',P1 w'->Calls Tryz.prog 198 #[ptr b] w' fun e w''=>e=.returned (.bool last)/\P2 w''))
  (H3:Hid (∀w',P2 w'->w'.cell? ⟨s,2,none⟩=some (.int .i64 rt)/\w'.cell? ⟨s,3,none⟩=some (.int .i64 tr)/\(∃x,w'.cell? ⟨b,9,none⟩=some (.int .i64 x))/\(∃x,w'.cell? ⟨b,10,none⟩=some (.int .i64 x))/\w'.frozen? ⟨b,9,none⟩=false/\w'.frozen? ⟨b,10,none⟩=false/\¬s=b))
  (HL:Hid (last=true->∀w',P2 w'->Post (w'.setCell ⟨b,9,none⟩ (.int .i64 0))))
  (HM:Hid (last=false->∀w',P2 w'->Post ((w'.drew.setCell ⟨b,9,none⟩ (.int .i64 rt)).setCell ⟨b,10,none⟩ (.int .i64 tr)))):
  Calls Tryz.prog 137 #[ptr s,ptr b] w fun e w'=>e=.returned (.tuple #[])/\Post w':=by
 go_enter Tryz.func137,Tryz.ntmps137;go_wp2_with (first|(go_at_call 123;refine(Aa H1).mono ?_;rintro e w1 ⟨rfl,hw1⟩;have HC:=Ab ((Aa H2) w1 hw1)))
 refine(Aa HC).mono ?_;rintro e w2 ⟨rfl,hw2⟩;obtain⟨s2,s3,⟨x9,b9⟩,⟨x10,b10⟩,z9,z10,hsb⟩:=(Aa H3) w2 hw2;have hlb:=lt_of_cell b9;have hls:=lt_of_cell s2;have hbs:¬b=s:=fun e=>hsb e.symm
 have HX:=Ab hw2;clear HC hw2;cases last with
 |true=>
  have HP:=Ab ((Aa HL) rfl w2 (Aa HX));go_wp2;go_returns;exact⟨rfl,Aa HP⟩
 |false=>
  have HP:=Ab ((Aa HM) rfl w2 (Aa HX));go_wp2
  go_region
  all_goals
   go_wp2;go_returns;exact⟨rfl,Aa HP⟩
theorem Kw(G:R.Wd)(i:Nat):(R.AB G i).seen=G.seen:=by unfold R.AB;rw[R.Cw]
theorem DI(G:R.Wd)(i:Nat):(R.AB G i).Ai=G.Ai:=by unfold R.AB;rw[R.Hy]
theorem Oe(G:R.Wd)(i:Nat):(R.AB G i).c=G.c:=by unfold R.AB;rw[R.Gb]
theorem LW.ab9{p:Pl}{F:Aq}{G:R.Wd}{w:World}(h:LW p F G w){i:Nat}{r:R.Sn}{y:Ku}(hq:QF p G w i r y):¬p.s=p.t.ql i:=Bi h.Co.bs hq.blk (by decide)
theorem LW.tell{p:Pl}{F:Aq}{G:R.Wd}{w:World}(h:LW p F G w){i:Nat}{r:R.Sn}{y:Ku}(hq:QF p G w i r y)(h3:r.state=3):
  Calls Tryz.prog 137 #[ptr p.s,ptr (p.t.ql i)] w fun e w'=>e=.returned (.tuple #[])/\∃F',LW p F' (R.DR G i) w'/\Ay F F' w w':=by
 have hs:=h.Eb.sn i r hq.seen;obtain⟨b1,b2,b3,b4⟩:=hs.ans h3;have hcf:=h.wf.cf;unfold R.BL at hcf;have hsn:(R.AB G i).seen[i]?=some r:=by rw[Kw];exact hq.seen
 have etell:R.DR G i=R.Av (R.AB G i) i {r with timed:=decide (8*r.at'+8<(r.result.length:Int)),wait:=G.c.Be,tries:=G.c.tries}:=by
  unfold R.DR;simp only;rw[R.BN hsn]
 rw[etell];have turn:∀(F':Aq) (w1 w':World) (y1 y':Ku),LW p F' (R.AB G i) w1->Ay F F' w w1->QF p (R.AB G i) w1 i r y1->Af (fun b=>b=p.t.ql i) w1 w'->w'.heap[p.t.ql i]?=some (.cells y'.cells.toArray 147 (0,0))->J7 i (G.Ai.getD (i / 3) 0) {r with timed:=decide (8*r.at'+8<(r.result.length:Int)),wait:=G.c.Be,tries:=G.c.tries} y'->∃F',LW p F' (R.Av (R.AB G i) i {r with timed:=decide (8*r.at'+8<(r.result.length:Int)),wait:=G.c.Be,tries:=G.c.tries}) w'/\Ay F F' w w':=fun F' w1 w' y1 y' k1 k2 k3 k4 k5 k6=>by
  obtain⟨q1,_,q2⟩:=k1.LF (r':={r with timed:=decide (8*r.at'+8<(r.result.length:Int)),wait:=G.c.Be,tries:=G.c.tries}) (y':=y') k3 hq.ne k4 k5 (by rw[DI];exact k6) (by
   rw[DI];exact⟨fun e=>absurd e hq.ne,hs.seq,hs.some,hs.IV,hs.wait,hs.ans,fun _=>⟨h3,by simp only;omega,by simp only;omega⟩⟩)
  exact⟨F',q1,k2.trans q2⟩
 refine OB w p.s (p.t.ql i) G.c.Be G.c.tries (decide (r.at'=R.Ae r.result-1)) (fun w'=>∃F',LW p F' (R.AB G i) w'/\Ay F F' w w') (fun w'=>∃F',LW p F' (R.AB G i) w'/\Ay F F' w w') _ (h.Se hq h3) ?_ ?_ ?_ ?_
 ·rintro w1 ⟨F1,k1,k2⟩;obtain⟨y1,g1,_⟩:=k1.q hsn hq.ne;obtain⟨_,_,_,_,_,_,_,c7,c8,_,_⟩:=TK g1.blk;obtain⟨ean,Ct⟩:=g1.rel.ans h3;rw[ean]at c7;rw[Ct]at c8;refine(WH w1 _ r.result r.at' (by omega) c7 c8).mono ?_;rintro e w2 ⟨rfl,hb⟩;exact⟨rfl,F1,k1.below hb,k2.trans (Ay.Aj F1 hb)⟩
 ·rintro w1 ⟨F1,k1,k2⟩;obtain⟨y1,g1,_⟩:=k1.q hsn hq.ne;obtain⟨_,_,_,_,_,_,_,_,_,c9,c10⟩:=TK g1.blk;have s2:=k1.Co.cell 2 _ rfl;have s3:=k1.Co.cell 3 _ rfl;rw[Oe]at s2 s3;exact⟨s2,s3,⟨_,c9⟩,⟨_,c10⟩,open_list g1.blk,open_list g1.blk,k1.ab9 g1⟩
 ·rintro hl w1 ⟨F1,k1,k2⟩;have hl:r.at'=R.Ae r.result-1:=by simpa using hl
  obtain⟨y1,g1,_⟩:=k1.q hsn hq.ne;have hrel:=g1.rel;rw[DI]at hrel;have hf:decide (8*r.at'+8<(r.result.length:Int))=false:=by
   rw[decide_eq_false_iff_not,R.LD];omega
  refine turn F1 w1 _ y1 {y1 with wait:=0} k1 k2 g1 (Am _) (GK g1.blk rfl) ⟨hrel.client,hrel.Ag,hrel.line,hrel.seq,hrel.uid,hrel.state,hrel.asked,hrel.ans,?_,?_⟩
  ·simp[hf]
  ·simp[hf]
 ·rintro hl w1 ⟨F1,k1,k2⟩;have hl:¬r.at'=R.Ae r.result-1:=by simpa using hl
  have hbd:Below w1.heap.size w1 w1.drew:=(Below.refl _ _).drew;have k1':=k1.below hbd;obtain⟨y1,g1,_⟩:=k1'.q hsn hq.ne;have hrel:=g1.rel;rw[DI]at hrel;have hf:decide (8*r.at'+8<(r.result.length:Int))=true:=by
   rw[decide_eq_true_iff,R.LD];omega
  refine turn F1 w1.drew _ y1 {y1 with wait:=G.c.Be,tries:=G.c.tries} k1' (k2.trans (Ay.Aj F1 hbd)) g1 ((Am _).trans (Am _)) ?_ ⟨hrel.client,hrel.Ag,hrel.line,hrel.seq,hrel.uid,hrel.state,hrel.asked,hrel.ans,?_,?_⟩
  ·exact GK (y:={y1 with wait:=G.c.Be}) (GK g1.blk rfl) rfl
  ·simp[hf]
  ·simp
theorem IE(G:R.Wd)(to:Int)(p:Pk):(R.AU G to p).Ad=G.Ad:=by unfold R.AU;split<;>rfl
theorem Ep{G:R.Wd}{to:Int}{p:Pk}{i k:Nat}:R.A7 (R.AU G to p) i k=R.A7 G i k:=by
 unfold R.A7;rw[IE]
theorem E7{G:R.Wd}{to:Int}{p:Pk}(h:G.Ao.length<40):(R.AU G to p).Ao=G.Ao++[⟨to,CB p,false⟩]:=by
 unfold R.AU;rw[if_pos h]
def Fs(to:Int)(p:Pk):R.Fl:=⟨to,CB p,false⟩
theorem Q9{G:R.Wd}{to:Int}{p:Pk}{fl:List R.Fl}(hf:G.Ao=Fs to p :: fl)(hr:AJ p):(R.Au G 0).2=if to=-1 then R.C3 {G with Ao:=fl} p else R.CF {G with Ao:=fl} to p:=by
 have hoff:¬R.off G 0:=by
  unfold R.off;rw[hf];simp
 unfold R.Au;rw[if_neg hoff];have e0:G.Ao[(0:Int).toNat]?=some (Fs to p):=by rw[hf];rfl
 have e1:G.Ao.eraseIdx (0:Int).toNat=fl:=by rw[hf];rfl
 rw[e0,e1];simp only[Fs];rw[GA hr];rfl
end Go.Proofs.YtblomippkddgiaaGreatDoor
namespace Go.Proofs.YtblomippkddgiaaGreatDoor.R
theorem Inv.N4{M:Bk}{G:Wd}(h:Inv M G){p:Pk}{d:Cd}{i:Nat}(ha:Fy M G p d i){r:Sn}(hr:G.seen[i]?=some r)(hs:¬r.seq=p.seq)(hlt:¬p.seq<r.seq)(hal:Dp G.Ac p.uid=true):Inv M (R.Av G i {De with seq:=p.seq,uid:=p.uid,state:=1}):=by
 obtain⟨_,_,_,_,hq5,_,ho9,hpt,_⟩:=ha.right;have hkey:=ha.key;have hcd:=(h.bk _ d ha.made).1;have hml:=KE hcd;have h255:=h.wf.sv;obtain⟨_,_,hlf,_,_,hu6,_⟩:=ha.right;have h2:=h.Av (r':={De with seq:=p.seq,uid:=p.uid,state:=1}) hr (by simp only;omega) ⟨fun e=>by simp only at e;omega,by simp only;omega,fun _=>⟨by rw[<-ha.Ag];exact hlf.1,hu6,by simp⟩,by simp[De],by simp,by simp,by simp[De]⟩ (fun _=>⟨d,by rw[<-hkey];exact ha.made,ha.uid,fun _=>⟨by simp[De],by simp only[De];omega⟩,by simp,fun _=>?_,by simp⟩)
 ·exact h2
 ·rw[<-ha.uid];refine⟨hal,fun e he hek=>?_⟩;obtain⟨n,s,a1,a2,a3⟩:=KR hal;rw[a1,Ju a2]at he;have hf:=h.Rq n s e a2 a3 he;rw[<-hkey]at hek;simp only[CX,DZ,Key.mk.injEq]at hek;obtain⟨e1,e2,e3,e4⟩:=hek;unfold KL LZ at hf;rw[e1,e2,e3,e4,<-ha.i,hr]at hf;have hl:=ha.Ag;obtain⟨_,p2,_,p4,_⟩:=ha.right;have hdiv:i / 3=p.client.toNat:=by have:=ha.i;omega
  rw[hdiv]at hl;simp only[Option.getD_some]at hf;omega
def cnt(l:List Sn):Nat:=(l.filter fun r=>decide (0<r.seq)).length
theorem DY(r:Sn)(l:List Sn):cnt (r :: l)=(if 0<r.seq then 1 else 0)+cnt l:=by
 unfold cnt;rw[List.filter_cons];by_cases h:0<r.seq
 ·simp[h];omega
 ·simp[h]
theorem K6:∀(l:List Sn) (i:Nat) (r':Sn),cnt (l.set i r')<=cnt l+1
 |[],i,r'=>by simp[cnt]
 |r :: l,0,r'=>by
  rw[List.set_cons_zero,DY,DY];split<;>split<;>omega
 |r :: l,i+1,r'=>by
  rw[List.set_cons_succ,DY,DY];have:=K6 l i r';omega
theorem Jh:∀(l:List Sn) (i:Nat) (r r':Sn),l[i]?=some r->(0<r'.seq->0<r.seq)->cnt (l.set i r')<=cnt l
 |[],i,r,r',h,_=>by simp at h
 |x :: l,0,r,r',h,hs=>by
  simp at h;subst h;rw[List.set_cons_zero,DY,DY];split
  ·rename_i q;rw[if_pos (hs q)];omega
  ·omega
 |x :: l,i+1,r,r',h,hs=>by
  rw[List.set_cons_succ,DY,DY];have:=Jh l i r r' (by simpa using h) hs;omega
theorem ND(G:Wd)(i:Nat)(r':Sn)(hs:0<r'.seq->0<(Ap G i).seq):cnt (G.seen.set i r')<=cnt G.seen:=by
 cases h:G.seen[i]? with
 |none=>
  have:G.seen.set i r'=G.seen:=List.set_eq_of_length_le (by simpa using h);rw[this];exact Nat.le_refl _
 |some r=>
  rw[BN h]at hs;exact Jh _ _ r r' h hs
theorem YL(l:List Sn)(f:Sn->Sn)(hf:∀r,(f r).seq=r.seq):cnt (l.map f)=cnt l:=by
 induction l with
 |nil=>rfl
 |cons r l ih=>rw[List.map_cons,DY,DY,ih,hf]
def Room(G:Wd):Prop:=(cnt G.seen:Int)<=G.c.table
theorem Room.of{G G':Wd}(h:Room G)(hc:G'.c=G.c)(hs:cnt G'.seen<=cnt G.seen):Room G':=by
 unfold Room at *;rw[hc];omega
theorem Room.same{G G':Wd}(h:Room G)(hc:G'.c=G.c)(hs:G'.seen=G.seen):Room G':=h.of hc (by rw[hs];exact Nat.le_refl _)
theorem Room.send{G:Wd}(h:Room G)(to:Int)(p:Pk):Room (AU G to p):=h.same (Gb G to p) (Cw G to p)
theorem Room.line{G:Wd}(h:Room G)(i k:Int)(l:Ln):Room (Al G i k l):=h.same rfl rfl
theorem Room.seen{G:Wd}(h:Room G)(i:Nat)(r':Sn)(hs:0<r'.seq->0<(Ap G i).seq):Room (Av G i r'):=h.of rfl (ND G i r' hs)
theorem Room.X0{G:Wd}(h:Room G)(i:Nat){r':Sn}(hs:r'.seq=(Ap G i).seq):Room (Av G i r'):=h.seen i r' (fun q=>by rw[<-hs];exact q)
theorem Room.result{G:Wd}(h:Room G)(i:Nat):Room (AB G i):=h.send _ _
theorem Room.tell{G:Wd}(h:Room G)(i:Nat):Room (DR G i):=by
 unfold DR;simp only;exact Room.X0 (h.result i) i rfl
theorem Room.EE{G:Wd}(h:Room G)(p:Pk)(a b c:Int):Room (CU G p a b c):=h.send _ _
theorem Room.Nv{G:Wd}(h:Room G)(p:Pk):Room (Iu G p):=by
 unfold Iu;split
 ·exact h.EE p _ _ _
 ·exact h
theorem Room.gather{G:Wd}(h:Room G)(i:Nat)(p:Pk):Room (Cy G i p):=by
 unfold Cy;simp only;split
 ·split
  ·split
   ·exact h
   ·refine Room.Nv ?_ p;exact(h.seen i {Ap G i with state:=2,message:=(Ap G i).message++p.body,pieces:=(Ap G i).pieces+1} (fun q=>q)).same rfl rfl
  ·refine Room.Nv ?_ p;exact Room.X0 h i rfl
 ·exact h.Nv p
theorem Room.known{G:Wd}(h:Room G)(i:Nat)(p:Pk):Room (CL G i p):=by
 unfold CL;simp only;repeat' split
 ·exact h.gather i p
 ·exact h
 ·exact h.EE p _ _ _
 ·exact h
 ·exact h.tell i
 ·exact h.EE p _ _ _
 ·exact h.EE p _ _ _
theorem Room.Ai{G:Wd}(h:Room G)(p:Pk):Room (CM G p):=by
 unfold CM;split
 ·have z:∀K:Wd,Room K->∀i,Room (Av K i De):=fun K hK i=>hK.seen i De (fun q=>by simp[De]at q)
  exact(z _ (z _ (z _ h (3*p.client.toNat)) (3*p.client.toNat+1)) (3*p.client.toNat+2)).same rfl rfl
 ·exact h
theorem Room.ask{G:Wd}(h:Room G)(i:Nat)(p:Pk)(h0:0<=(Ap G i).seq):Room (G0 G i p):=by
 unfold G0;simp only;repeat' split
 ·refine Room.tell ?_ i;exact Room.X0 h i rfl
 ·exact h
 ·exact h.known i p
 ·exact h
 ·exact h.EE p _ _ _
 ·exact h
 ·exact h.EE p _ _ _
 ·rename_i hn;refine Room.known ?_ i p;by_cases hz:(Ap G i).seq=0
  ·have hlt:¬G.c.table<=(A5 G:Int):=fun q=>hn ⟨hz,q⟩
   have h2:A5 G=cnt G.seen:=rfl;rw[h2]at hlt;refine Int.le_trans (Int.ofNat_le.2 (K6 G.seen i _)) ?_;show ((cnt G.seen+1:Nat):Int)<=G.c.table;omega
  ·exact h.seen i _ (fun _=>by omega)
theorem Room.heard{G:Wd}(h:Room G)(c:Int)(p:Pk):Room (CF G c p):=by
 unfold CF DG DN GQ AA;simp only;repeat' split
 all_goals first
  |exact h
  |exact h.line _ _ _
  |exact h.send _ _
  |exact((h.line _ _ _).send _ _).line _ _ _
  |exact(h.line _ _ _).line _ _ _
theorem Room.CR{M:Bk}{G:Wd}(h:Room G)(hI:Inv M G)(i:Int):Room (Au G i).2:=by
 unfold Au;split
 ·exact h
 ·split
  ·exact h
  ·rename_i f hf;have h1:Room {G with Ao:=G.Ao.eraseIdx i.toNat}:=h.same rfl rfl;simp only;split
   ·exact h1
   ·split
    ·exact h1
    ·rename_i p _;split
     ·unfold C3;split
      ·exact h1
      ·refine Room.ask (h1.Ai p) _ p ?_;have z:∀(K:Wd) (k:Nat),(∀r∈K.seen,0<=r.seq)->0<=(Ap K k).seq:=fun K k hK=>by
        unfold Ap;cases hk:K.seen[k]? with
        |none=>simp[De]
        |some r=>exact hK r (List.mem_of_getElem? hk)
       have s0:∀r∈G.seen,0<=r.seq:=fun r hr=>by
        obtain⟨k,hk⟩:=List.mem_iff_getElem?.1 hr;exact(hI.ws.sn k r hk).seq.1
       refine z _ _ ?_;unfold CM;split
       ·intro r hr;rcases List.mem_or_eq_of_mem_set hr with hr|rfl
        ·rcases List.mem_or_eq_of_mem_set hr with hr|rfl
         ·rcases List.mem_or_eq_of_mem_set hr with hr|rfl
          ·exact s0 r hr
          ·simp[De]
         ·simp[De]
        ·simp[De]
       ·exact s0
     ·exact h1.heard _ p
theorem Room.done{G:Wd}(h:Room G)(i:Nat):Room (Ha G i):=by
 unfold Ha;simp only;refine Room.tell ?_ i;exact(h.seen i {Ap G i with state:=3,result:=(AV ((CO ((G.Ac[((Ap G i).uid-1).toNat]?).getD ⟨0,false,[]⟩).kind (256*(((Ap G i).message.getD 0 0).toNat:Int)+(((Ap G i).message.getD 1 0).toNat:Int))).getD (⟨#[]⟩,⟨#[]⟩)).2 (Cs ((G.Ac[((Ap G i).uid-1).toNat]?).getD ⟨0,false,[]⟩).kind ((G.Ac[((Ap G i).uid-1).toNat]?).getD ⟨0,false,[]⟩).log (256*(((Ap G i).message.getD 0 0).toNat:Int)+(((Ap G i).message.getD 1 0).toNat:Int)) (V.D3 ((CO ((G.Ac[((Ap G i).uid-1).toNat]?).getD ⟨0,false,[]⟩).kind (256*(((Ap G i).message.getD 0 0).toNat:Int)+(((Ap G i).message.getD 1 0).toNat:Int))).getD (⟨#[]⟩,⟨#[]⟩)).1 ((Ap G i).message.drop 2)).2)).getD [],at':=0} (fun q=>q)).same rfl rfl
theorem Room.serve{G:Wd}(h:Room G):Room (AP G).2:=by
 unfold AP;have:∀(l:List Jb),Room (BV G l).2:=fun l=>by
  induction l with
  |nil=>exact h.same rfl rfl
  |cons j l ih=>
   unfold BV;split
   ·exact Room.done (G:={G with jobs:=l}) (h.same rfl rfl) _
   ·exact ih
 exact this _
theorem Room.ends{G:Wd}(h:Room G)(uid:Int):Room (Ez G uid):=by
 refine h.of rfl ?_;unfold Ez;simp only;rw[YL]
 ·exact Nat.le_refl _
 ·intro r;split<;>rfl
theorem Room.export{G:Wd}(h:Room G)(name:List UInt8)(kind:Int):Room (Fj G name kind).2:=by
 unfold Fj;repeat' split
 all_goals first
  |exact h
  |exact h.same rfl rfl
  |exact(h.ends _).same rfl rfl
theorem Room.imports{G:Wd}(h:Room G)(c:Int)(name:List UInt8):Room (EQ G c name).2:=by
 unfold EQ;repeat' split
 all_goals first
  |exact h
  |exact h.same rfl rfl
theorem Room.call{G:Wd}(h:Room G)(c l u p:Int)(arg:List It):Room (Cz G c l u p arg).2:=by
 unfold Cz AA;dsimp only;repeat' split
 all_goals first
  |exact h
  |exact(h.line _ _ _).send _ _
theorem Room.new{c:Cf}{G:Wd}(h:UH c=some G):Room G:=by
 unfold UH at h;split at h
 ·rename_i hc;cases h;unfold Room;have:cnt (List.replicate 9 De)=0:=by decide
  simp only[this];unfold BL at hc;omega
 ·cases h
structure VD(a b:List Ln):Prop where
 len:b.length=a.length
 each:∀(k:Nat) (l':Ln),b[k]?=some l'->∃l,a[k]?=some l/\l'.seq=l.seq
structure QE(a b:List Cl):Prop where
 len:b.length=a.length
 each:∀(i:Nat) (c':Cl),b[i]?=some c'->∃c,a[i]?=some c/\c'.Ag=c.Ag/\c'.bound=c.bound/\VD c.lines c'.lines
structure Nu(a b:List Sv):Prop where
 len:b.length=a.length
 each:∀(u:Nat) (s':Sv),b[u]?=some s'->∃s,a[u]?=some s/\s'.kind=s.kind/\(s.alive=false->s'.alive=false/\s'.log=s.log)/\∃t,s'.log=s.log++t
structure Sm(G G':Wd):Prop where
 c:G'.c=G.c
 names:G'.names=G.names
 stands:G'.stands=G.stands
 sv:Nu G.Ac G'.Ac
 cl:QE G.Ad G'.Ad
theorem VD.refl(a:List Ln):VD a a:=⟨rfl,fun _ l h=>⟨l,h,rfl⟩⟩
theorem QE.refl(a:List Cl):QE a a:=⟨rfl,fun _ c h=>⟨c,h,rfl,rfl,VD.refl _⟩⟩
theorem Nu.refl(a:List Sv):Nu a a:=⟨rfl,fun _ s h=>⟨s,h,rfl,fun q=>⟨q,rfl⟩,[],by simp⟩⟩
theorem Sm.refl(G:Wd):Sm G G:=⟨rfl,rfl,rfl,Nu.refl _,QE.refl _⟩
theorem VD.trans{a b c:List Ln}(h:VD a b)(k:VD b c):VD a c:=⟨k.len.trans h.len,fun i l hl=>by
 obtain⟨l1,h1,h2⟩:=k.each i l hl;obtain⟨l2,h3,h4⟩:=h.each i l1 h1;exact⟨l2,h3,h2.trans h4⟩⟩
theorem QE.trans{a b c:List Cl}(h:QE a b)(k:QE b c):QE a c:=⟨k.len.trans h.len,fun i l hl=>by
 obtain⟨l1,h1,h2,h3,h4⟩:=k.each i l hl;obtain⟨l2,g1,g2,g3,g4⟩:=h.each i l1 h1;exact⟨l2,g1,h2.trans g2,h3.trans g3,g4.trans h4⟩⟩
theorem Nu.trans{a b c:List Sv}(h:Nu a b)(k:Nu b c):Nu a c:=⟨k.len.trans h.len,fun i l hl=>by
 obtain⟨l1,h1,h2,h3,t1,h4⟩:=k.each i l hl;obtain⟨l2,g1,g2,g3,t2,g4⟩:=h.each i l1 h1;refine⟨l2,g1,h2.trans g2,fun q=>?_,t2++t1,by rw[h4,g4,List.append_assoc]⟩;obtain⟨p1,p2⟩:=g3 q;obtain⟨p3,p4⟩:=h3 p1;exact⟨p3,p4.trans p2⟩⟩
theorem Sm.trans{a b c:Wd}(h:Sm a b)(k:Sm b c):Sm a c:=⟨k.c.trans h.c,k.names.trans h.names,k.stands.trans h.stands,h.sv.trans k.sv,h.cl.trans k.cl⟩
theorem Sm.send(G:Wd)(to:Int)(p:Pk):Sm G (AU G to p):=by
 unfold AU;split
 ·exact⟨rfl,rfl,rfl,Nu.refl _,QE.refl _⟩
 ·exact Sm.refl G
theorem VD.set{a:List Ln}{k:Nat}{l':Ln}(h:∀l,a[k]?=some l->l'.seq=l.seq):VD a (a.set k l'):=by
 refine⟨by simp,fun j l hl=>?_⟩;rw[List.getElem?_set]at hl;split at hl
 ·rename_i e;subst e;split at hl
  ·rename_i hk;cases hl;exact⟨_,List.getElem?_eq_getElem hk,h _ (List.getElem?_eq_getElem hk)⟩
  ·cases hl
 ·exact⟨l,hl,rfl⟩
theorem WJ{G:Wd}{i k:Int}{c:Cl}{l:Ln}(hc:G.Ad[i.toNat]?=some c)(hl:c.lines[k.toNat]?=some l):A7 G i k=l:=by
 unfold A7;rw[hc];simp[hl]
theorem Sm.line{G:Wd}{i k:Int}{l':Ln}(h:l'.seq=(A7 G i k).seq):Sm G (Al G i k l'):=by
 refine⟨rfl,rfl,rfl,Nu.refl _,⟨by simp[Al],fun j c' hj=>?_⟩⟩;unfold Al at hj;simp only[List.getElem?_modify]at hj;cases hc:G.Ad[j]? with
 |none=>rw[hc]at hj;simp at hj
 |some c=>
  rw[hc]at hj;simp at hj;split at hj
  ·rename_i e;subst e;cases hj;exact⟨c,rfl,rfl,rfl,VD.set (fun l hl=>by rw[h,WJ hc hl])⟩
  ·cases hj;exact⟨_,rfl,rfl,rfl,VD.refl _⟩
theorem Sm.seen(G:Wd)(i:Nat)(r:Sn):Sm G (Av G i r):=⟨rfl,rfl,rfl,Nu.refl _,QE.refl _⟩
theorem Sm.Ih(G:Wd)(f:List Fl):Sm G {G with Ao:=f}:=⟨rfl,rfl,rfl,Nu.refl _,QE.refl _⟩
theorem Sm.piece(G:Wd)(i k:Int)(b:Bool):Sm G (AA G i k b):=Sm.send _ _ _
theorem Sm.I1(G:Wd)(i:Nat):Sm G (AB G i):=Sm.send _ _ _
theorem Sm.rest(G:Wd)(i k:Int):Sm G (DN G i k):=Sm.line rfl
theorem Sm.got(G:Wd)(i:Int)(p:Pk):Sm G (GQ G i p):=Sm.send _ _ _
theorem Sm.result(G:Wd)(i:Int)(p:Pk):Sm G (DG G i p):=by
 unfold DG;simp only;split
 ·exact Sm.refl G
 ·split
  ·split
   ·exact Sm.line rfl
   ·exact((Sm.line (G:=G) (i:=i) (k:=p.line) (l':={A7 G i p.line with came:=(A7 G i p.line).came++p.body,pieces:=(A7 G i p.line).pieces+1,Ah:=Ae (A7 G i p.line).message}) rfl).trans (Sm.got _ _ _)).trans (Sm.rest _ _ _)
  ·exact Sm.got _ _ _
theorem Sm.heard(G:Wd)(i:Int)(p:Pk):Sm G (CF G i p):=by
 unfold CF;simp only;split
 ·exact Sm.refl G
 ·split
  ·split
   ·refine Sm.trans (Sm.line (G:=G) (i:=i) (k:=p.line) (l':={A7 G i p.line with Ah:=(A7 G i p.line).Ah+1}) rfl) ?_;split
    ·exact(Sm.piece _ _ _ _).trans (Sm.rest _ _ _)
    ·exact Sm.rest _ _ _
   ·exact Sm.refl G
  ·split
   ·exact Sm.rest _ _ _
   ·split
    ·exact Sm.result _ _ _
    ·split
     ·exact Sm.line rfl
     ·exact Sm.refl G
theorem Sm.EE(G:Wd)(p:Pk)(a b c:Int):Sm G (CU G p a b c):=Sm.send _ _ _
theorem Sm.tell(G:Wd)(i:Nat):Sm G (DR G i):=by
 unfold DR;exact(Sm.I1 G i).trans (Sm.seen _ _ _)
theorem Sm.Nv(G:Wd)(p:Pk):Sm G (Iu G p):=by
 unfold Iu;split
 ·exact Sm.EE _ _ _ _ _
 ·exact Sm.refl G
theorem Sm.gather(G:Wd)(i:Nat)(p:Pk):Sm G (Cy G i p):=by
 unfold Cy;simp only;split
 ·split
  ·split
   ·exact Sm.refl G
   ·refine Sm.trans ?_ (Sm.Nv _ _);exact⟨rfl,rfl,rfl,Nu.refl _,QE.refl _⟩
  ·exact(Sm.seen G i _).trans (Sm.Nv _ _)
 ·exact Sm.Nv _ _
theorem Sm.known(G:Wd)(i:Nat)(p:Pk):Sm G (CL G i p):=by
 unfold CL;simp only;split
 ·split
  ·exact Sm.gather _ _ _
  ·exact Sm.refl G
 ·split
  ·exact Sm.EE _ _ _ _ _
  ·split
   ·exact Sm.refl G
   ·split
    ·exact Sm.tell _ _
    ·split
     ·exact Sm.EE _ _ _ _ _
     ·exact Sm.EE _ _ _ _ _
theorem Sm.Ai(G:Wd)(p:Pk):Sm G (CM G p):=by
 unfold CM;split
 ·exact⟨rfl,rfl,rfl,Nu.refl _,QE.refl _⟩
 ·exact Sm.refl G
theorem Sm.ask(G:Wd)(i:Nat)(p:Pk):Sm G (G0 G i p):=by
 unfold G0;simp only;split
 ·split
  ·exact(Sm.seen G i _).trans (Sm.tell _ _)
  ·exact Sm.refl G
 ·split
  ·exact Sm.known _ _ _
  ·split
   ·exact Sm.refl G
   ·split
    ·exact Sm.EE _ _ _ _ _
    ·split
     ·exact Sm.refl G
     ·split
      ·exact Sm.EE _ _ _ _ _
      ·exact(Sm.seen G i _).trans (Sm.known _ _ _)
theorem Sm.asked(G:Wd)(p:Pk):Sm G (C3 G p):=by
 unfold C3;split
 ·exact Sm.refl G
 ·exact(Sm.Ai G p).trans (Sm.ask _ _ _)
theorem Sm.CR(G:Wd)(i:Int):Sm G (Au G i).2:=by
 unfold Au;split
 ·exact Sm.refl G
 ·split
  ·exact Sm.refl G
  ·simp only;refine Sm.trans (Sm.Ih G (G.Ao.eraseIdx i.toNat)) ?_;split
   ·exact Sm.refl _
   ·split
    ·exact Sm.refl _
    ·split
     ·exact Sm.asked _ _
     ·exact Sm.heard _ _ _
theorem Nu.done{a:List Sv}{n:Nat}{s:Sv}(hs:a[n]?=some s)(hal:s.alive=true)(e:En):Nu a (a.set n {s with log:=s.log++[e]}):=by
 refine⟨by simp,fun u s' hu=>?_⟩;rw[List.getElem?_set]at hu;split at hu
 ·rename_i q;subst q;split at hu
  ·cases hu;exact⟨s,hs,rfl,(fun q=>by rw[hal]at q;cases q),[e],rfl⟩
  ·cases hu
 ·exact⟨s',hu,rfl,fun q=>⟨q,rfl⟩,[],by simp⟩
theorem Sm.done{M:Bk}{G:Wd}(h:Inv M G){i:Nat}(hi:i<9)(h2:(Ap G i).state=2):Sm G (Ha G i):=by
 obtain⟨d,n,s,rb,hd⟩:=h.NK hi h2;rw[hd.eq h2];refine Sm.trans ?_ (Sm.tell _ _);unfold EM;exact⟨rfl,rfl,rfl,Nu.done hd.sv hd.alive _,QE.refl _⟩
theorem Sm.BV{M:Bk}:∀(js:List Jb) {G:Wd} (_:Inv M G) (_:∃a,G.jobs=a++js),Sm G (BV G js).2
 |[],G,_,_=>by
  unfold R.BV;exact⟨rfl,rfl,rfl,Nu.refl _,QE.refl _⟩
 |j :: js,G,h,⟨a,ha⟩=>by
  unfold R.BV;split
  ·rename_i hw;unfold Et at hw;have hjm:j∈G.jobs:=by rw[ha];simp
   have hb:=h.ws.jb j hjm;refine Sm.trans (b:={G with jobs:=js}) ⟨rfl,rfl,rfl,Nu.refl _,QE.refl _⟩ ?_;have hI:Inv M {G with jobs:=js}:=h.JW (by
    have:=h.ws.jl;rw[ha]at this;simp at this;omega) (fun q hq=>⟨h.ws.jb q (by rw[ha];simp[hq]),h.jb q (by rw[ha];simp[hq])⟩)
   exact Sm.done hI (by omega) hw.1
  ·exact Sm.BV js h ⟨a++[j],by rw[ha];simp⟩
theorem Sm.serve{M:Bk}{G:Wd}(h:Inv M G):Sm G (AP G).2:=Sm.BV G.jobs h ⟨[],rfl⟩
end Go.Proofs.YtblomippkddgiaaGreatDoor.R
