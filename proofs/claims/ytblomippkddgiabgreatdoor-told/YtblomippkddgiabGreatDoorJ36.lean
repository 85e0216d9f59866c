import Derived.Test.YtblomippkddgiabGreatDoorJ35
import Derived.Laws.StructEq
set_option maxRecDepth 100000
set_option maxHeartbeats 4000000
namespace Go.Proofs.YtblomippkddgiabGreatDoor
open Go.RowKit
variable {F:Aq}{i:Nat}{P:Pk}{p:Pl}{M:R.Bk}{d:R.Cd}{r:R.Sn}{G:R.Wd}{w:World}
def E8(p:Pl)(F:Aq)(w:World)(G:R.Wd)(w':World):Prop:=∃t F',LW {p with t:=t} F' G w'/\Ap F F' w w'
theorem E8.of{F':Aq}{w':World}(h:LW p F' G w')(hw:Ap F F' w w'):E8 p F w G w':=⟨p.t,F',h,hw⟩
def U7(G:R.Wd)(i:Nat)(r:R.Sn)(P:Pk):R.Wd:=if R.Ff G P.uid=false then R.C3 G P 7 0 2 else if P.kind=3\/P.part≠0 then G else if r.seq=0/\G.c.table<=(R.BZ G:Int) then R.C3 G P 7 1 2 else R.Dq (R.AB G i (Dv P)) i P
theorem LW.adY(h:LW p F G w)(hI:R.Inv M G)(ae:R.Room G)(hr:G.seen[i]?=some r)(hp:R.FY M G P d i)(hk:(P.kind=1/\P.off=R.Ag d.msg/\P.body=R.Be d.msg P.part)\/P.kind=3)(hs:¬r.seq=P.seq)(ap:¬P.seq<r.seq):
  Calls Tryz.prog 215 #[ptr p.s,Bt p.t G.seen i,pv P] w fun e w'=>e=.returned (.tuple #[])/\E8 p F w (U7 G i r P) w':=by
 have ao:=hp.lt;have ar:=hp.right;obtain⟨_,au,_,av,_⟩:=ar;obtain⟨o,aq⟩:=Gv p.t G.seen i;have hL:Bt p.t G.seen i=.pointer none\/∃b,Bt p.t G.seen i=pt b:=by
  unfold Bt;split
  ·exact afJ rfl
  ·exact afM ⟨_,rfl⟩
 have ad:Bt p.t G.seen i=if r.seq=0 then .pointer none else ptr (p.t.ql i):=by
  unfold Bt;rw[hr];rfl
 have hV:∀wa,Below w.heap.size w wa->Calls Tryz.prog 248 #[pt p.s,.int .i64 P.uid] wa fun e w'=>e=.returned (.bool (R.Ff G P.uid))/\w'=wa:=fun wa hb=>(h.below hb).alive P.uid
 unfold U7;cases hal:R.Ff G P.uid with
 |false=>
  rw[if_pos rfl];rw[hal]at hV;refine YP w p.s _ hL P _ hV (fun wa hb=>?_);refine((h.below hb).PU hp.right (afJ rfl)).mono ?_;rintro e w' ⟨rfl,F',m1,m2⟩;exact⟨rfl,E8.of m1 ((Ap.Al F hb).trans m2)⟩
 |true=>
  rw[if_neg (by simp)];rw[hal]at hV;by_cases aa:P.kind=3\/P.part≠0
  ·rw[if_pos aa];exact YR w p.s _ hL P _ aa hV (fun wa hb=>E8.of (h.below hb) (Ap.Al F hb))
  ·rw[if_neg aa];have af:¬P.kind=3:=fun q=>aa (afJ q)
   have ag:P.part=0:=Decidable.byContradiction fun q=>aa (afM q)
   have s4:w.cell? ⟨p.s,4,none⟩=some (.int .i64 G.c.table):=h.BN.cell 4 _ rfl;have ai:P.client=(P.client.toNat:Int):=by omega
   have al:P.line=(P.line.toNat:Int):=by omega
   have aj:3*P.client.toNat+P.line.toNat=i:=hp.i.symm;have ab:(Ce p.n p.nm p.t G.c G.Aj G.seen)[10+(3*P.client.toNat+P.line.toNat)]?=some (.pointer o):=by
    rw[aj,Iw p.t G.seen p.n p.nm G.c G.Aj ao,aq]
   have hG:∀b' W,Made w p.s (Ce p.n p.nm p.t G.c G.Aj G.seen) (3*P.client.toNat+P.line.toNat) P b' W->Calls Tryz.prog 251 #[pt p.s,pt b',pv P] W fun e w'=>e=.returned (.tuple #[])/\E8 p F w (R.Dq (R.AB G i (Dv P)) i P) w':=fun b' W hm=>by
    rw[aj]at hm;obtain⟨q1,q2,q3⟩:=h.YA hp hm;have am:R.Inv M (R.AB G i (Dv P)):=hI.PL hp hr hs ap (by simpa [R.Ff,R.DC] using hal);have e1:ptr (({p with t:=p.t.put i b'}:Pl).t.ql i)=pt b':=by simp[SP.put]
    rcases hk with ⟨k1,k2,k3⟩|k1
    ·have q4:=q1.UU am q2 rfl (hp.aaq rfl) k1 k2 k3 rfl;rw[e1]at q4;refine q4.mono ?_;rintro e w' ⟨rfl,F',m1,m2⟩;refine⟨rfl,p.t.put i b',F',?_,q3.trans m2⟩;have ah:R.AY (R.AB G i (Dv P)) i=Dv P:=R.Bn q2.seen;unfold R.Dq;simp only[ah];rw[if_pos (show (Dv P).state=1 from rfl)];have ak:P.part<=(Dv P).pieces:=by show P.part<=0;omega
     rw[if_pos ⟨k1,ak⟩];rw[if_pos ak]at m1;exact m1
    ·exact absurd k1 af
   by_cases h0:r.seq=0
   ·rw[ad,if_pos h0];have hM:∀wa,Below w.heap.size w wa->Calls Tryz.prog 99 #[pt p.s] wa fun e w'=>∃a cap,e=.returned (.slice a (R.BZ G) cap)/\Below wa.heap.size wa w':=fun wa hb=>(h.below hb).aeB
    by_cases ac:G.c.table<=(R.BZ G:Int)
    ·rw[if_pos ⟨h0,ac⟩];have an:(R.BZ G:Int)=G.c.table:=by
      have:R.BZ G=R.cnt G.seen:=rfl;unfold R.Room at ae;omega
     refine YQ w p.s (R.BZ G) G.c.table P _ s4 an af ag hV hM (fun wa hb=>?_);refine((h.below hb).PU hp.right (afM rfl)).mono ?_;rintro e w' ⟨rfl,F',m1,m2⟩;exact⟨rfl,E8.of m1 ((Ap.Al F hb).trans m2)⟩
    ·rw[if_neg (fun q=>ac q.2)];exact YT w p.s (R.BZ G) P.client.toNat P.line.toNat G.c.table _ P _ h.BN.bs o ab ai al (by omega) (by omega) af ag s4 (by omega) hM hV hG
   ·rw[ad,if_neg h0,if_neg (fun q=>h0 q.1)];exact YS w p.s (p.t.ql i) P.client.toNat P.line.toNat _ P _ h.BN.bs o ab ai al (by omega) (by omega) af ag hV hG
theorem LW.adM(h:LW p F G w)(hr:G.seen[i]?=some r)(aj:1<=P.seq):
  Calls Tryz.prog 156 #[ptr p.s,Bt p.t G.seen i,pv P] w fun e w'=>e=.returned (.tuple #[])/\E8 p F w (if r.seq=P.seq/\r.state=3/\P.off=R.Ag r.result/\P.part=r.at'/\r.at'<R.Ag r.result-1 then R.Em (R.AB G i {r with at':=r.at'+1}) i else G) w':=by
 have ac:Bt p.t G.seen i=if r.seq=0 then .pointer none else ptr (p.t.ql i):=by
  unfold Bt;rw[hr];rfl
 rw[ac];by_cases h0:r.seq=0
 ·rw[if_pos h0,if_neg (by omega)];refine(ZM w p.s P).mono ?_;rintro e w' ⟨rfl,hb⟩;exact⟨rfl,E8.of (h.below hb) (Ap.Al F hb)⟩
 ·rw[if_neg h0];obtain⟨y,hq,_⟩:=h.q hr h0;have aa:=hq.rel;have ab:=h.Db.sn i r hr;obtain⟨_,_,_,c3,_,c5,_,c7,c8,_⟩:=Qb hq.blk;rw[aa.seq]at c3;rw[aa.state]at c5;by_cases ad:¬r.seq=P.seq\/¬r.state-1=2
  ·rw[if_neg (by omega)];refine(abt w p.s (p.t.ql i) r.seq (r.state-1) P c3 c5 ad).mono ?_;rintro e w' ⟨rfl,hb⟩;exact⟨rfl,E8.of (h.below hb) (Ap.Al F hb)⟩
  ·have e1:r.seq=P.seq:=Decidable.byContradiction fun q=>ad (afJ q)
   have e3:r.state=3:=by
    have:r.state-1=2:=Decidable.byContradiction fun q=>ad (afM q)
    omega
   obtain⟨b1,b2,b3,b4⟩:=ab.ans e3;obtain⟨ae,CF⟩:=aa.ans e3;rw[ae]at c7;rw[CF]at c8;rw[e1]at c3;rw[e3]at c5;have af:=lt_of_cell c7;have ai:=R.El (s:=r.result) (by omega);refine WW w p.s (p.t.ql i) (R.Ag r.result) r.at' (str r.result) (decide (r.at'=R.Ag r.result-1)) P _ c3 c5 c7 c8 (open_list hq.blk) (by omega) (fun w=>CS r.result w (by omega)) (fun wa hb=>?_) (fun q wa hb=>?_) (fun q1 q2 q3 wa hb=>?_)
   ·exact V5 wa _ r.result r.at' (by omega) ((hb.cell (p:=⟨p.t.ql i,7,none⟩) af).trans c7) ((hb.cell (p:=⟨p.t.ql i,8,none⟩) af).trans c8)
   ·rw[if_neg (by
     rintro ⟨_,_,x3,x4,x5⟩;rcases q with q|q|q
     ·exact q x3
     ·exact q x4
     ·have:=of_decide_eq_true q;omega)]
    exact E8.of (h.below hb) (Ap.Al F hb)
   ·have ah:¬r.at'=R.Ag r.result-1:=of_decide_eq_false q3;rw[if_pos ⟨e1,e3,q1,q2,by omega⟩];obtain⟨m1,m0,m2⟩:=h.Ix (r':={r with at':=r.at'+1}) (y':={y with at':=r.at'+1}) hq hq.ne (Ah _) (Eb (j:=8) (v:=.int .i64 (r.at'+1)) hq.blk rfl) ⟨aa.client,aa.Ae,aa.line,aa.seq,aa.uid,aa.state,aa.asked,fun _=>⟨ae,rfl⟩,aa.wait,aa.tries⟩ ⟨fun e=>absurd e hq.ne,ab.seq,ab.some,ab.Ga,ab.wait,fun _=>⟨b1,b2,by simp only;omega,by simp only;omega⟩,ab.timed⟩;have ag:(w.setCell ⟨p.t.ql i,8,none⟩ (.int .i64 (r.at'+1))).heap.size=w.heap.size:=by simp
    rw[<-ag]at hb;refine((m1.below hb).tell (m0.below hb) e3).mono ?_;rintro e w' ⟨rfl,F',k1,k2⟩;exact⟨rfl,E8.of k1 ((m2.trans (Ap.Al F hb)).trans k2)⟩
theorem OY(hr:G.seen[i]?=some r)(P:Pk):R.JI G i P=if P.kind=6 then (if r.seq=P.seq/\r.state=3/\P.off=R.Ag r.result/\P.part=r.at'/\r.at'<R.Ag r.result-1 then R.Em (R.AB G i {r with at':=r.at'+1}) i else G) else if r.seq=P.seq then R.Dq G i P else if P.seq<r.seq then G else U7 G i r P:=by
 unfold R.JI U7 Dv;simp only[R.Bn hr]
theorem LW.UH(h:LW p F G w)(hI:R.Inv M G)(ab:R.Room G)(hr:G.seen[i]?=some r)(hp:R.FY M G P d i)(hk:(P.kind=1/\P.off=R.Ag d.msg/\P.body=R.Be d.msg P.part)\/P.kind=3):
  Calls Tryz.prog 157 #[ptr p.s,Bt p.t G.seen i,pv P] w fun e w'=>e=.returned (.tuple #[])/\E8 p F w (R.JI G i P) w':=by
 have af:=hp.right.2.2.2.2.1;rw[OY hr,if_neg (by omega)];have aa:Bt p.t G.seen i=if r.seq=0 then .pointer none else ptr (p.t.ql i):=by
  unfold Bt;rw[hr];rfl
 have up:∀{K:R.Wd} {wa w':World},Below w.heap.size w wa->E8 p F wa K w'->E8 p F w K w':=fun hb ⟨t,F',q1,q2⟩=>⟨t,F',q1,(Ap.Al F hb).trans q2⟩
 by_cases h0:r.seq=0
 ·rw[aa,if_pos h0,if_neg (by omega),if_neg (by omega)];refine Sk w p.s P _ (fun wa hb=>?_);have q:=(h.below hb).adY hI ab hr hp hk (by omega) (by omega);rw[aa,if_pos h0]at q;refine q.mono ?_;rintro e w' ⟨rfl,m⟩;exact⟨rfl,up hb m⟩
 ·obtain⟨y,hq,_⟩:=h.q hr h0;have c3:=(Qb hq.blk).a3;rw[hq.rel.seq]at c3;rw[aa,if_neg h0];refine Qk w p.s (p.t.ql i) r.seq P _ c3 (fun ae wa hb=>?_) (fun ac wa hb=>?_) (fun ad wa hb=>?_)
  ·rw[if_neg (by omega),if_neg (by omega)];have q:=(h.below hb).adY hI ab hr hp hk (by omega) (by omega);rw[aa,if_neg h0]at q;refine q.mono ?_;rintro e w' ⟨rfl,m⟩;exact⟨rfl,up hb m⟩
  ·rw[if_pos ac];refine((h.below hb).acr hI (hq.below hb) hp hk ac).mono ?_;rintro e w' ⟨rfl,F',m1,m2⟩;exact⟨rfl,E8.of m1 ((Ap.Al F hb).trans m2)⟩
  ·rw[if_neg (by omega),if_pos ad];exact E8.of (h.below hb) (Ap.Al F hb)
theorem Yr(t:SP)(seen:List R.Sn)(n nm:Nat)(c:R.Cf)(Aj:List Int)(hi:i<3):(Ce n nm t c Aj seen)[7+i]?=some (.int .i64 (Aj.getD i 0)):=by
 have h:i=0\/i=1\/i=2:=by omega
 rcases h with rfl|rfl|rfl<;>rfl
theorem Ou(aa:G.Aj.getD P.client.toNat 0<P.Ae):R.Dr G P=Bs G G.Ab (G.Aj.set P.client.toNat P.Ae) (F9 G.seen P.client.toNat) G.jobs:=by
 unfold R.Dr;rw[if_pos aa];rfl
theorem Px{s ci:Nat}{cs:List Value}{Ae:Int}(h:w.heap[s]?=some (.cells cs.toArray 144 (0,0))):(BM w s ci Ae).heap[s]?=some (.cells ((((cs.set (7+ci) (.int .i64 Ae)).set (10+3*ci) (.pointer none)).set (10+3*ci+1) (.pointer none)).set (10+3*ci+2) (.pointer none)).toArray 144 (0,0))/\Af (fun k=>k=s) w (BM w s ci Ae):=by
 have e0:=Ai (off:=7+ci) h (.int .i64 Ae);have e1:=Ai (off:=10+ci*3) e0 (.pointer none);have e2:=Ai (off:=10+ci*3+1) e1 (.pointer none);have e3:=Ai (off:=10+ci*3+2) e2 (.pointer none);rw[agF 3 ci];exact⟨e3,(((Ah _).trans (Ah _)).trans (Ah _)).trans (Ah _)⟩
theorem LW.ab9(h:LW p F G w)(hI:R.Inv M G)(ab:R.Room G)(aj:AR P)(hp:R.OW M G.Ab (-1) P):
  Calls Tryz.prog 93 #[ptr p.s,pv P] w fun e w'=>e=.returned (.tuple #[])/\E8 p F w (R.Er G P) w':=by
 obtain⟨d,hd,hu,hk⟩:=hp;obtain⟨_,aE,aG,aF,ax,_⟩:=id aj;have au:(P.kind=1/\P.off=R.Ag d.msg/\P.body=R.Be d.msg P.part)\/P.kind=3\/P.kind=6:=by
  rcases hk with ⟨q1,_,q2,q3⟩|⟨_,q,_⟩|⟨q,_⟩|⟨_,q⟩|⟨_,q,_⟩|⟨q,_⟩|⟨_,q,_⟩
  ·exact afJ ⟨q1,q2,q3⟩
  ·omega
  ·exact afM (afJ q)
  ·omega
  ·omega
  ·exact afM (afM q)
  ·omega
 generalize hci:P.client.toNat=ci;generalize hni:P.line.toNat=ni;have ak:P.client=(ci:Int):=by omega
 have ar:P.line=(ni:Int):=by omega
 have am:3*ci+ni<9:=by omega
 have af:(3*ci+ni) / 3=ci:=by omega
 have c7:w.cell? ⟨p.s,7+ci,none⟩=some (.int .i64 (G.Aj.getD ci 0)):=AP h.BN.bs (Yr p.t G.seen p.n p.nm G.c G.Aj (by omega));have aA:10+ci*3+ni=10+(3*ci+ni):=by omega
 have aq:w.cell? ⟨p.s,10+ci*3+ni,none⟩=some (Bt p.t G.seen (3*ci+ni)):=by
  rw[aA];exact AP h.BN.bs (Iw p.t G.seen p.n p.nm G.c G.Aj am)
 have eA:R.Er G P=if P.Ae<G.Aj.getD ci 0 then G else R.JI (R.Dr G P) (3*ci+ni) P:=by
  unfold R.Er;rw[hci,hni]
 rw[eA];have up:∀{K:R.Wd} {wa w':World},Below w.heap.size w wa->E8 p F wa K w'->E8 p F w K w':=fun hb ⟨t,F',q1,q2⟩=>⟨t,F',q1,(Ap.Al F hb).trans q2⟩
 rcases Int.lt_trichotomy P.Ae (G.Aj.getD ci 0) with hc|hc|hc
 ·rw[if_pos hc];refine(W9 w p.s ci (G.Aj.getD ci 0) P c7 ak (by omega) hc).mono ?_;rintro e w' ⟨rfl,hb⟩;exact⟨rfl,E8.of (h.below hb) (Ap.Al F hb)⟩
 ·rw[if_neg (by omega)];have eL:R.Dr G P=G:=by
   unfold R.Dr;rw[hci,if_neg (by omega)]
  rw[eL];have an:R.FY M G P d (3*ci+ni):=⟨aj,hd,hu,by rw[af];exact hc,by rw[hci,hni]⟩;have hr:=hI.G8 am;obtain⟨o,ho⟩:=Gv p.t G.seen (3*ci+ni);rw[<-hc]at c7;rw[ho]at aq;refine Uh w p.s ci ni o P _ c7 aq ak ar (by omega) (by omega) (fun k6 wa hb=>?_) (fun aD wa hb=>?_) (fun aC wa hb=>?_)
  ·have q:=(h.below hb).adM hr (P:=P) ax.1;rw[ho]at q;refine q.mono ?_;rintro e w' ⟨rfl,m⟩;refine⟨rfl,?_⟩;rw[OY hr,if_pos k6];exact up hb m
  ·have q:=(h.below hb).UH hI ab hr an (by
    rcases au with q|q|q
    ·exact afJ q
    ·exact afM q
    ·omega)
   rw[ho]at q;refine q.mono ?_;rintro e w' ⟨rfl,m⟩;exact⟨rfl,up hb m⟩
  ·omega
 ·rw[if_neg (by omega)];have av:G.Aj.getD P.client.toNat 0<P.Ae:=by rw[hci];exact hc
  have ad:=hI.Aj aj hd;have aa:=ab.Aj P;obtain⟨o0,d0⟩:=Gv p.t G.seen (3*ci);obtain⟨o1,d1⟩:=Gv p.t G.seen (3*ci+1);obtain⟨o2,d2⟩:=Gv p.t G.seen (3*ci+2);have cq:∀j,j<3->w.cell? ⟨p.s,10+ci*3+j,none⟩=some (Bt p.t G.seen (3*ci+j)):=fun j hj=>by
   have e:10+ci*3+j=10+(3*ci+j):=by omega
   rw[e];exact AP h.BN.bs (Iw p.t G.seen p.n p.nm G.c G.Aj (by omega))
  have f0:=cq 0 (by omega);rw[aha,aha,d0]at f0;have f1:=cq 1 (by omega);rw[d1]at f1;have f2:=cq 2 (by omega);rw[d2]at f2;obtain⟨ac,ai⟩:=Px (ci:=ci) (Ae:=P.Ae) h.BN.bs;have ap:=h.BN.forget h.Db.ll (by omega) ai ac;have ah:=ad.ws;have ag:=ad.wf;rw[Ou av,hci]at ad aa ah ag;have al:=h.Ha ap ai (Ca.one h.BN.bs (by decide)) (fun _ q=>q) (fun k hf=>afT (h.lt k hf) ai.size) ag ah (fun i c _ u=>rfl);have aB:Ap F F w (BM w p.s ci P.Ae):=⟨ai.mono (fun k _ e=>by rw[e];exact h.BN.BP.1),fun _ q=>afJ q⟩;rw[Ou av,hci];generalize hG2:Bs G G.Ab (G.Aj.set ci P.Ae) (F9 G.seen ci) G.jobs=G2 at ad aa al;have ae:=ad.G8 am;have ao:R.AY G2 (3*ci+ni)=R.Cs:=by
   rw[<-hG2]at ae ⊢;rcases Fp G.seen ci (3*ci+ni) _ ae with ⟨_,q⟩|⟨q,_⟩
   ·exact q
   ·omega
  have aw:Bt p.t G2.seen (3*ci+ni)=.pointer none:=by
   unfold Bt;rw[ae,ao];rfl
  have an:R.FY M G2 P d (3*ci+ni):=⟨aj,hd,hu,by
   rw[af,<-hG2];show P.Ae=(G.Aj.set ci P.Ae).getD ci 0;rw[afX,afV,if_pos rfl,if_pos (by rw[h.Db.ll];omega)];rfl,by rw[hci,hni]⟩
  have ay:(BM w p.s ci P.Ae).heap.size=w.heap.size:=by simp
  have az:∀{K:R.Wd} {wa w':World},Below (BM w p.s ci P.Ae).heap.size (BM w p.s ci P.Ae) wa->E8 p F wa K w'->E8 p F w K w':=fun hb ⟨t,F',q1,q2⟩=>⟨t,F',q1,(aB.trans (Ap.Al F hb)).trans q2⟩
  refine W7 w p.s ci ni (G.Aj.getD ci 0) o0 o1 o2 P _ c7 f0 f1 f2 (fun j=>open_list h.BN.bs) ak ar (by omega) (by omega) hc (fun k6 wa hb=>?_) (fun aD wa hb=>?_) (fun aC wa hb=>?_)
  ·rw[<-ay]at hb;have q:=(al.below hb).adM ae (P:=P) ax.1;rw[aw]at q;refine q.mono ?_;rintro e w' ⟨rfl,m⟩;refine⟨rfl,?_⟩;rw[OY ae,if_pos k6];exact az hb m
  ·rw[<-ay]at hb;have q:=(al.below hb).UH ad aa ae an (by
    rcases au with q|q|q
    ·exact afJ q
    ·exact afM q
    ·omega)
   rw[aw]at q;refine q.mono ?_;rintro e w' ⟨rfl,m⟩;exact⟨rfl,az hb m⟩
  ·omega
theorem Xl(w:World)(s ci ni:Nat)(c1 c3 c4:Int)(h3:ci<3)(aa:ni<3)(h10:w.cell? ⟨s,10+ci*3+ni,none⟩=some (.pointer none)):
  Calls Tryz.prog 96 #[ptr s,.agg #[.int .i64 (ci:Int),.int .i64 c1,.int .i64 (ni:Int),.int .i64 c3,.int .i64 c4]] w fun e w'=>e=.returned (.bool false)/\Below w.heap.size w w':=by
 have HB:Hid (∀o n,Below w.heap.size w ((w.alloc o).drewN n)):=fun o n=>below_drewN ((Below.refl _ _).alloc (afI _) _) n
 have hl:=lt_of_cell h10;have q1:(0:Int)<=(ci:Int):=by omega
 have q2:(ci:Int)<3:=by omega
 have q3:(0:Int)<=(ni:Int):=by omega
 have q4:(ni:Int)<3:=by omega
 go_enter Tryz.func96,Tryz.ntmps96;go_wp2_with fail
 go_quiet (fail);go_wp2_with fail
 go_quiet (fail);go_wp2;go_returns;exact⟨rfl,below_drewN ((Aa HB) _ _) _⟩
theorem Ux(w:World)(s q ci ni:Nat)(c1 c3 c4 y1 y3 y4 st:Int)(h3:ci<3)(aa:ni<3)(h10:w.cell? ⟨s,10+ci*3+ni,none⟩=some (ptr q))(d0:w.cell? ⟨q,0,none⟩=some (.int .i64 (ci:Int)))(d1:w.cell? ⟨q,1,none⟩=some (.int .i64 y1))(d2:w.cell? ⟨q,2,none⟩=some (.int .i64 (ni:Int)))(d3:w.cell? ⟨q,3,none⟩=some (.int .i64 y3))(d4:w.cell? ⟨q,4,none⟩=some (.int .i64 y4))(d5:w.cell? ⟨q,5,none⟩=some (.int .i64 st)):
  Calls Tryz.prog 96 #[ptr s,.agg #[.int .i64 (ci:Int),.int .i64 c1,.int .i64 (ni:Int),.int .i64 c3,.int .i64 c4]] w fun e w'=>e=.returned (.bool (decide (y1=c1/\y3=c3/\y4=c4/\st=1)))/\Below w.heap.size w w':=by
 have HB:Hid (∀o n,Below w.heap.size w ((w.alloc o).drewN n)):=fun o n=>below_drewN ((Below.refl _ _).alloc (afI _) _) n
 have hl:=lt_of_cell h10;have ab:=lt_of_cell d0;have q1:(0:Int)<=(ci:Int):=by omega
 have q2:(ci:Int)<3:=by omega
 have q3:(0:Int)<=(ni:Int):=by omega
 have q4:(ni:Int)<3:=by omega
 by_cases h1:y1=c1
 ·have e1:(y1==c1)=true:=by simpa using h1
  by_cases h2:y3=c3
  ·have e2:(y3==c3)=true:=by simpa using h2
   by_cases h4:y4=c4
   ·have e4:(y4==c4)=true:=by simpa using h4
    by_cases h5:st=1
    ·have e5:(st==1)=true:=by simpa using h5
     rw[show decide (y1=c1/\y3=c3/\y4=c4/\st=1)=true by simp[h1,h2,h4,h5]];clear h1 h2 h4 h5;go_enter Tryz.func96,Tryz.ntmps96;go_wp2_with fail
     go_quiet (fail);go_wp2_with fail
     go_quiet (fail);go_wp2;go_returns;exact⟨rfl,below_drewN ((Aa HB) _ _) _⟩
    ·have e5:(st==1)=false:=by simpa using h5
     rw[show decide (y1=c1/\y3=c3/\y4=c4/\st=1)=false by simp[h5]];clear h1 h2 h4 h5;go_enter Tryz.func96,Tryz.ntmps96;go_wp2_with fail
     go_quiet (fail);go_wp2_with fail
     go_quiet (fail);go_wp2;go_returns;exact⟨rfl,below_drewN ((Aa HB) _ _) _⟩
   ·have e4:(y4==c4)=false:=by simpa using h4
    rw[show decide (y1=c1/\y3=c3/\y4=c4/\st=1)=false by simp[h4]];clear h1 h2 h4;go_enter Tryz.func96,Tryz.ntmps96;go_wp2_with fail
    go_quiet (fail);go_wp2_with fail
    go_quiet (fail);go_wp2;go_returns;exact⟨rfl,below_drewN ((Aa HB) _ _) _⟩
  ·have e2:(y3==c3)=false:=by simpa using h2
   rw[show decide (y1=c1/\y3=c3/\y4=c4/\st=1)=false by simp[h2]];clear h1 h2;go_enter Tryz.func96,Tryz.ntmps96;go_wp2_with fail
   go_quiet (fail);go_wp2_with fail
   go_quiet (fail);go_wp2;go_returns;exact⟨rfl,below_drewN ((Aa HB) _ _) _⟩
 ·have e1:(y1==c1)=false:=by simpa using h1
  rw[show decide (y1=c1/\y3=c3/\y4=c4/\st=1)=false by simp[h1]];clear h1;go_enter Tryz.func96,Tryz.ntmps96;go_wp2_with fail
  go_quiet (fail);go_wp2_with fail
  go_quiet (fail);go_wp2;go_returns;exact⟨rfl,below_drewN ((Aa HB) _ _) _⟩
theorem adu:∀args w,(callFunc 97 args).run Tryz.prog w=.ok (.enter 97 args) w:=fun _ _=>rfl
def aaX(j:R.Jb):Obj:=.cells #[.int .i64 j.client,.int .i64 j.Ae,.int .i64 j.line,.int .i64 j.seq,.int .i64 j.uid] 170
theorem Uc(w0:World)(s:Nat)(A:List R.Jb->World->Prop)(B C:R.Jb->List R.Jb->World->Prop)(P0 P1:World->Prop)(mu:World->Nat)(ao:List R.Jb)(hA:A ao w0)
  (HM:Hid (∀js w,A js w->mu w=js.length))
  (am:Hid (∀w,A [] w->Calls Tryz.prog 95 #[ptr s] w fun e w'=>e=.returned (.tuple #[.agg #[.int .i64 0,.int .i64 0,.int .i64 0,.int .i64 0,.int .i64 0],.bool false])/\∀wa,Below w'.heap.size w' wa->P0 wa))
  (an:Hid (∀j js w,A (j :: js) w->Calls Tryz.prog 95 #[ptr s] w fun e w'=>e=.returned (.tuple #[.agg #[.int .i64 j.client,.int .i64 j.Ae,.int .i64 j.line,.int .i64 j.seq,.int .i64 j.uid],.bool true])/\∀wa,Below w'.heap.size w' wa->B j js wa))
  (HW:Hid (∀j js w,B j js w->Calls Tryz.prog 96 #[ptr s,.agg #[.int .i64 j.client,.int .i64 j.Ae,.int .i64 j.line,.int .i64 j.seq,.int .i64 j.uid]] w fun e w'=>Below w.heap.size w w'/\((e=.returned (.bool false)/\A js w')\/(e=.returned (.bool true)/\C j js w'))))
  (HC:Hid (∀j js w,C j js w->∃ci ni q:Nat,j.client=(ci:Int)/\j.line=(ni:Int)/\ci<3/\ni<3/\w.cell? ⟨s,10+ci*3+ni,none⟩=some (ptr q)/\Calls Tryz.prog 97 #[ptr s,ptr q] w.drew fun e w'=>e=.returned (.tuple #[])/\P1 w')):
  Calls Tryz.prog 56 #[ptr s] w0 fun e w'=>(e=.returned (.int .i64 19)/\P0 w')\/(e=.returned (.int .i64 0)/\P1 w'):=by
 have HA:=Ac hA;clear hA;go_enter Tryz.func56,Tryz.ntmps56;go_wp2_with fail
 refine wp_scope_jumps 0 (fun a w=>∃(js:List R.Jb) (u1 u3 u4 u5 u6 u7 u8 u9 u10 u11 u12 u13 u14 u15 u16 u17 u18 u19 u20 u21 u22 u23 u24 u25 u26 u27 u28:Value),a={tmps:=#[ptr s,u1,.int .i64 0,u3,u4,u5,u6,u7,u8,u9,u10,u11,u12,u13,u14,u15,u16,u17,u18,u19,u20,u21,u22,u23,u24,u25,u26,u27,u28],defers:=[]}/\A js w) (fun _ w=>mu w) rfl ?first ?pass
 case pass=>
  rintro a w ⟨js,u1,u3,u4,u5,u6,u7,u8,u9,u10,u11,u12,u13,u14,u15,u16,u17,u18,u19,u20,u21,u22,u23,u24,u25,u26,u27,u28,rfl,hA⟩;have aq:=(Aa HM) js w hA;clear HA;cases js with
  |nil=>
   have HQ:=Ac ((Aa am) w hA);clear hA;go_wp2_with (first|(go_at_call 95;refine(Aa HQ).mono ?_;rintro e w1 ⟨rfl,ac⟩;have HP:=Ac ac;clear ac))
   refine EQ ?_;go_wp2;go_returns;exact afJ ⟨rfl,(Aa HP) _ ((Below.refl _ _).alloc (afI _) _)⟩
  |cons j js=>
   have HQ:=Ac ((Aa an) j js w hA);clear hA;go_wp2_with (first|(go_at_call 95;refine(Aa HQ).mono ?_;rintro e w1 ⟨rfl,ac⟩;have HP:=Ac ((Aa HW) j js _ (ac _ ((Below.refl _ _).alloc (afI _) (aaX j))));clear ac))
   refine(Aa HP).mono ?_;rintro e w2 ⟨ae,⟨rfl,ad⟩|⟨rfl,af⟩⟩
   ·have ak:=Ac ad;have ai:=(Aa HM) js w2 ad;clear ad ae;go_wp2
    go_step3
    exact⟨rfl,⟨js,_,_,_,_,_,_,_,_,_,_,_,_,_,_,_,_,_,_,_,_,_,_,_,_,_,_,_,rfl,Aa ak⟩,by rw[ai,aq];simp⟩
   ·obtain⟨ci,ni,q,ah,aj,h3,ap,ag,aa⟩:=(Aa HC) j js w2 af;have ab:w2.heap[w1.heap.size]?=some (aaX j):=by
     rw[ae.block _ (by simp)];exact heap_alloc_new w1 _
    have g0:w2.cell? ⟨w1.heap.size,0,none⟩=some (.int .i64 (ci:Int)):=by rw[<-ah];exact cell_of ab 0 _ rfl
    have g2:w2.cell? ⟨w1.heap.size,2,none⟩=some (.int .i64 (ni:Int)):=by rw[<-aj];exact cell_of ab 2 _ rfl
    have HD:=Ac aa;have q1:(0:Int)<=(ci:Int):=by omega
    have q2:(ci:Int)<3:=by omega
    have q3:(0:Int)<=(ni:Int):=by omega
    have q4:(ni:Int)<3:=by omega
    clear aa af ae ab ah aj;go_wp2_with fail
    go_region_law (refine Av rfl 97 #[.tmp 16,.tmp 27] #[68,137] rfl adu #[ptr s,ptr q] rfl _ (Aa HD) ?_;rintro e w3 ⟨rfl,al⟩;refine⟨_,rfl,?_⟩)
    all_goals
     go_wp2;refine EQ ?_;go_wp2;go_returns;exact afM ⟨rfl,al⟩
 case first=>
  have hA:=Aa HA;clear HA;generalize w0=w at hA ⊢;generalize ao=js at hA;go_wp2_with fail
  go_step3
  cases js with
  |nil=>
   have HQ:=Ac ((Aa am) w hA);clear hA;go_wp2_with (first|(go_at_call 95;refine(Aa HQ).mono ?_;rintro e w1 ⟨rfl,ac⟩;have HP:=Ac ac;clear ac))
   refine EQ ?_;go_wp2;go_returns;exact afJ ⟨rfl,(Aa HP) _ ((Below.refl _ _).alloc (afI _) _)⟩
  |cons j js=>
   have HQ:=Ac ((Aa an) j js w hA);clear hA;go_wp2_with (first|(go_at_call 95;refine(Aa HQ).mono ?_;rintro e w1 ⟨rfl,ac⟩;have HP:=Ac ((Aa HW) j js _ (ac _ ((Below.refl _ _).alloc (afI _) (aaX j))));clear ac))
   refine(Aa HP).mono ?_;rintro e w2 ⟨ae,⟨rfl,ad⟩|⟨rfl,af⟩⟩
   ·have ak:=Ac ad;have ai:=(Aa HM) js w2 ad;clear ad ae;go_wp2
    go_step3
    exact⟨rfl,⟨js,_,_,_,_,_,_,_,_,_,_,_,_,_,_,_,_,_,_,_,_,_,_,_,_,_,_,_,rfl,Aa ak⟩⟩
   ·obtain⟨ci,ni,q,ah,aj,h3,ap,ag,aa⟩:=(Aa HC) j js w2 af;have ab:w2.heap[w1.heap.size]?=some (aaX j):=by
     rw[ae.block _ (by simp)];exact heap_alloc_new w1 _
    have g0:w2.cell? ⟨w1.heap.size,0,none⟩=some (.int .i64 (ci:Int)):=by rw[<-ah];exact cell_of ab 0 _ rfl
    have g2:w2.cell? ⟨w1.heap.size,2,none⟩=some (.int .i64 (ni:Int)):=by rw[<-aj];exact cell_of ab 2 _ rfl
    have HD:=Ac aa;have q1:(0:Int)<=(ci:Int):=by omega
    have q2:(ci:Int)<3:=by omega
    have q3:(0:Int)<=(ni:Int):=by omega
    have q4:(ni:Int)<3:=by omega
    clear aa af ae ab ah aj;go_wp2_with fail
    go_region_law (refine Av rfl 97 #[.tmp 16,.tmp 27] #[68,137] rfl adu #[ptr s,ptr q] rfl _ (Aa HD) ?_;rintro e w3 ⟨rfl,al⟩;refine⟨_,rfl,?_⟩)
    all_goals
     go_wp2;refine EQ ?_;go_wp2;go_returns;exact afM ⟨rfl,al⟩
end Go.Proofs.YtblomippkddgiabGreatDoor
