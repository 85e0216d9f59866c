import Derived.Test.YtblomippkddgiabGreatDoorJ31
import Derived.Test.YtblomippkddgiabGreatDoorJ45
import Derived.Lib.SliceRun
set_option maxRecDepth 100000
set_option maxHeartbeats 2000000
namespace Go.Proofs.YtblomippkddgiabGreatDoor
open Go.RowKit
variable {F:Aq}{Ae pr u:Int}{v:List V.It}{b i j k kd:Nat}{p:Pl}{M:R.Bk}{c:R.Cf}{cl:R.Cl}{l:R.Ln}{G:R.Wd}{s:RS}{W w:World}
theorem Agree.same{G':R.Wd}(h:Agree c s M G)(hS:R.Sm G G')(hI:R.Inv M G')(hR:R.Room G'):Agree c s M G':=by
 have ac:∀n,AF G' n=AF G n:=fun n=>by unfold AF R.BI;rw[hS.names,hS.stands]
 have aa:G'.Ab.map (·.kind)=G.Ab.map (·.kind):=by
  refine agd (fun u=>?_);rw[afW,afW];cases hu:G'.Ab[u]? with
  |none=>
   have:=ag1.1 hu;rw[af5 (by have:=hS.sv.len;omega)]
  |some s'=>
   obtain⟨s0,h1,h2,_⟩:=hS.sv.each u s' hu;rw[h1];simp[h2]
 have ab:∀u,kindOf G' u=kindOf G u:=fun u=>by
  unfold kindOf;rw[<-afW,<-afW,aa]
 refine⟨hI,hR,hS.c.trans h.cf,?_,by rw[hS.cl.len];exact h.sql,fun i cl k l hc hl=>?_,h.ul,fun k hk=>?_,fun i cl u hc hu=>?_,by rw[hS.sv.len];exact h.nu,by rw[aa];exact h.kinds,by rw[hS.sv.len];exact h.dl,fun u n sv hn hs h0=>?_,h.book⟩
 ·rw[h.Ae];refine agd (fun i=>?_);rw[afW,afW];cases hi:G'.Ad[i]? with
  |none=>
   have:=ag1.1 hi;rw[af5 (by have:=hS.cl.len;omega)]
  |some c'=>
   obtain⟨c0,h1,h2,_⟩:=hS.cl.each i c' hi;rw[h1];simp[h2]
 ·obtain⟨c0,h1,_,_,h4⟩:=hS.cl.each i cl hc;obtain⟨l0,h5,h6⟩:=h4.each k l hl;rw[h6];exact h.seq i c0 k l0 h1 h5
 ·obtain⟨u,h1,h2,h3⟩:=h.uid k hk;exact⟨u,h1,by rw[ac];exact h2,by rw[ab];exact h3⟩
 ·obtain⟨c0,h1,_,h3,_⟩:=hS.cl.each i cl hc;rw[h3];exact h.bound i c0 u h1 hu
 ·obtain⟨s0,h1,_,h3,_⟩:=hS.sv.each u sv hs;obtain⟨g1,g2⟩:=h.dead u n s0 hn h1 h0;obtain⟨g3,g4⟩:=h3 g1;exact⟨g3,by rw[g4];exact g2⟩
theorem Agree.tick(h:Agree c s M G):Agree c s M (R.IB G):=h.same (R.Sm.tick G) h.inv.tick h.room.tick
theorem Agree.serve(h:Agree c s M G):Agree c s M (R.BV G).2:=h.same (R.Sm.serve h.inv) h.inv.BV h.room.serve
theorem Agree.Cr(h:Agree c s M G)(i:Int):Agree c s M (R.Bc G i).2:=h.same (R.Sm.Cr G i) (h.inv.Cr i) (h.room.Cr h.inv i)
theorem Agree.drop(h:Agree c s M G)(i:Int):Agree c s M (R.Ej G i).2:=h.same (R.Sm.drop G i) (h.inv.drop i) (h.room.drop i)
def Fh(u:Int)(kd:Nat)(pr:Int)(v:List R.It):R.Cd:=⟨u,pr,v,Hs kd pr,Ue kd pr,(V.CW (Hs kd pr) v).2⟩
def CX(G:R.Wd)(i k:Nat)(l:R.Ln)(d:R.Cd):R.Wd:=R.AA (R.Am G i k (R.D3 G l d)) i k false
structure Xv(s:RS)(M:R.Bk)(G:R.Wd)(i k kd:Nat)(cl:R.Cl)(l:R.Ln)(s':RS)(M':R.Bk)(G':R.Wd):Prop where
 no:l.state=1\/l.seq=999->s'=s/\M'=M/\G'=G
 yes:l.state≠1->l.seq≠999->∃u pr v X Mv,s.uid[kd]?=some u/\(pr=0\/pr=1)/\KM kd pr=0/\Fits (Hs kd pr) v/\s'={s with seq:=s.seq.set (3*i+k) (l.seq+1),M:=Mv,made:=s.made++[(⟨i,cl.Ae,k,l.seq+1,u,pr,v⟩,X)]}/\M'=R.upd M ⟨i,cl.Ae,k,l.seq+1⟩ (Fh u kd pr v)/\G'=CX G i k l (Fh u kd pr v)
theorem Kr(ad:R.Wf G)(hc:G.Ad[i]?=some cl)(hl:cl.lines[k]?=some l)(hb:u∈cl.bound)(ab:kindOf G u=(kd:Int))(aa:kd<3)(hF:Fits (Hs kd pr) v)(hE:KM kd pr=0):
  R.Cw G i k u pr v=if l.state=1 then ((0,17),G) else if l.seq=999 then ((0,11),G) else ((l.seq+1,0),CX G i k l (Fh u kd pr v)):=by
 have hi:=(afG.1 hc).1;have ae:=(afG.1 hl).1;have af:=(ad.cl i cl hc).lines;have ac:((G.Ab[(u-1).toNat]?).map (·.kind)).getD 0=(kd:Int):=ab;unfold R.Cw;rw[if_neg (by omega),if_neg (by omega),if_neg (by simp[hc,hb]),ac,RH aa hE];simp only[R.Ba];rw[if_pos hF.zero];simp only;rw[R.CR hc hl];rfl
theorem Agree.called(h:Agree c s M G)(hc:G.Ad[i]?=some cl)(hl:cl.lines[k]?=some l)(hu:s.uid[kd]?=some u)(aj:kindOf G u=(kd:Int))(ai:kd<3)(hF:Fits (Hs kd pr) v)(hE:KM kd pr=0)(h1:l.state≠1)(h9:l.seq≠999)(Mv X:Value):
  Agree c {s with seq:=s.seq.set (3*i+k) (l.seq+1),M:=Mv,made:=s.made++[(⟨i,cl.Ae,k,l.seq+1,u,pr,v⟩,X)]} (R.upd M ⟨i,cl.Ae,k,l.seq+1⟩ (Fh u kd pr v)) (CX G i k l (Fh u kd pr v)):=by
 have hb:=h.bound i cl u hc (afU hu);have av:1<=u/\u<=(G.Ab.length:Int):=(h.inv.wf.cl i cl hc).bound u hb;have al:R.Ba (Hs kd pr) v=some (V.CW (Hs kd pr) v).2:=by
  unfold R.Ba;rw[if_pos hF.zero]
 have am:R.L9 G.Ab (Fh u kd pr v):=⟨av,by
  show R.C6 (kindOf G u) pr=_;rw[aj,RH ai hE];rfl,al⟩
 obtain⟨hI,hn⟩:=h.inv.called (d:=Fh u kd pr v) ⟨hc,hl⟩ h9 hb am;have ad:R.Room (CX G i k l (Fh u kd pr v)):=by
  have:=h.room.call i k u pr v;rw[Kr h.inv.wf hc hl hb aj ai hF hE,if_neg h1,if_neg h9]at this;exact this
 have ae:∀(K:R.Wd),(R.AA K i k false).names=K.names/\(R.AA K i k false).stands=K.stands/\(R.AA K i k false).Ab=K.Ab/\(R.AA K i k false).Ad=K.Ad/\(R.AA K i k false).c=K.c:=fun K=>by
  unfold R.AA R.Bg;simp only;split<;>exact⟨rfl,rfl,rfl,rfl,rfl⟩
 obtain⟨s1,s2,s3,s4,s5⟩:=ae (R.Am G i k (R.D3 G l (Fh u kd pr v)));have af:(CX G i k l (Fh u kd pr v)).Ab=G.Ab:=s3;have ag:(CX G i k l (Fh u kd pr v)).Ad=(R.Am G i k (R.D3 G l (Fh u kd pr v))).Ad:=s4;have au:∀n,AF (CX G i k l (Fh u kd pr v)) n=AF G n:=fun n=>by
  unfold AF R.BI CX;rw[s1,s2];rfl
 have ao:∀n,kindOf (CX G i k l (Fh u kd pr v)) n=kindOf G n:=fun n=>by
  unfold kindOf;rw[af]
 have ac:(CX G i k l (Fh u kd pr v)).Ad.length=G.Ad.length:=by rw[ag];simp[R.Am]
 have ab:∀(j:Nat) (c':R.Cl),(CX G i k l (Fh u kd pr v)).Ad[j]?=some c'->∃c0,G.Ad[j]?=some c0/\c'=if i=j then {c0 with lines:=c0.lines.set k (R.D3 G l (Fh u kd pr v))} else c0:=fun j c' hj=>by
  rw[ag,R.Bo]at hj;cases h0:G.Ad[j]? with
  |none=>rw[h0]at hj;cases hj
  |some c0=>rw[h0]at hj;exact⟨c0,rfl,(Option.some.inj hj).symm⟩
 have an:=h.inv.wf.cf;unfold R.BD at an;refine⟨hI,ad,s5.trans h.cf,?_,?_,fun j c' n l' hj aa=>?_,h.ul,fun n aq=>?_,fun j c' n hj hn=>?_,by rw[af];exact h.nu,by rw[af];exact h.kinds,by rw[af];exact h.dl,by rw[af];exact h.dead,?_⟩
 ·show s.Ae=_;rw[h.Ae];refine agd (fun j=>?_);rw[afW,afW,ag,R.Bo];cases G.Ad[j]? with
  |none=>rfl
  |some c0=>
   simp only[af9];split<;>rfl
 ·simp only[agq];rw[ac];exact h.sql
 ·obtain⟨c0,h0,rfl⟩:=ab j c' hj;have az:=(h.inv.wf.cl j c0 h0).lines;have ar:=h.sql;have ax:=(afG.1 h0).1;have ap:=(afG.1 hl).1;have ay:=(h.inv.wf.cl i cl hc).lines;have aw:=(afG.1 hc).1;show (s.seq.set (3*i+k) (l.seq+1))[3*j+n]?=some l'.seq;by_cases ah:i=j
  ·subst ah;obtain rfl:=Option.some.inj (hc.symm.trans h0);simp only[if_true]at aa;rw[afV]at aa ⊢;by_cases ak:k=n
   ·subst ak;rw[if_pos rfl,if_pos ap]at aa;cases aa;rw[if_pos rfl,if_pos (by omega)];rfl
   ·rw[if_neg ak]at aa;rw[if_neg (by omega)];exact h.seq i cl n l' hc aa
  ·rw[if_neg ah]at aa;have aA:=(afG.1 aa).1;rw[afV,if_neg (by omega)];exact h.seq j c0 n l' h0 aa
 ·obtain⟨x,h1,h2,h3⟩:=h.uid n aq;exact⟨x,h1,by rw[au];exact h2,by rw[ao];exact h3⟩
 ·obtain⟨c0,h0,rfl⟩:=ab j c' hj;have:=h.bound j c0 n h0 hn;split<;>exact this
 ·show CY ((s.made++[((⟨i,cl.Ae,k,l.seq+1,u,pr,v⟩:Mk),X)]).map (·.1)) _;rw[agw];refine h.book.snoc (m:=⟨i,cl.Ae,k,l.seq+1,u,pr,v⟩) (d:=Fh u kd pr v) rfl rfl rfl hn (fun a ha e1 e2 e3=>?_);obtain⟨d,hd⟩:=h.book.all a ha;obtain⟨j,c',n,l',q1,q2,q3,q4,q5,q6,q7,q8,q9⟩:=(h.inv.bk _ d hd).2;simp only[Mk.key]at q1 q3 q9;simp only at e1 e2 e3;obtain rfl:i=j:=by omega
  obtain rfl:=Option.some.inj (hc.symm.trans q2);obtain rfl:k=n:=by omega
  obtain rfl:=Option.some.inj (hl.symm.trans q4);have:=q9 e2;simp only;omega
theorem Au.adm{w0:World}{q:RP}(h:Au w0 q p c s G w)(hA:Agree c s M G)(hc:G.Ad[i]?=some cl)(hl:cl.lines[k]?=some l)(ac:kd<3)(a b:Int)(ha:In64 a)(hb:In64 b):
  Calls Tryz.prog 28 #[ptr q.r,.int .i64 (i:Int),.int .i64 (k:Int),.int .i64 (kd:Int),.int .i64 a,.int .i64 b] w fun e w'=>e=.returned (.bool true)/\∃s' M' G',Au w0 q p c s' G' w'/\Agree c s' M' G'/\Xv s M G i k kd cl l s' M' G':=by
 obtain⟨pr0,an,ah⟩:=A4 b 2 hb (by omega) (by omega);obtain⟨u,hu,aC,ar⟩:=hA.uid kd ac;have aq:=hA.bound i cl u hc (afU hu);have hi:=(afG.1 hc).1;have aA:=(afG.1 hl).1;have av:=hA.inv.wf.cf;unfold R.BD at av;have ax:=hA.inv.wf.Gt;have aB:=(hA.inv.wf.cl i cl hc).lines;have ao:=hA.seq i cl k l hc hl;have al:s.Ae[i]?=some cl.Ae:=by rw[hA.Ae];simp[hc]
 obtain⟨e3,e4⟩:=aaa i k (by omega) (by omega);have aD:1<=u/\u<=(G.Ab.length:Int):=(hA.inv.wf.cl i cl hc).bound u aq;have au:=hA.inv.wf.sv;have ay:=(hA.inv.wf.cl i cl hc).line k l hl;have ag:∀(prv:Int),(prv=0\/prv=1)->((((kd:Int)==2)=true/\prv=0)\/(((kd:Int)==2)=false/\prv=(pr0:Int)))->∀(v:List V.It),Fits (Hs kd prv) v->KM kd prv=0->(∀w,Calls Tryz.prog 51 #[.int .i64 (kd:Int),.int .i64 prv,.int .i64 a,.int .i64 b] w (Cz v w))->Calls Tryz.prog 28 #[ptr q.r,.int .i64 (i:Int),.int .i64 (k:Int),.int .i64 (kd:Int),.int .i64 a,.int .i64 b] w fun e w'=>e=.returned (.bool true)/\∃s' M' G',Au w0 q p c s' G' w'/\Agree c s' M' G'/\Xv s M G i k kd cl l s' M' G':=fun prv am aa v hF hE ad=>by
  have ae:=Kr hA.inv.wf hc hl aq ar ac hF hE;have ai:Hid (∀w',Below w.heap.size w w'->Calls Tryz.prog 19 #[ptr q.x,.int .i64 (i:Int),.int .i64 (k:Int)] w' fun e af=>(∃oa on oc,e=.returned (.tuple #[.agg #[.int .i64 l.state,.int .i64 l.seq,.slice oa on oc],.int .i64 0]))/\Below w'.heap.size w' af):=fun w' hb=>by
   refine((h.still hb).RL hA hc hl).mono ?_;rintro e af ⟨⟨oa,on,oc,r1,_⟩,r2⟩;exact⟨⟨oa,on,oc,r1⟩,r2⟩
  have aj:∀(n f:Int) (G':R.Wd),R.Cw G i k u prv v=((n,f),G')->Hid (∀w' W X,Below w.heap.size w w'->Below w'.heap.size w' W->BF W (fun k=>w.heap.size<=k) X v->Calls Tryz.prog 52 #[ptr q.x,.int .i64 (i:Int),.int .i64 (k:Int),.int .i64 u,.int .i64 prv,X] W fun e af=>e=.returned (.tuple #[.int .i64 n,.int .i64 f])/\Au w0 q p c s G' af/\∀b,w'.heap.size<=b->b<W.heap.size->af.heap[b]?=W.heap[b]?):=fun n f G' he w' W X ap ak hX=>by
   have h':=(h.still ap).still ak;obtain⟨tp,E,F,hr,hw,hd,aw⟩:=(h.still ap).run;have ab:=(hw.below ak).call h'.t0 (i:Int) (k:Int) u prv (by omega) hX.items (by have:=hF.few;omega);rw[he]at ab;rw[h.x];refine ab.mono ?_;rintro e af ⟨rfl,F',q1,q2⟩;exact⟨rfl,h'.world (hr.below ak) hd aw q1 q2,fun b h1 h2=>q2.keeps.block b h2 (fun hf=>by have:=hw.lt b hf;omega)⟩
  by_cases h1:l.state=1
  ·rw[if_pos h1]at ae;refine(Sy w0 q p c s G G w i k (3*i+k) kd pr0 a b prv l.seq l.state u cl.Ae v h ac hA.ul hu ao al hA.ml e3 e4 (Ac ah) aa (Ac ad) ai (aj _ _ _ ae) h1).mono ?_;rintro e w' ⟨rfl,hB⟩;exact⟨rfl,s,M,G,hB,hA,⟨fun _=>⟨rfl,rfl,rfl⟩,fun q=>absurd h1 q⟩⟩
  ·rw[if_neg h1]at ae;by_cases h9:l.seq=999
   ·rw[if_pos h9]at ae;refine(Qm w0 q p c s G G w i k (3*i+k) kd pr0 a b prv l.seq l.state u cl.Ae v h ac hA.ul hu ao al hA.ml e3 e4 (Ac ah) aa (Ac ad) ai (aj _ _ _ ae) h1 h9).mono ?_;rintro e w' ⟨rfl,hB⟩;exact⟨rfl,s,M,G,hB,hA,⟨fun _=>⟨rfl,rfl,rfl⟩,fun _ q=>absurd h9 q⟩⟩
   ·rw[if_neg h9]at ae;have az:=ay.seq;refine(K7 w0 q p c s G _ w i k (3*i+k) kd pr0 a b prv l.seq l.state u cl.Ae v h ac hA.ul hu ao al hA.ml e3 e4 (Ac ah) aa (Ac ad) ai (aj _ _ _ ae) h1 (by omega)).mono ?_;rintro e w' ⟨rfl,X,Mv,hB⟩;exact⟨rfl,_,_,_,hB,hA.called hc hl hu ar ac hF hE h1 h9 Mv X,⟨fun q=>by rcases q with q|q;exact absurd q h1;exact absurd q h9,fun _ _=>⟨u,prv,v,X,Mv,hu,am,hE,hF,rfl,rfl,rfl⟩⟩⟩
 by_cases h2:kd=2
 ·obtain⟨v,hF,hE,ad⟩:=UG kd 0 ac (by omega) (fun _=>rfl) a b ha hb;exact ag 0 (afJ rfl) (afJ ⟨by subst h2;rfl,rfl⟩) v hF hE ad
 ·obtain⟨v,hF,hE,ad⟩:=UG kd pr0 ac an (fun e=>absurd e h2) a b ha hb;exact ag (pr0:Int) (by omega) (afM ⟨by simp;omega,rfl⟩) v hF hE ad
def DI(G:R.Wd):Nat->R.Wd
 |0=>G
 |k+1=>R.Ch (DI G k) ((k:Int)+1)
theorem JS(G:R.Wd):∀k,(DI G k).c=G.c/\(DI G k).names=G.names/\(DI G k).stands=G.stands/\(DI G k).Ak=G.Ak/\(DI G k).Ad=G.Ad
 |0=>⟨rfl,rfl,rfl,rfl,rfl⟩
 |k+1=>JS G k
theorem Ya(G:R.Wd)(k:Nat)(sv:List R.Sv)(Aj:List Int)(seen:List R.Sn)(jobs:List R.Jb):Bs (DI G k) sv Aj seen jobs=Bs G sv Aj seen jobs:=by
 obtain⟨h1,h2,h3,h4,h5⟩:=JS G k;unfold Bs;rw[h1,h2,h3,h4,h5]
theorem MK(G:R.Wd):∀(k u:Nat),(DI G k).Ab[u]?=(G.Ab[u]?).map fun s=>if u<k then {s with alive:=false} else s
 |0,u=>by simp[DI]
 |k+1,u=>by
  show (R.Ch (DI G k) ((k:Int)+1)).Ab[u]?=_;rw[R.Kv,MK G k u];rw[show ((k:Int)+1-1).toNat=k by omega];cases G.Ab[u]? with
  |none=>rfl
  |some s=>
   simp only[af9,Option.some.injEq];by_cases h1:k=u
   ·subst h1;simp
   ·by_cases h2:u<k
    ·simp[h1,h2,show u<k+1 by omega]
    ·simp[h1,h2,show ¬u<k+1 by omega]
theorem VO(G:R.Wd):(DI G G.Ab.length).Ab=G.Ab.map fun s=>{s with alive:=false}:=by
 refine agd (fun u=>?_);rw[MK,afW];by_cases h:u<G.Ab.length
 ·simp[h]
 ·rw[af5 (by omega)];rfl
theorem VP(G:R.Wd)(k:Nat):(DI G k).Ab.length=G.Ab.length:=by
 induction k with
 |zero=>rfl
 |succ k ih=>
  show (R.Ch (DI G k) ((k:Int)+1)).Ab.length=_;rw[<-ih];simp[R.Ch]
theorem LW.anew{w1:World}(h:LW p F G w)(af:Below w.heap.size w w1)(ai:w.heap.size<=j)(hj:w1.heap[j]?=some (.chan G.c.table.toNat #[] false 0 0 false))(hk:Af (fun k=>k=p.s) w1 W)
  (ag:W.heap[p.s]?=some (.cells (Ce p.n p.nm {p.t with jc:=j} G.c [0,0,0] (List.replicate 9 R.Cs)).toArray 144 (0,0))):
  LW {p with t:={p.t with jc:=j}} (fun k=>F k\/k=j) (Bs G G.Ab [0,0,0] (List.replicate 9 R.Cs) []) W/\Ap F (fun k=>F k\/k=j) w W:=by
 obtain⟨f1,f2,f3⟩:=h.BN.BP;have aa:=h.BN.bs;have am:=lt_of_block aa;have ab:Af (fun k=>k=p.s) w W:=(Af.Al af _).trans hk;have ak:j≠p.s:=by omega
 have ae:JD w F (fun k=>k=p.s):=JD.one aa (by decide);have ad:=(afR.1 hj).1;have hs:Cg p.s p.n p.nm {p.t with jc:=j} (fun k=>F k\/k=j) G.c G.Ab [0,0,0] (List.replicate 9 R.Cs) [] W:=by
  refine⟨ag,h.BN.zs,ab.row h.BN.made (fun k hk e=>AV h.BN.made aa (by decide) (e ▸ hk)),fun z hz=>(h.BN.each z hz).keep ab ae (fun _ q=>afJ q),h.BN.dns,h.BN.Z8,fun i r hr ac=>absurd (LY hr) ac,fun i j r r' hr _ ac _ _=>absurd (LY hr) ac,⟨0,0,?_⟩,afJ f1,afM rfl,fun k hk=>afJ (f3 k hk)⟩;exact(hk.block j ad ak).trans hj
 have al:=ab.size;have aj:j<W.heap.size:=afT ad hk.size;have ah:=h.wf.cf;refine⟨h.Ha hs ab (Ca.one aa (by decide)) (fun _ q=>afJ q) (fun k hk=>?_) ⟨h.wf.cf,h.wf.Gt,fun i c hc=>⟨(h.wf.cl i c hc).lines,(h.wf.cl i c hc).Ae,(h.wf.cl i c hc).bound,(h.wf.cl i c hc).line⟩,h.wf.E3,h.wf.Eo,h.wf.sv,h.wf.Kh,h.wf.nm,h.wf.st,h.wf.nd,h.wf.I5⟩ (R.ws0 G.c ah) (fun _ _ _ _=>rfl),ab.mono (fun k _ e=>by rw[e];exact f1),fun k hk=>?_⟩
 ·rcases hk with hk|rfl
  ·exact afT (h.lt k hk) al
  ·exact aj
 ·rcases hk with hk|rfl
  ·exact afJ hk
  ·exact afM ai
theorem LW.ME(h:LW p F G w):
  Calls Tryz.prog 101 #[ptr p.s] w fun e w'=>e=.returned (.tuple #[])/\E8 p F w (R.Bb G (-1)).2 w':=by
 have al:p.t.zs.length=G.Ab.length:=by rw[<-h.BN.zs,af0]
 have au:=h.wf.sv;obtain⟨a,cc,hK⟩:=AX h.BN.made;have h6:w.cell? ⟨p.s,6,none⟩=some (.slice a G.Ab.length cc):=by
  have:=cell_of h.BN.bs 6 p.t.K rfl;rw[hK,al]at this;exact this
 have aL:=lt_of_cell h6;obtain⟨n,hn⟩:∃n,n=G.Ab.length:=⟨_,rfl⟩;rw[<-hn]at h6;have HN:=Ac hn;have aj:n<=255:=by omega
 have av:=h.wf.cf;unfold R.BD at av;obtain⟨tb,ad⟩:∃tb:Nat,G.c.table=(tb:Int):=⟨G.c.table.toNat,by omega⟩;have ag:tb<=9:=by omega
 have aA:=Ac ad;have an:Hid (∀(k:Nat) (wr:World),k<n->(∃t,LW {p with t:=t} F (DI G k) wr/\Ap F F w wr)->Calls Tryz.prog 144 #[ptr p.s,.int .i64 ((k:Int)+1)] wr fun e w'=>e=.returned (.tuple #[])/\∃t,LW {p with t:=t} F (DI G (k+1)) w'/\Ap F F w w'):=fun k wr hk ⟨t,hL,hW⟩=>by
  have aw:k<(DI G k).Ab.length:=by rw[VP,<-hn];exact hk
  refine(hL.ends (afH aw)).mono ?_;rintro e w' ⟨rfl,t',h1,h2⟩;exact⟨rfl,t',h1,hW.trans h2⟩
 have ae:Hid (∀(wr w1 W:World) (j:Nat),(∃t,LW {p with t:=t} F (DI G n) wr/\Ap F F w wr)->Below wr.heap.size wr w1->wr.heap.size<=j->w1.heap[j]?=some (.chan tb #[] false 0 0 false)->W=((((((((((((w1.setCell ⟨p.s,7,none⟩ (.int .i64 0)).setCell ⟨p.s,8,none⟩ (.int .i64 0)).setCell ⟨p.s,9,none⟩ (.int .i64 0)).setCell ⟨p.s,10,none⟩ (.pointer none)).setCell ⟨p.s,11,none⟩ (.pointer none)).setCell ⟨p.s,12,none⟩ (.pointer none)).setCell ⟨p.s,13,none⟩ (.pointer none)).setCell ⟨p.s,14,none⟩ (.pointer none)).setCell ⟨p.s,15,none⟩ (.pointer none)).setCell ⟨p.s,16,none⟩ (.pointer none)).setCell ⟨p.s,17,none⟩ (.pointer none)).setCell ⟨p.s,18,none⟩ (.pointer none)).setCell ⟨p.s,19,none⟩ (.chan (some j))->E8 p F w (R.Bb G (-1)).2 W):=fun wr w1 W j ⟨t,hL,hW⟩ hb hj0 hj hWe=>by
  have hc:=(JS G n).1;have ac:=(hb.block _ (lt_of_block hL.BN.bs)).trans hL.BN.bs;have ax:Af (fun k=>k=p.s) w1 W:=by
   rw[hWe];exact((((((((((((Ah _).trans (Ah _)).trans (Ah _)).trans (Ah _)).trans (Ah _)).trans (Ah _)).trans (Ah _)).trans (Ah _)).trans (Ah _)).trans (Ah _)).trans (Ah _)).trans (Ah _)).trans (Ah _)
  have ab:W.heap[p.s]?=some (.cells (Ce p.n p.nm {t with jc:=j} (DI G n).c [0,0,0] (List.replicate 9 R.Cs)).toArray 144 (0,0)):=by
   rw[hWe];exact Ai (Ai (Ai (Ai (Ai (Ai (Ai (Ai (Ai (Ai (Ai (Ai (Ai ac _) _) _) _) _) _) _) _) _) _) _) _) _
  obtain⟨g1,g2⟩:=hL.anew hb hj0 (by rw[hc,ad];simpa using hj) ax ab;rw[Ya,hn,VO]at g1;exact⟨_,_,g1,hW.trans g2⟩
 have HM:=Ac (fun w=>U3 w tb ag);simp only[aa4]at HM;have ap:Hid (∀wr,(∃t,LW {p with t:=t} F (DI G n) wr/\Ap F F w wr)->wr.cell? ⟨p.s,4,none⟩=some (.int .i64 (tb:Int))/\∀w1,Below wr.heap.size wr w1->p.s<w1.heap.size/\(∀o,w1.frozen? ⟨p.s,o,none⟩=false)/\∀o,o<21->∃v,w1.cell? ⟨p.s,o,none⟩=some v):=fun wr ⟨t,hL,hW⟩=>by
  have ac:=hL.BN.bs;rw[(JS G n).1]at ac;refine⟨?_,fun w1 hb=>?_⟩
  ·have:=cell_of ac 4 (.int .i64 G.c.table) rfl;rw[ad]at this;exact this
  ·have aa:=(hb.block _ (lt_of_block ac)).trans ac;refine⟨lt_of_block aa,fun o=>open_list aa,fun o ho=>?_⟩;obtain⟨v,hv⟩:∃v,(Ce p.n p.nm t G.c (DI G n).Aj (DI G n).seen)[o]?=some v:=⟨_,afH (by simp[Ce];omega)⟩;exact⟨v,AP aa hv⟩
 have aq:Hid (∃t,LW {p with t:=t} F (DI G 0) w/\Ap F F w w):=⟨p.t,h,Ap.refl F w⟩;clear h hn hK al ad;go_enter Tryz.func101,Tryz.ntmps101;go_wp2;go_loopw [2,8] (fun _ kv wr=>∃k:Nat,k<=n/\kv=.int .i64 (k:Int)/\∃t,LW {p with t:=t} F (DI G k) wr/\Ap F F w wr) (fun _ kv _=>n-(intOf kv).toNat)
 case atStart=>exact⟨0,af8 _,rfl,Aa aq⟩
 case round=>
  obtain⟨k,hk,rfl,hL⟩:=hrel;by_cases ay:k<n
  ·have HC:=Ac ((Aa an) k wr ay hL);have ah:IntKind.i64.wrap ((k:Int)+1)=(k:Int)+1:=by rw[IntKind.wrap_i64];omega
   have hq:(k:Int)<(n:Int):=by omega
   clear hL;go_wp2_with (go_at_call 144;refine(Aa HC).mono ?_;rintro e w1 ⟨rfl,ah⟩;have ar:=Ac ah;clear ah)
   go_roundw
   case rel=>exact⟨k+1,by omega,by go_num,Aa ar⟩
   case measure=>simp[intOf];omega
  ·obtain rfl:k=n:=by omega
   obtain⟨s4,ak⟩:=(Aa ap) wr hL;have af:Hid (∀w1,Below wr.heap.size wr w1->p.s<w1.heap.size/\(∀o,w1.frozen? ⟨p.s,o,none⟩=false)/\∀o,o<21->∃v,w1.cell? ⟨p.s,o,none⟩=some v):=ak;have HL:=Ac hL;have hq:¬(k:Int)<(k:Int):=by omega
   have aM:=lt_of_cell s4;clear hL ak;go_wp2_with (go_at_call 82;refine((Aa HM) _).mono ?_;rintro e w1 ⟨rfl,aa,az,ai⟩;obtain⟨l1,z1,c1⟩:=(Aa af) w1 aa;obtain⟨v7,c7⟩:=c1 7 (by omega);obtain⟨v8,c8⟩:=c1 8 (by omega);obtain⟨v9,c9⟩:=c1 9 (by omega);obtain⟨aN,aB⟩:=c1 10 (by omega);obtain⟨aO,aC⟩:=c1 11 (by omega);obtain⟨aP,aD⟩:=c1 12 (by omega);obtain⟨aQ,aE⟩:=c1 13 (by omega);obtain⟨aR,aF⟩:=c1 14 (by omega);obtain⟨aS,aG⟩:=c1 15 (by omega);obtain⟨aT,aH⟩:=c1 16 (by omega);obtain⟨aU,aI⟩:=c1 17 (by omega);obtain⟨aV,aJ⟩:=c1 18 (by omega);obtain⟨aW,aK⟩:=c1 19 (by omega);have am:=Ac aa;have ao:=Ac ai;clear aa az ai c1)
   go_returns;exact⟨rfl,(Aa ae) wr w1 _ _ (Aa HL) (Aa am) (by omega) (Aa ao) rfl⟩
abbrev ED(w:World)(b:Nat)(o:Obj):World:={w with heap:=w.heap.setIfInBounds b o}
theorem Z7{o o':Obj}(h:w.heap[b]?=some o'):(ED w b o).heap[b]?=some o:=by
 have:=(afR.1 h).1;simp[this]
theorem JA(w:World)(b:Nat)(o:Obj):Af (fun k=>k=b) w (ED w b o):=⟨rfl,rfl,rfl,by simp,fun k _ aa=>by
 have:¬b=k:=fun e=>aa e.symm
 simp[this]⟩
theorem VB(w:World)(b:Nat)(es:Array MapEntry)(cl:Nat)(ty:TypeId)(h:w.heap[b]?=some (.map es cl)):(Builtin.clear_ #[130] ty #[.map (some b)]).run Tryz.prog w=.ok (.tuple #[]) (ED w b (.map #[] cl)):=by
 simp[Builtin.clear_,run_underlying Tryz.underlying130,MapKept.run_getObj_map h,MapKept.run_setObj_map _ h,Result.andThen]
theorem Mp.ED{α:Type}{cl:Nat}{k:TypeId}(lit:α->Lit)(h:w.heap[b]?=some (.map #[] cl)):Mp w k b lit (fun _=>none) 0:=
 ⟨.map [],⟨#[],cl,h,⟨by simp,MapKept.stamped_empty cl,by simp⟩,afI _,rfl⟩,rfl,fun _=>⟨rfl,fun _ h=>by cases h⟩⟩
theorem Ke{t:TypeId}{fz:Nat×Nat}:∀(vs:List Value) (o:Nat) (w:World) (cs:List Value),w.heap[b]?=some (.cells cs.toArray t fz)->o+vs.length=cs.length->(w.setCells b o vs).heap[b]?=some (.cells (cs.take o++vs).toArray t fz)/\Af (fun k=>k=b) w (w.setCells b o vs)
 |[],o,w,cs,h,hl=>by
  refine⟨?_,Af.refl _ _⟩;show w.heap[b]?=_;rw[h,af6 (by simp at hl;omega),agv]
 |v :: vs,o,w,cs,h,hl=>by
  have h1:=Ai (off:=o) h v;obtain⟨q1,q2⟩:=Ke vs (o+1) (w.setCell ⟨b,o,none⟩ v) (cs.set o v) h1 (by simp at hl ⊢;omega);refine⟨?_,(Ah v).trans q2⟩;show ((w.setCell ⟨b,o,none⟩ v).setCells b (o+1) vs).heap[b]?=_;rw[q1];congr 3;rw[agH,List.take_set_of_le (by omega)];simp at hl;simp[show o<cs.length by omega]
theorem Qo(w:World)(b n:Nat)(hn:1<=n/\n<=3)(ty:TypeId)(xs:List CU)(hx:xs.length=n)(h:w.heap[b]?=some (.cells (tab CU.cells xs).toArray 129 (0,0))):(Builtin.clear_ #[131] ty #[.slice (some ⟨b,0,none⟩) n n]).run Tryz.prog w=.ok (.tuple #[]) (w.setCells b 0 (tab CU.cells (List.replicate n Qc))):=by
 have hl:(tab CU.cells xs).length=10*n:=by rw[Dh CU.len,hx]
 have aa:(tab CU.cells (List.replicate n Qc)).length=10*n:=by rw[Dh CU.len,List.length_replicate]
 have ac:(Builtin.zeroCells (Value.agg Qc.cells.toArray).cells n).toList=tab CU.cells (List.replicate n Qc):=by
  have h3:n=1\/n=2\/n=3:=by omega
  rcases h3 with rfl|rfl|rfl<;>(show _=_;kernel_rfl)
 have ab:=run_storeCells_cells (P:=Tryz.prog) b 0 (tab CU.cells (List.replicate n Qc)) 0 w (fun j hj=>by
  rw[aa,<-hl]at hj;simp[World.cell?,h,List.getElem?_eq_getElem hj]) (fun j _=>open_list h) (fun v hv=>by
  obtain⟨y,hy,hv⟩:=ag3.1 hv;rw[(List.mem_replicate.1 hy).2]at hv;simp[Qc,CU.cells]at hv;rcases hv with rfl|rfl|rfl|rfl|rfl|rfl|rfl|rfl|rfl|rfl<;>rfl)
 obtain⟨m,rfl⟩:∃m,n=m+1:=⟨n-1,by omega⟩;simp[Builtin.clear_,run_underlying Tryz.underlying131];show ((storeCells ⟨b,0,none⟩ (Builtin.zeroCells (Value.agg Qc.cells.toArray).cells (m+1)).toList).run Tryz.prog w).andThen _=_;rw[ac,ab];rfl
def EM(G:R.Wd)(i:Nat)(Ae:Int):R.Wd:={G with Ad:=G.Ad.set i (R.FF Ae G.c.lines)}
theorem FL{x:R.Cl}(h:(EM G i Ae).Ad[j]?=some x):(i=j/\x=R.FF Ae G.c.lines)\/(i≠j/\G.Ad[j]?=some x):=by
 unfold EM at h;simp only[afV]at h;split at h
 ·rename_i e;split at h
  ·cases h;exact afJ ⟨e,rfl⟩
  ·cases h
 ·rename_i e;exact afM ⟨e,h⟩
theorem LW.aat(h:LW p F G w){c:R.Cl}(hc:G.Ad[i]?=some c)(ae:1<=Ae/\Ae<=255)(hk:Af (fun k=>k=p.cb i\/k=p.bm i\/k=p.lb i) w W)
  (h1:W.heap[p.cb i]?=some (.cells (Jn p G i (R.FF Ae G.c.lines)) 133 (0,0))) (h2:Mp W 3 (p.bm i) Kz (fun _=>none) 0) (h3:W.heap[p.lb i]?=some (.cells (tab CU.cells (List.replicate G.c.lines.toNat Qc)).toArray 129 (0,0))):
  LW p F (EM G i Ae) W/\Ap F F w W:=by
 obtain⟨hx,hn,au,av⟩:=h.BP;have hi:=(afG.1 hc).1;have aa:(EM G i Ae).Ad.length=G.Ad.length:=by simp[EM]
 obtain⟨xs,hL,aq,ar⟩:=h.ln i c hc;have ad:=h.cl i c hc;obtain⟨es,cl,ag⟩:=(h.bound i c hc).block;have at':∀{b:Nat} {ab:Array Value} {t:TypeId} {z:Nat×Nat},w.heap[b]?=some (.cells ab t z)->b≠p.cb i->b≠p.lb i->W.heap[b]?=some (.cells ab t z):=fun hb n1 n2=>hk.at hb (fun e=>by
  rcases e with e|e|e
  ·exact n1 e
  ·subst e;rw[hb]at ag;cases ag
  ·exact n2 e)
 have ah:∀{b:Nat} {ab:Array Value} {t:TypeId} {z:Nat×Nat},w.heap[b]?=some (.cells ab t z)->t≠133->t≠129->W.heap[b]?=some (.cells ab t z):=fun hb n1 n2=>at' hb (AZ hb ad n1) (AZ hb hL n2)
 have ai:Avoid w F (fun k=>k=p.cb i\/k=p.bm i\/k=p.lb i):=Avoid.tags (fun b e=>by
  rcases e with rfl|rfl|rfl
  ·exact afJ ⟨_,_,_,ad,by decide⟩
  ·exact afM ⟨es,cl,ag⟩
  ·exact afJ ⟨_,_,_,hL,by decide⟩)
 obtain⟨an,ao,ap,aj⟩:=h.FG i hi;have af:∀{α:Type} {k:TypeId} {b:Nat} {lit:α->Lit} {g:α->Option Int} {n:Nat},Mp w k b lit g n->b≠p.bm i->Mp W k b lit g n:=fun hm ac=>by
  obtain⟨am,al,hq⟩:=hm.block;refine hm.keep hk (fun e=>?_);rcases e with rfl|e|rfl
  ·rw[hq]at ad;cases ad
  ·exact ac e
  ·rw[hq]at hL;cases hL
 have ak:=h.wf.cf;unfold R.BD at ak;refine⟨⟨⟨h.wf.cf,by rw[aa];exact h.wf.Gt,fun j x hj=>?_,h.wf.E3,h.wf.Eo,h.wf.sv,h.wf.Kh,h.wf.nm,h.wf.st,h.wf.nd,h.wf.I5⟩,h.Db,?_,?_,?_,h.BN.keep hk ai (fun _ q=>q),af h.names (fun e=>aj e.symm),fun j x hj=>?_,fun j x hj=>?_,fun j x hj=>?_,h.BP,by rw[aa];exact h.FG,by rw[aa];exact h.inj,fun k hf=>afT (h.lt k hf) hk.size⟩,hk.mono (fun k _ e=>by rcases e with rfl|rfl|rfl<;>assumption),fun _ q=>afJ q⟩
 ·rcases FL hj with ⟨_,rfl⟩|⟨_,h0⟩
  ·exact⟨by simp[R.FF,EM];omega,ae,(fun u hu=>by cases hu),fun k l hl=>by
    rw[R.Es hl];exact R.M3⟩
  ·exact⟨(h.wf.cl j x h0).lines,(h.wf.cl j x h0).Ae,(h.wf.cl j x h0).bound,(h.wf.cl j x h0).line⟩
 ·rw[aa];exact ah h.bx (by decide) (by decide)
 ·obtain⟨ab,g1,g2⟩:=h.XH;rw[aa];exact⟨ab,ah g1 (by decide) (by decide),g2⟩
 ·obtain⟨K,g1,g2,g3⟩:=h.bn;refine⟨K,ah g1 (by decide) (by decide),hk.row g2 (fun j hj e=>?_),g3⟩;rcases g2.2 with ⟨rfl,_⟩|⟨g,cap,ab,rfl,_,hg,_⟩
  ·cases hj
  ·cases hj;rcases e with e|e|e
   ·exact AZ hg ad (by decide) e
   ·exact Fv hg ag e
   ·exact AZ hg hL (by decide) e
 ·rcases FL hj with ⟨rfl,rfl⟩|⟨ac,h0⟩
  ·exact h1
  ·exact at' (h.cl j x h0) (h.inj j i (afG.1 h0).1 hi (fun e=>ac e.symm)).2.2 (AZ (h.cl j x h0) hL (by decide))
 ·rcases FL hj with ⟨rfl,rfl⟩|⟨ac,h0⟩
  ·refine⟨_,h3,⟨by simp[R.FF],fun k l y hl hy=>?_⟩,fun k l y hl hy=>?_⟩
   ·rw[R.Es hl];rw[afZ]at hy;split at hy
    ·cases hy;exact⟨rfl,rfl,fun _=>rfl,by simp[R.JC],by simp[R.JC]⟩
    ·cases hy
   ·rw[R.Es hl];rw[afZ]at hy;split at hy
    ·cases hy;exact BF.nil W F
    ·cases hy
  ·obtain⟨ys,g1,g2,g3⟩:=h.ln j x h0;exact⟨ys,at' g1 (AZ g1 ad (by decide)) (h.inj j i (afG.1 h0).1 hi (fun e=>ac e.symm)).1,g2,g3.Eg hk ai.sv (fun _ q=>q)⟩
 ·rcases FL hj with ⟨rfl,rfl⟩|⟨ac,h0⟩
  ·have:Mp W 3 (p.bm i) Kz (fun _=>none) 0:=h2;exact this.congr (fun a=>by simp[BL,R.FF])
  ·exact af (h.bound j x h0) (h.inj j i (afG.1 h0).1 hi (fun e=>ac e.symm)).2.1
end Go.Proofs.YtblomippkddgiabGreatDoor
