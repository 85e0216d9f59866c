import Derived.Test.YtblomippkddgiabGreatDoorJ34
set_option maxRecDepth 100000
set_option maxHeartbeats 1000000
namespace Go.Proofs.YtblomippkddgiabGreatDoor
open Go.RowKit
variable {buf:Array Value}{cl tm:Bool}{F:Aq}{jobs:List R.Jb}{B a b b' cap i n nm s:Nat}{P:Pk}{p:Pl}{M:R.Bk}{d:R.Cd}{c:R.Cf}{r:R.Sn}{G:R.Wd}{y:JH}{t:SP}{w w':World}
theorem J8{aa:Array Value}{t:TypeId}{z:Nat×Nat}{r:Nat}(h:w.heap[b]?=some (.cells aa t z))(h':w.heap[b']?=some (.chan cap buf cl a r tm)):b≠b':=fun e=>by
 rw[e,h']at h;cases h
theorem ZC{size:Nat}{e:TypeId}{v:Value}{xs:List Value}(hr:w.ownsRow B e size v n xs){r:Nat}(h':w.heap[b']?=some (.chan cap buf cl a r tm))(j:Nat)(hj:v.ownBlock=some j):j≠b':=by
 rcases hr.2 with ⟨rfl,_⟩|⟨g,cap,aa,rfl,_,hg,_⟩
 ·cases hj
 ·cases hj;exact J8 hg h'
theorem Nu{α:Type}{l:List α}{u:Nat}{x y:α}(h:(l.set u x)[i]?=some y):(i=u/\y=x)\/(i≠u/\l[i]?=some y):=by
 rw[List.getElem?_set]at h;by_cases e:u=i
 ·rw[if_pos e]at h;split at h
  ·exact Or.inl ⟨e.symm,(Option.some.inj h).symm⟩
  ·cases h
 ·rw[if_neg e]at h;exact Or.inr ⟨fun q=>e q.symm,h⟩
def SP.put(t:SP)(i b:Nat):SP:={t with ql:=fun j=>if j=i then b else t.ql j}
theorem Wq(t:SP)(seen:List R.Sn)(i b:Nat)(r':R.Sn)(hi:i<seen.length)(aa:r'.seq≠0)(j:Nat):Bt (t.put i b) (seen.set i r') j=if j=i then ptr b else Bt t seen j:=by
 unfold Bt SP.put;rw[List.getElem?_set];by_cases e:i=j
 ·subst e;rw[if_pos rfl,if_pos hi,if_pos rfl];simp[aa]
 ·have e':¬j=i:=fun q=>e q.symm
  simp[e,e']
theorem T8(n nm:Nat)(t:SP)(c:R.Cf)(Aj:List Int)(seen:List R.Sn)(i b:Nat)(r':R.Sn)(hl:seen.length=9)(hi:i<9)(aa:r'.seq≠0):Ce n nm (t.put i b) c Aj (seen.set i r')=(Ce n nm t c Aj seen).set (10+i) (ptr b):=by
 have q:=Wq t seen i b r' (by omega) aa;unfold Ce;simp only[q];have h:i=0\/i=1\/i=2\/i=3\/i=4\/i=5\/i=6\/i=7\/i=8:=by omega
 rcases h with rfl|rfl|rfl|rfl|rfl|rfl|rfl|rfl|rfl<;>rfl
theorem Cg.PL{sv:List R.Sv}{Aj:List Int}{seen:List R.Sn}(h:Cg s n nm t F c sv Aj seen jobs w)(af:∀k,F k->k<w.heap.size){r':R.Sn}(hl:seen.length=9)(hi:i<9)(aj:r'.seq≠0)(hb:w.heap.size<=b)(hk:Af (fun k=>k=s) w w')(hs:w'.heap[s]?=some (.cells ((Ce n nm t c Aj seen).set (10+i) (ptr b)).toArray 144 (0,0)))(hy:w'.heap[b]?=some (.cells y.cells.toArray 179 (0,0)))(ac:KZ i (Aj.getD (i / 3) 0) r' y):
  Cg s n nm (t.put i b) (fun k=>F k\/k=b) c sv Aj (seen.set i r') jobs w':=by
 obtain⟨f1,f2,f3⟩:=h.BP;have ai:JD w F (fun k=>k=s):=JD.one h.bs (by decide);obtain⟨ja,jb,hj⟩:=h.jobs;have hq:∀(j:Nat) (x:R.Sn),(seen.set i r')[j]?=some x->(j=i/\x=r')\/(j≠i/\seen[j]?=some x):=fun j x hx=>by
  rw[List.getElem?_set]at hx;by_cases e:i=j
  ·rw[if_pos e]at hx;split at hx
   ·exact Or.inl ⟨e.symm,(Option.some.inj hx).symm⟩
   ·cases hx
  ·rw[if_neg e]at hx;exact Or.inr ⟨fun q=>e q.symm,hx⟩
 refine⟨by rw[T8 n nm t c Aj seen i b r' hl hi aj];exact hs,h.zs,hk.row h.made (fun j hj e=>AV h.made h.bs (by decide) (by rw[<-e];exact hj)),fun z hz=>(h.each z hz).keep hk ai (fun _ q=>Or.inl q),h.dns,h.Z8,fun j x hx ab=>?_,fun j j' x x' hx ag ab aa ae=>?_,⟨ja,jb,hk.at hj (J8 h.bs hj).symm⟩,Or.inl f1,Or.inl f2,fun j hj=>Or.inl (f3 j hj)⟩
 ·rcases hq j x hx with ⟨rfl,rfl⟩|⟨e,hx⟩
  ·refine⟨y,?_,ac,Or.inr ?_⟩
   ·simp only[SP.put,if_true];exact hy
   ·simp[SP.put]
  ·obtain⟨y',h1,h2,h3⟩:=h.ln j x hx ab;refine⟨y',?_,h2,Or.inl ?_⟩
   ·simp only[SP.put,if_neg e];exact hk.at h1 (AZ h1 h.bs (by decide))
   ·simp only[SP.put,if_neg e];exact h3
 ·rcases hq j x hx with ⟨e,_⟩|⟨e,ah⟩
  ·rcases hq j' x' ag with ⟨e',_⟩|⟨e',ad⟩
   ·exact absurd (e.trans e'.symm) ae
   ·obtain⟨y',_,_,h3⟩:=h.ln j' x' ad aa;have:=af _ h3;simp only[SP.put,if_pos e,if_neg e'];omega
  ·rcases hq j' x' ag with ⟨e',_⟩|⟨e',ad⟩
   ·obtain⟨y',_,_,h3⟩:=h.ln j x ah ab;have:=af _ h3;simp only[SP.put,if_pos e',if_neg e];omega
   ·simp only[SP.put,if_neg e,if_neg e'];exact h.inj j j' x x' ah ad ab aa ae
theorem Cg.J5{sv:List R.Sv}{Aj:List Int}{seen:List R.Sn}{aa:List R.Jb}(h:Cg s n nm t F c sv Aj seen jobs w)(hk:Af (fun k=>k=t.jc) w w')(ac:∃a b:Nat,w'.heap[t.jc]?=some (.chan c.table.toNat (aa.map PE).toArray false a b false)):
  Cg s n nm t F c sv Aj seen aa w':=by
 obtain⟨ja,jb,hj⟩:=h.jobs;have ab:JD w F (fun k=>k=t.jc):=JD.tags (fun b hb=>Or.inr (Or.inr ⟨_,_,_,_,_,_,by subst hb;exact hj⟩));refine⟨hk.at h.bs (J8 h.bs hj),h.zs,hk.row h.made (ZC h.made hj),fun z hz=>(h.each z hz).keep hk ab (fun _ q=>q),h.dns,h.Z8,fun j x hx ad=>?_,h.inj,ac,h.BP⟩;obtain⟨y',h1,h2,h3⟩:=h.ln j x hx ad;exact⟨y',hk.at h1 (J8 h1 hj),h2,h3⟩
def F9(seen:List R.Sn)(k:Nat):List R.Sn:=((seen.set (3*k) R.Cs).set (3*k+1) R.Cs).set (3*k+2) R.Cs
theorem Fp(seen:List R.Sn)(k j:Nat)(x:R.Sn)(h:(F9 seen k)[j]?=some x):(j / 3=k/\x=R.Cs)\/(j / 3≠k/\seen[j]?=some x):=by
 unfold F9 at h;rcases Nu h with ⟨e1,e2⟩|⟨n1,h⟩
 ·exact Or.inl ⟨by omega,e2⟩
 ·rcases Nu h with ⟨e1,e2⟩|⟨n2,h⟩
  ·exact Or.inl ⟨by omega,e2⟩
  ·rcases Nu h with ⟨e1,e2⟩|⟨n3,h⟩
   ·exact Or.inl ⟨by omega,e2⟩
   ·by_cases e:j / 3=k
    ·omega
    ·exact Or.inr ⟨e,h⟩
theorem N0(n nm:Nat)(t:SP)(c:R.Cf)(Aj:List Int)(seen:List R.Sn)(k:Nat)(Ae:Int)(aa:Aj.length=3)(hk:k<3):Ce n nm t c (Aj.set k Ae) (F9 seen k)=((((Ce n nm t c Aj seen).set (7+k) (.int .i64 Ae)).set (10+3*k) (.pointer none)).set (10+3*k+1) (.pointer none)).set (10+3*k+2) (.pointer none):=by
 have hh:k=0\/k=1\/k=2:=by omega
 have q:∀j,Bt t (F9 seen k) j=if j / 3=k then .pointer none else Bt t seen j:=fun j=>by
  unfold Bt;by_cases e:j / 3=k
  ·rw[if_pos e];cases hx:(F9 seen k)[j]? with
   |none=>simp[R.Cs]
   |some x=>
    rcases Fp seen k j x hx with ⟨_,rfl⟩|⟨e',_⟩
    ·simp[R.Cs]
    ·exact absurd e e'
  ·rw[if_neg e];have:(F9 seen k)[j]?=seen[j]?:=by
    unfold F9;rw[List.getElem?_set,if_neg (by omega),List.getElem?_set,if_neg (by omega),List.getElem?_set,if_neg (by omega)]
   rw[this]
 obtain⟨a,b,d,rfl⟩:∃a b d,Aj=[a,b,d]:=by
  match Aj,aa with
  |[a,b,d],_=>exact⟨a,b,d,rfl⟩
 unfold Ce;simp only[q];rcases hh with rfl|rfl|rfl<;>rfl
theorem Cg.forget{sv:List R.Sv}{Aj:List Int}{seen:List R.Sn}(h:Cg s n nm t F c sv Aj seen jobs w){k:Nat}{Ae:Int}(ag:Aj.length=3)(af:k<3)(hk:Af (fun k=>k=s) w w')(hs:w'.heap[s]?=some (.cells (((((Ce n nm t c Aj seen).set (7+k) (.int .i64 Ae)).set (10+3*k) (.pointer none)).set (10+3*k+1) (.pointer none)).set (10+3*k+2) (.pointer none)).toArray 144 (0,0))):
  Cg s n nm t F c sv (Aj.set k Ae) (F9 seen k) jobs w':=by
 have ad:JD w F (fun k=>k=s):=JD.one h.bs (by decide);obtain⟨ja,jb,hj⟩:=h.jobs;refine⟨by rw[N0 n nm t c Aj seen k Ae ag af];exact hs,h.zs,hk.row h.made (fun j hj e=>AV h.made h.bs (by decide) (by rw[<-e];exact hj)),fun z hz=>(h.each z hz).keep hk ad (fun _ q=>q),h.dns,h.Z8,fun j x hx aa=>?_,fun j j' x x' hx ac aa ab ae=>?_,⟨ja,jb,hk.at hj (J8 h.bs hj).symm⟩,h.BP⟩
 ·rcases Fp seen k j x hx with ⟨_,rfl⟩|⟨e,hx⟩
  ·exact absurd rfl aa
  ·obtain⟨y',h1,h2,h3⟩:=h.ln j x hx aa;refine⟨y',hk.at h1 (AZ h1 h.bs (by decide)),?_,h3⟩;have:(Aj.set k Ae).getD (j / 3) 0=Aj.getD (j / 3) 0:=by
    rw[List.getD_eq_getElem?_getD,List.getD_eq_getElem?_getD,List.getElem?_set,if_neg (fun q=>e q.symm)]
   rw[this];exact h2
 ·rcases Fp seen k j x hx with ⟨_,rfl⟩|⟨e,hx⟩
  ·exact absurd rfl aa
  ·rcases Fp seen k j' x' ac with ⟨_,rfl⟩|⟨e',ac⟩
   ·exact absurd rfl ab
   ·exact h.inj j j' x x' hx ac aa ab ae
theorem LW.Dx(h:LW p F G w)(hP:AR P){kd pa o:Int}(hk:1<=kd/\kd<=7)(hn:kd≠1/\kd≠5)(ho:1<=o/\o<=9)(aa:0<=pa/\pa<=o-1):
  Calls Tryz.prog 220 #[ptr p.s,cv P,NL kd 0 0 0 0 0 pa o false ⟨#[]⟩] w fun e w'=>e=.returned (.tuple #[])/\∃F',LW p F' (R.C3 G P kd pa o) w'/\Ap F F' w w':=by
 obtain⟨_,h2,h3,h4,h5,h6,_⟩:=hP;refine(h.abQ P.client P.Ae P.line P.seq P.uid kd pa o false [] ⟨hk,h2,h3,h4,h5,h6,ho,aa,?_⟩).mono (fun e w' q=>q);unfold Dm;rw[if_neg (by simp only;omega)];rfl
theorem LW.PU(h:LW p F G w)(hP:AR P){aa:Int}(hw:aa=0\/aa=1):
  Calls Tryz.prog 249 #[ptr p.s,pv P,.int .i64 aa] w fun e w'=>e=.returned (.tuple #[])/\∃F',LW p F' (R.C3 G P 7 aa 2) w'/\Ap F F' w w':=by
 refine Rs w p.s P aa _ (fun wa hb=>?_);refine((h.below hb).Dx hP (by omega) (by omega) (by omega) (by omega)).mono ?_;rintro e w' ⟨rfl,F',q1,q2⟩;exact⟨rfl,F',q1,(Ap.Al F hb).trans q2⟩
def Nw(G:R.Wd)(P:Pk):R.Wd:=if P.kind=3 then R.C3 G P 4 0 1 else R.C3 G P 2 P.part P.off
theorem LW.abR(h:LW p F G w)(hP:AR P):
  Calls Tryz.prog 252 #[ptr p.s,pv P] w fun e w'=>e=.returned (.tuple #[])/\∃F',LW p F' (Nw G P) w'/\Ap F F' w w':=by
 have ho:=hP.2.2.2.2.2.2.1;have aa:=hP.2.2.2.2.2.2.2.1;unfold Nw;by_cases hk:P.kind=3
 ·rw[if_pos hk];refine OI w p.s P 4 0 1 _ (Or.inl ⟨hk,rfl,rfl,rfl⟩) (fun wa hb=>?_);refine((h.below hb).Dx hP (by omega) (by omega) (by omega) (by omega)).mono ?_;rintro e w' ⟨rfl,F',q1,q2⟩;exact⟨rfl,F',q1,(Ap.Al F hb).trans q2⟩
 ·rw[if_neg hk];refine OI w p.s P 2 P.part P.off _ (Or.inr ⟨hk,rfl,rfl,rfl⟩) (fun wa hb=>?_);refine((h.below hb).Dx hP (by omega) (by omega) ho aa).mono ?_;rintro e w' ⟨rfl,F',q1,q2⟩;exact⟨rfl,F',q1,(Ap.Al F hb).trans q2⟩
theorem LW.alive(h:LW p F G w)(u:Int):
  Calls Tryz.prog 248 #[ptr p.s,.int .i64 u] w fun e w'=>e=.returned (.bool (R.Ff G u))/\w'=w:=by
 obtain⟨a,c,hK⟩:=AX h.BN.made;have ah:p.t.zs.length=G.Ab.length:=by rw[<-h.BN.zs,List.length_map]
 have c6:w.cell? ⟨p.s,6,none⟩=some (.slice a p.t.zs.length c):=cell_of h.BN.bs 6 _ (by rw[<-hK];rfl);have ad:=h.wf.sv;by_cases hu:1<=u/\u<=(G.Ab.length:Int)
 ·obtain⟨n,rfl⟩:∃n:Nat,u=(n:Int)+1:=⟨(u-1).toNat,by omega⟩;have hn:n<G.Ab.length:=by omega
  obtain⟨z,hz,af⟩:=KV h.BN.zs (List.getElem?_eq_getElem hn);obtain⟨g,cap,ag,ae,_,_,_,k1,_⟩:=h.BN.Jt hz;have ac:w.cell? ⟨p.s,6,none⟩=some (.slice (some ⟨g,0,none⟩) p.t.zs.length cap):=cell_of h.BN.bs 6 _ (by rw[<-ae];rfl);have ab:R.Ff G ((n:Int)+1)=z.1.alive:=by
   unfold R.Ff;have e:((n:Int)+1-1).toNat=n:=by omega
   rw[e,List.getElem?_eq_getElem hn,<-af];simp;omega
  rw[ab];have aa:=(h.BN.each z (List.mem_of_getElem? hz)).wk;cases hb:z.1.alive with
  |true=>
   rw[if_pos hb]at aa;have:∃T b,z.2.wk=.iface T (ptr b):=by
    generalize z.1.kind=kd at aa;generalize z.2.wk=W at aa;cases aa with
    |counter=>exact⟨_,_,rfl⟩
    |FJ=>exact⟨_,_,rfl⟩
    |Jo=>exact⟨_,_,rfl⟩
   obtain⟨T,b,hT⟩:=this;rw[hT]at k1;exact Vo w p.s g n p.t.zs.length cap T b ac (by omega) (by omega) k1
  |false=>
   rw[if_neg (by rw[hb];simp)]at aa;rw[aa]at k1;exact Sj w p.s g n p.t.zs.length cap ac (by omega) (by omega) k1
 ·have ab:R.Ff G u=false:=by
   unfold R.Ff;by_cases h1:1<=u
   ·rw[List.getElem?_eq_none (by omega)];simp
   ·simp[h1]
  rw[ab];exact XD w p.s p.t.zs.length a c u c6 (by omega)
theorem LW.J5(h:LW p F G w){js:List R.Jb}(hk:Af (fun k=>k=p.t.jc) w w')(hj:∃a b:Nat,w'.heap[p.t.jc]?=some (.chan G.c.table.toNat (js.map PE).toArray false a b false))(ac:R.Md G.c G.Aj G.seen js):LW p F {G with jobs:=js} w'/\Ap F F w w':=by
 obtain⟨ja,jb,aa⟩:=h.BN.jobs;have hs:=h.BN.J5 hk hj;have hE:Ca w (fun k=>k=p.t.jc):=fun b hb=>Or.inr ⟨_,_,_,_,_,_,by subst hb;exact aa⟩
 have ab:R.Wf (Bs G G.Ab G.Aj G.seen js):=⟨h.wf.cf,h.wf.Gt,fun j c hc=>⟨(h.wf.cl j c hc).lines,(h.wf.cl j c hc).Ae,(h.wf.cl j c hc).bound,(h.wf.cl j c hc).line⟩,h.wf.E3,h.wf.Eo,h.wf.sv,h.wf.Kh,h.wf.nm,h.wf.st,h.wf.nd,h.wf.I5⟩;have q:=h.Ha hs hk hE (fun _ r=>r) (fun k hf=>Nat.lt_of_lt_of_le (h.lt k hf) hk.size) ab ac (fun i c _ u=>rfl);exact⟨q,hk.mono (fun k _ e=>by rw[e];exact h.BN.BP.2.1),fun _ r=>Or.inl r⟩
theorem ZV{F':Aq}(hB:∀k,F k->k<B)(hw:Ap F F' w w'):Qh B w w':=by
 refine⟨hw.keeps.size,fun x hx hl=>?_⟩;refine hw.keeps.block x hl (fun hf=>?_);have:=hB x hf;omega
structure ada(P:Pk)(i:Nat)(r:R.Sn)(y:JH):Prop where
 client:y.client=P.client
 Ae:y.Ae=P.Ae
 line:y.line=P.line
 seq:y.seq=P.seq
 uid:y.uid=P.uid
theorem adU(hq:Qe p G w i r y)(hp:R.FY M G P d i)(hs:r.seq=P.seq)(hu:r.uid=P.uid):ada P i r y:=by
 have hk:=hp.key;have hr:=hq.rel;simp only[R.D4,R.Key.mk.injEq]at hk;exact⟨by rw[hr.client,hk.1],by rw[hr.Ae,hk.2.1],by rw[hr.line,hk.2.2.1],by rw[hr.seq,hs],by rw[hr.uid,hu]⟩
def Qi(G:R.Wd)(i:Nat)(r:R.Sn)(P:Pk):R.Wd:=
 if P.part=P.off-1 then {R.AB G i {r with state:=2,message:=r.message++P.body,pieces:=r.pieces+1} with jobs:=G.jobs++[⟨P.client,P.line,P.Ae,P.seq,P.uid⟩]}
 else R.AB G i {r with message:=r.message++P.body,pieces:=r.pieces+1}
theorem LW.aeo(h:LW p F G w)(hI:R.Inv M G)(hq:Qe p G w i r y)(h1:r.state=1)(hp:R.FY M G P d i)(ho:P.off=R.Ag d.msg)(hb:P.body=R.Be d.msg P.part)(hs:r.seq=P.seq)(aC:P.part=r.pieces):
  Calls Tryz.prog 262 #[ptr p.s,ptr (p.t.ql i),pv P] w fun e w'=>(e=.returned (.bool false)/\(P.part=P.off-1/\G.c.table<=(G.jobs.length:Int))/\LW p F G w'/\Ap F F w w')\/(e=.returned (.bool true)/\¬(P.part=P.off-1/\G.c.table<=(G.jobs.length:Int))/\LW p F (Qi G i r P) w'/\Ap F F w w'):=by
 have ag:=h.Db.sn i r hq.seen;obtain⟨g1,g2,g3⟩:=ag.Ga h1;have hr:=hq.rel;have aG:=hp.lt;obtain⟨d',an⟩:=hI.sn i r hq.seen hq.ne;have aj:=hp.key;have aw:d'=d:=by
  have:=an.made;rw[hs,<-aj,hp.made]at this;exact(Option.some.inj this).symm
 subst aw;have ap:r.uid=P.uid:=by rw[an.uid,hp.uid]
 have ae:=adU hq hp hs ap;obtain⟨c0,c1,c2,c3,c4,c5,c6,c7,c8,c9,aE⟩:=Qb hq.blk;have ai:=hr.asked (Or.inl h1);rw[ai]at c6;rw[ae.client]at c0;rw[ae.Ae]at c1;rw[ae.line]at c2;rw[ae.seq]at c3;rw[ae.uid]at c4;have am:=hp.right.2.2.2.2.2.2.1;have aB:=hp.right.2.2.2.2.2.2.2.1;have aF:P.body.length<=8:=by rw[hb,R.G0];omega
 have au:∀st:Int,(st=1/\¬P.part=P.off-1)\/(st=2/\P.part=P.off-1)->R.Qg (G.Aj.getD (i / 3) 0) {r with state:=st,message:=r.message++P.body,pieces:=r.pieces+1}:=fun st aJ=>by
  have aH:(r.message++P.body).length<=72:=by rw[List.length_append];omega
  have h0:=ag.some hq.ne;refine⟨fun e=>absurd e hq.ne,ag.seq,fun _=>⟨h0.1,h0.2.1,by simp only;omega⟩,fun e=>?_,fun e=>?_,fun e=>by simp only at e;omega,fun e=>?_⟩
  ·simp only at e;have aI:¬P.part=P.off-1:=by omega
   have h8:P.body.length=8:=by
    have:=hp.right.2.2.2.2.2.2.2.2;have ac:P.kind=1\/P.kind=5\/¬(P.kind=1\/P.kind=5):=by omega
    have ar:=R.GZ (s:=d'.msg) (k:=P.part) aB.1;rw[<-ho,if_pos (by omega)]at ar;rw[hb];exact ar
   simp only;rw[List.length_append];omega
  ·simp only at e ⊢;rw[List.length_append];have ah:=an.Ga h1;have al:r.message++P.body=d'.msg:=by
    obtain⟨n,hn⟩:∃n:Nat,r.pieces=(n:Int):=⟨r.pieces.toNat,by omega⟩;rw[ah.1,hb,aC,hn,Int.toNat_natCast,R.He,R.G5];rw[<-ho];omega
   have h2:2<=d'.msg.length:=by simp[R.Cd.msg,A5]
   have:=congrArg List.length al;rw[List.length_append]at this;omega
  ·have ht:=(ag.timed e).1;omega
 by_cases hl:P.part=P.off-1
 ·obtain⟨ja,jb,hj⟩:=h.BN.jobs;have aq:w.cell? ⟨p.s,19,none⟩=some (.chan (some p.t.jc)):=h.BN.cell 19 _ rfl;have az:=lt_of_cell aq;have ay:=(Array.getElem?_eq_some_iff.1 hj).1;have av:=h.wf.cf;unfold R.BD at av;have af:∀wa,Below w.heap.size w wa->wa.cell? ⟨p.s,19,none⟩=some (.chan (some p.t.jc))/\wa.heap[p.t.jc]?=some (.chan G.c.table.toNat (G.jobs.map PE).toArray false ja jb false):=fun wa aa=>⟨(aa.cell (p:=⟨p.s,19,none⟩) az).trans aq,by rw[aa.block _ ay];exact hj⟩
  by_cases ab:G.c.table<=(G.jobs.length:Int)
  ·refine(XA w p.s (p.t.ql i) P P.client P.Ae P.line P.seq P.uid c0 c1 c2 c3 c4 am hl (fun wa aa=>?_)).mono ?_
   ·exact Rp wa p.s p.t.jc G.c.table.toNat ja jb _ P.client P.Ae P.line P.seq P.uid (af wa aa).1 (af wa aa).2 (by simp;omega)
   ·rintro e w' ⟨rfl,aa⟩;exact Or.inl ⟨rfl,⟨hl,ab⟩,h.below aa,Ap.Al F aa⟩
  ·refine(XB w p.s (p.t.ql i) P r.message P.client P.Ae P.line P.seq P.uid 0 (fun w1=>LW p F {G with jobs:=G.jobs++[⟨P.client,P.line,P.Ae,P.seq,P.uid⟩]} w1/\Ap F F w w1) (fun w1=>LW p F (Qi G i r P) w1/\Ap F F w w1) c0 c1 c2 c3 c4 am hl (by omega) (by omega) (fun wa aa=>?_) ?_ ?_).mono ?_
   ·refine(Rq wa p.s p.t.jc G.c.table.toNat ja jb _ P.client P.Ae P.line P.seq P.uid (af wa aa).1 (af wa aa).2 (by simp;omega)).mono ?_;rintro e w' ⟨rfl,ax,ak⟩;have aD:R.Md G.c G.Aj G.seen (G.jobs++[⟨P.client,P.line,P.Ae,P.seq,P.uid⟩]):=⟨h.Db.ll,h.Db.lv,h.Db.sl,h.Db.sn,by simp;omega,fun j hj=>by
     rcases List.mem_append.1 hj with q|q
     ·exact h.Db.jb j q
     ·simp only[List.mem_singleton]at q;subst q;exact⟨hp.right.2.1,hp.right.2.2.2.1⟩⟩
    obtain⟨q1,q2⟩:=(h.below aa).J5 (js:=G.jobs++[⟨P.client,P.line,P.Ae,P.seq,P.uid⟩]) ak ⟨ja+1,jb,by rw[ax];congr 2;simp[PE]⟩ aD;exact⟨rfl,⟨q1,(Ap.Al F aa).trans q2⟩,fun x hx aA=>ak.block x aA (by omega),ak.size⟩
   ·rintro w1 ⟨q1,_⟩;obtain⟨y1,k1,_⟩:=q1.q (i:=i) (r:=r) hq.seen hq.ne;obtain⟨_,_,_,_,_,f5,f6,_⟩:=Qb k1.blk;rw[k1.rel.state,h1]at f5;rw[k1.rel.asked (Or.inl h1)]at f6;exact⟨f6,open_list k1.blk,f5,open_list k1.blk⟩
   ·rintro w1 wa ⟨q1,q2⟩ ad;obtain⟨y1,k1,_⟩:=q1.q (i:=i) (r:=r) hq.seen hq.ne;have ac:=k1.rel;obtain⟨m1,_,m2⟩:=q1.Ix (r':={r with state:=2,message:=r.message++P.body,pieces:=r.pieces+1}) (y':={y1 with asked:=r.message++P.body,state:=1}) k1 hq.ne ((Ah _).trans (Ah _)) (Eb (j:=5) (v:=.int .i64 1) (y:={y1 with asked:=r.message++P.body}) (Eb (j:=6) (v:=.string (str (r.message++P.body))) k1.blk rfl) rfl) ⟨ac.client,ac.Ae,ac.line,ac.seq,ac.uid,rfl,fun _=>rfl,fun e=>by simp only at e;omega,ac.wait,ac.tries⟩ (au 2 (Or.inr ⟨rfl,hl⟩));have ao:((w1.setCell ⟨p.t.ql i,6,none⟩ (.string (str (r.message++P.body)))).setCell ⟨p.t.ql i,5,none⟩ (.int .i64 1)).heap.size=w1.heap.size:=by simp
    rw[<-ao]at ad;refine⟨?_,(q2.trans m2).trans (Ap.Al F ad)⟩;unfold Qi;rw[if_pos hl];exact m1.below ad
   ·rintro e w' ⟨rfl,q1,q2⟩;exact Or.inr ⟨rfl,fun q=>ab q.2,q1,q2⟩
 ·refine(XC w p.s (p.t.ql i) P r.message (fun w1=>LW p F (Qi G i r P) w1/\Ap F F w w1) c6 (open_list hq.blk) (by omega) (by omega) am hl (fun wa ad=>?_)).mono ?_
  ·obtain⟨m1,_,m2⟩:=h.Ix (r':={r with message:=r.message++P.body,pieces:=r.pieces+1}) (y':={y with asked:=r.message++P.body}) hq hq.ne (Ah _) (Eb (j:=6) (v:=.string (str (r.message++P.body))) hq.blk rfl) ⟨hr.client,hr.Ae,hr.line,hr.seq,hr.uid,hr.state,fun _=>rfl,hr.ans,hr.wait,hr.tries⟩ (au r.state (Or.inl ⟨h1,hl⟩));have ao:(w.setCell ⟨p.t.ql i,6,none⟩ (.string (str (r.message++P.body)))).heap.size=w.heap.size:=by simp
   rw[<-ao]at ad;refine⟨?_,m2.trans (Ap.Al F ad)⟩;unfold Qi;rw[if_neg hl];exact m1.below ad
  ·rintro e w' ⟨rfl,q1,q2⟩;exact Or.inr ⟨rfl,fun q=>hl q.1,q1,q2⟩
theorem Uf(hk:P.kind=1):Nw G P=R.C3 G P 2 P.part P.off:=by
 unfold Nw;rw[if_neg (by omega)]
theorem LW.UU(h:LW p F G w)(hI:R.Inv M G)(hq:Qe p G w i r y)(h1:r.state=1)(hp:R.FY M G P d i)(hk:P.kind=1)(ho:P.off=R.Ag d.msg)(hb:P.body=R.Be d.msg P.part)(hs:r.seq=P.seq):
  Calls Tryz.prog 251 #[ptr p.s,ptr (p.t.ql i),pv P] w fun e w'=>e=.returned (.tuple #[])/\∃F',LW p F' (if P.part<=r.pieces then R.CL G i P else G) w'/\Ap F F' w w':=by
 have ad:=h.Db.sn i r hq.seen;obtain⟨g1,g2,g3⟩:=ad.Ga h1;have hr:=hq.rel;have c6:=(Qb hq.blk).a6;rw[hr.asked (Or.inl h1)]at c6;have ac:R.Ag r.message=r.pieces:=by unfold R.Ag;omega
 have ab:R.AY G i=r:=R.Bn hq.seen;have eG:R.CL G i P=if P.part=r.pieces then (if P.part=P.off-1/\G.c.table<=(G.jobs.length:Int) then G else R.IX (Qi G i r P) P) else R.IX G P:=by
  unfold R.CL Qi;simp only[ab];by_cases q1:P.part=r.pieces
  ·rw[if_pos q1,if_pos q1];by_cases q2:P.part=P.off-1
   ·rw[if_pos q2,if_pos q2];by_cases q3:G.c.table<=(G.jobs.length:Int)
    ·rw[if_pos q3,if_pos ⟨q2,q3⟩]
    ·rw[if_neg q3,if_neg (fun q=>q3 q.2)]
   ·rw[if_neg q2,if_neg q2,if_neg (fun q=>q2 q.1)]
  ·rw[if_neg q1,if_neg q1]
 refine QK w p.s (p.t.ql i) P r.message r.pieces (fun w1=>∃K,LW p F K w1/\Ap F F w w1/\R.IX K P=(if P.part<=r.pieces then R.CL G i P else G)) _ c6 (fun w=>by
  have:=CS r.message w (by omega);rw[ac]at this;exact this) (fun q wa aa=>?_) (fun q wa aa=>?_) (fun q wa aa=>?_) (fun q w1=>?_) (fun q w1=>?_)
 ·rw[if_neg (by omega)];exact⟨F,h.below aa,Ap.Al F aa⟩
 ·refine((h.below aa).aeo hI (hq.below aa) h1 hp ho hb hs q).mono ?_;rintro e w' (⟨rfl,q1,q2,q3⟩|⟨rfl,q1,q2,q3⟩)
  ·refine Or.inl ⟨rfl,F,?_,(Ap.Al F aa).trans q3⟩;rw[if_pos (by omega),eG,if_pos q,if_pos q1];exact q2
  ·refine Or.inr ⟨rfl,⟨Qi G i r P,q2,(Ap.Al F aa).trans q3,?_⟩,ZV h.lt q3⟩;rw[if_pos (by omega),eG,if_pos q,if_neg q1]
 ·refine⟨G,h.below aa,Ap.Al F aa,?_⟩;rw[if_pos (by omega),eG,if_neg (by omega)]
 ·rintro ⟨K,k1,k2,k3⟩;refine(k1.abR hp.right).mono ?_;rintro e w' ⟨rfl,F',m1,m2⟩;refine⟨rfl,F',?_,k2.trans m2⟩;rw[<-k3];unfold R.IX;rw[if_pos q,<-Uf hk];exact m1
 ·rintro ⟨K,k1,k2,k3⟩;refine⟨F,?_,k2⟩;rw[<-k3];unfold R.IX;rw[if_neg (by rw[q];simp)];exact k1
theorem LW.acr(h:LW p F G w)(hI:R.Inv M G)(hq:Qe p G w i r y)(hp:R.FY M G P d i)(hk:(P.kind=1/\P.off=R.Ag d.msg/\P.body=R.Be d.msg P.part)\/P.kind=3)(hs:r.seq=P.seq):
  Calls Tryz.prog 216 #[ptr p.s,ptr (p.t.ql i),pv P] w fun e w'=>e=.returned (.tuple #[])/\∃F',LW p F' (R.Dq G i P) w'/\Ap F F' w w':=by
 have ab:=h.Db.sn i r hq.seen;have ac:=(ab.some hq.ne).2.2;have hr:=hq.rel;have c5:=(Qb hq.blk).a5;rw[hr.state]at c5;have aa:R.AY G i=r:=R.Bn hq.seen;have eK:R.Dq G i P=if r.state=1 then (if P.kind=1/\P.part<=r.pieces then R.CL G i P else G) else if r.state=4 then R.C3 G P 7 0 2 else if P.please=false then G else if r.state=3 then R.Em G i else Nw G P:=by
  unfold R.Dq Nw;simp only[aa]
 rw[eK];refine TE w p.s (p.t.ql i) (r.state-1) P _ c5 (by omega) (fun q wa hb=>?_) (fun q q' wa hb=>?_) (fun q q' wa hb=>?_) (fun q q' wa hb=>?_) (fun q wa hb=>?_)
 ·rw[if_neg (by omega),if_pos (by omega)];refine((h.below hb).PU hp.right (Or.inl rfl)).mono ?_;rintro e w' ⟨rfl,F',m1,m2⟩;exact⟨rfl,F',m1,(Ap.Al F hb).trans m2⟩
 ·rw[if_neg (by omega),if_neg (by omega),if_neg (by rw[q'];simp),if_pos (by omega)];refine((h.below hb).tell (hq.below hb) (by omega)).mono ?_;rintro e w' ⟨rfl,F',m1,m2⟩;exact⟨rfl,F',m1,(Ap.Al F hb).trans m2⟩
 ·rw[if_neg (by omega),if_neg (by omega),if_neg (by rw[q'];simp),if_neg (by omega)];refine((h.below hb).abR hp.right).mono ?_;rintro e w' ⟨rfl,F',m1,m2⟩;exact⟨rfl,F',m1,(Ap.Al F hb).trans m2⟩
 ·rw[if_pos (by omega)];rcases hk with ⟨_,k2,k3⟩|k2
  ·refine((h.below hb).UU hI (hq.below hb) (by omega) hp q' k2 k3 hs).mono ?_;rintro e w' ⟨rfl,F',m1,m2⟩;refine⟨rfl,F',?_,(Ap.Al F hb).trans m2⟩;by_cases q2:P.part<=r.pieces
   ·rw[if_pos ⟨q',q2⟩];rw[if_pos q2]at m1;exact m1
   ·rw[if_neg (fun q3=>q2 q3.2)];rw[if_neg q2]at m1;exact m1
  ·omega
 ·have hG:(if r.state=1 then (if P.kind=1/\P.part<=r.pieces then R.CL G i P else G) else if r.state=4 then R.C3 G P 7 0 2 else if P.please=false then G else if r.state=3 then R.Em G i else Nw G P)=G:=by
   rcases q with ⟨q1,q2⟩|⟨q1,q2⟩
   ·rw[if_neg (by omega),if_neg (by omega),if_pos q2]
   ·rw[if_pos (by omega),if_neg (fun q3=>q2 q3.1)]
  rw[hG];exact⟨F,h.below hb,Ap.Al F hb⟩
theorem Xi(w:World)(cb lb nl k:Nat)(lf st sq:Int)(P:Pk)(hk:k<nl)(hP:P.line=(k:Int))(b1:w.cell? ⟨cb,1,none⟩=some (.int .i64 lf))(b3:w.cell? ⟨cb,3,none⟩=some (.slice (some ⟨lb,0,none⟩) nl nl))(a0:w.cell? ⟨lb,k*10,none⟩=some (.int .i64 st))(a1:w.cell? ⟨lb,k*10+1,none⟩=some (.int .i64 sq)):
  Calls Tryz.prog 158 #[ptr cb,pv P] w fun e w'=>e=.returned (.bool (decide (st=1/\lf=P.Ae/\sq=P.seq)))/\Below w.heap.size w w':=by
 obtain⟨kd,cl,li,ln,aa,u,pa,o,pl,body⟩:=P;dsimp only[pv]at *;subst hP;have ab:=lt_of_cell b1;have ac:=lt_of_cell a0;have q1:(0:Int)<=(k:Int):=by omega
 have q2:(k:Int)<(nl:Int):=by omega
 have HB:Hid (∀o,Below w.heap.size w (w.alloc o)):=fun o=>(Below.refl _ _).alloc (Nat.le_refl _) _
 generalize str body=SB at *;by_cases h1:st=1
 ·have e1:(st==1)=true:=by simpa using h1
  by_cases h2:lf=li
  ·have e2:(lf==li)=true:=by simpa using h2
   by_cases h3:sq=aa
   ·have e3:(sq==aa)=true:=by simpa using h3
    rw[show decide (st=1/\lf=li/\sq=aa)=true by simp[h1,h2,h3]];clear h1 h2 h3;go_enter Tryz.func158,Tryz.ntmps158;go_wp2_with fail
    go_quiet (fail);go_wp2_with fail
    go_quiet (fail);go_wp2;go_returns;exact⟨rfl,below_drewN (below_drewN ((Aa HB) _) _) _⟩
   ·have e3:(sq==aa)=false:=by simpa using h3
    rw[show decide (st=1/\lf=li/\sq=aa)=false by simp[h3]];clear h1 h2 h3;go_enter Tryz.func158,Tryz.ntmps158;go_wp2_with fail
    go_quiet (fail);go_wp2_with fail
    go_quiet (fail);go_wp2;go_returns;exact⟨rfl,below_drewN (below_drewN ((Aa HB) _) _) _⟩
  ·have e2:(lf==li)=false:=by simpa using h2
   rw[show decide (st=1/\lf=li/\sq=aa)=false by simp[h2]];clear h1 h2;go_enter Tryz.func158,Tryz.ntmps158;go_wp2_with fail
   go_quiet (fail);go_wp2_with fail
   go_quiet (fail);go_wp2;go_returns;exact⟨rfl,below_drewN (below_drewN ((Aa HB) _) _) _⟩
 ·have e1:(st==1)=false:=by simpa using h1
  rw[show decide (st=1/\lf=li/\sq=aa)=false by simp[h1]];clear h1;go_enter Tryz.func158,Tryz.ntmps158;go_wp2_with fail
  go_quiet (fail);go_wp2_with fail
  go_quiet (fail);go_wp2;go_returns;exact⟨rfl,below_drewN (below_drewN ((Aa HB) _) _) _⟩
theorem Yf(w:World)(cb:Nat)(P:Pk)(aa:World->Prop)
  (HS:Hid (∀wa,Below w.heap.size w wa->Calls Tryz.prog 204 #[ptr cb,.int .i64 P.line,NL 6 0 0 0 0 0 P.part P.off false ⟨#[]⟩] wa fun e w'=>e=.returned (.tuple #[])/\aa w')):
  Calls Tryz.prog 217 #[ptr cb,pv P] w fun e w'=>e=.returned (.tuple #[])/\aa w':=by
 have HB:Hid (∀o,Below w.heap.size w (w.alloc o)):=fun o=>(Below.refl _ _).alloc (Nat.le_refl _) _
 go_enter Tryz.func217,Tryz.ntmps217;go_wp2_with (first|(go_at_call 204;refine((Aa HS) _ ((Aa HB) _)).mono ?_;rintro e w3 ⟨rfl,ab⟩))
 go_returns;exact⟨rfl,ab⟩
theorem Qz(w:World)(b k:Nat)(ra:Option Addr)(rn rc:Nat)(xs:List CU)(x:CU)(ad:∃a n c,x.rv=.slice a n c)(h:w.heap[b]?=some (.cells (tab CU.cells xs).toArray 129 (0,0)))(hx:xs[k]?=some x):
  Calls Tryz.prog 218 #[.pointer (some ⟨b,k*10,none⟩),.slice ra rn rc] w fun e w'=>e=.returned (.tuple #[])/\w'.heap[b]?=some (.cells (tab CU.cells (xs.set k {JR 2 x.seq with rv:=.slice ra rn rc})).toArray 129 (0,0))/\Af (fun q=>q=b) w w':=by
 have H:=Ac (ML w b k 2 xs x ad h hx);have hk:=(List.getElem?_eq_some_iff.1 hx).1;have HP:Hid (∀w':World,w'.heap[b]?=some (.cells (tab CU.cells (xs.set k (JR 2 x.seq))).toArray 129 (0,0))->(w'.setCell ⟨b,k*10+2,none⟩ (.slice ra rn rc)).heap[b]?=some (.cells (tab CU.cells (xs.set k {JR 2 x.seq with rv:=.slice ra rn rc})).toArray 129 (0,0))/\(∃a n c,w'.cell? ⟨b,k*10+2,none⟩=some (.slice a n c))/\w'.frozen? ⟨b,k*10+2,none⟩=false/\b<w'.heap.size):=fun w' hw=>by
  have ae:(xs.set k (JR 2 x.seq))[k]?=some (JR 2 x.seq):=by simp[hk]
  have e:=BS (j:=2) (x':={JR 2 x.seq with rv:=.slice ra rn rc}) (v:=.slice ra rn rc) hw ae (by omega) rfl;simp only[List.set_set]at e;exact⟨e.1,⟨_,_,_,(Yu hw ae).a2⟩,open_list hw,lt_of_block hw⟩
 clear h hx ad;go_enter Tryz.func218,Tryz.ntmps218;go_wp2_with (first|(go_at_call 167;refine(Aa H).mono ?_;rintro e w1 ⟨rfl,aa,ab⟩;have hq:=(Aa HP) w1 aa;obtain⟨ac,⟨qa,qn,qc,ah⟩,ai,aj⟩:=hq;have af:=Ac ac;have ag:=Ac ab;clear aa ac ab))
 go_returns;exact⟨rfl,Aa af,(Aa ag).trans (Ah _)⟩
theorem ab2(w:World)(cb lb nl k:Nat)(ac:Int)(P:Pk)(hk:k<nl)(hP:P.line=(k:Int))(b3:w.cell? ⟨cb,3,none⟩=some (.slice (some ⟨lb,0,none⟩) nl nl))(a6:w.cell? ⟨lb,k*10+6,none⟩=some (.int .i64 ac))(aa:¬P.part=ac):
  Calls Tryz.prog 159 #[ptr cb,pv P] w fun e w'=>e=.returned (.tuple #[])/\Below w.heap.size w w':=by
 obtain⟨kd,cl,li,ln,ae,u,pa,o,pl,body⟩:=P;dsimp only[pv]at *;subst hP;have ab:=lt_of_cell b3;have ad:=lt_of_cell a6;have q1:(0:Int)<=(k:Int):=by omega
 have q2:(k:Int)<(nl:Int):=by omega
 have e1:(pa != ac)=true:=by simpa using aa
 have HB:Hid (∀o,Below w.heap.size w (w.alloc o)):=fun o=>(Below.refl _ _).alloc (Nat.le_refl _) _
 generalize str body=SB at *;clear aa;go_enter Tryz.func159,Tryz.ntmps159;go_wp2_with fail
 go_quiet (fail);go_wp2_with fail
 go_quiet (fail);go_wp2;go_returns;exact⟨rfl,below_drewN (below_drewN ((Aa HB) _) _) _⟩
end Go.Proofs.YtblomippkddgiabGreatDoor
