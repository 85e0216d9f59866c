import Derived.Test.YtblomippkddgiabGreatDoorJ12
namespace Go.Proofs.YtblomippkddgiabGreatDoor.R
variable {M:Bk}{d:Cd}{rb:List UInt8}{i n:Nat}{p:Pk}{r:Sn}{s:Sv}{G G':Wd}
theorem Inv.Ni(h:Inv M G){js:List Jb}(hl:(js.length:Int)<=G.c.table)(hj:∀j∈js,((0<=j.client/\j.client<=2)/\(0<=j.line/\j.line<=2))/\∃d,M ⟨j.client,j.Ae,j.line,j.seq⟩=some d/\j.uid=d.uid):Inv M {G with jobs:=js}:=
 ⟨⟨h.wf.cf,h.wf.Gt,fun j c hc=>⟨(h.wf.cl j c hc).lines,(h.wf.cl j c hc).Ae,(h.wf.cl j c hc).bound,(h.wf.cl j c hc).line⟩,h.wf.E3,h.wf.Eo,h.wf.sv,h.wf.Kh,h.wf.nm,h.wf.st,h.wf.nd,h.wf.I5⟩,⟨h.ws.ll,h.ws.lv,h.ws.sl,h.ws.sn,hl,fun j q=>(hj j q).1⟩,h.bk,h.ln,h.fl,h.sn,h.lg,h.R9,fun j q=>(hj j q).2,h.lv⟩
structure FY(M:Bk)(G:Wd)(p:Pk)(d:Cd)(i:Nat):Prop where
 right:AR p
 made:M (D4 p)=some d
 uid:p.uid=d.uid
 Ae:p.Ae=G.Aj.getD (i / 3) 0
 i:i=3*p.client.toNat+p.line.toNat
theorem FY.key(h:FY M G p d i):D4 p=⟨((i / 3:Nat):Int),G.Aj.getD (i / 3) 0,((i % 3:Nat):Int),p.seq⟩:=by
 obtain⟨_,p2,_,p4,_⟩:=h.right;have:=h.i;simp only[D4,Key.mk.injEq];exact⟨by omega,h.Ae,by omega,trivial⟩
theorem FY.lt(h:FY M G p d i):i<9:=by
 obtain⟨_,p2,_,p4,_⟩:=h.right;have:=h.i;omega
theorem FY.aaq(h:FY M G p d i)(e:G'.Aj=G.Aj):FY M G' p d i:=⟨h.right,h.made,h.uid,by rw[e];exact h.Ae,h.i⟩
theorem Inv.Si(h:Inv M G)(ha:FY M G p d i)(ho:p.off=Ag d.msg):Inv M (IX G p):=by
 obtain⟨r1,r2,r3,r4,r5,r6,r7,r8,r9⟩:=ha.right;unfold IX;split
 ·exact h.IP ha.right ha.made ha.uid (by decide) r7 (by omega) (Or.inl ⟨rfl,ho⟩)
 ·exact h
theorem Inv.gather(h:Inv M G)(ha:FY M G p d i)(ho:p.off=Ag d.msg)(hb:p.body=Be d.msg p.part)(hr:G.seen[i]?=some r)(hs:r.seq=p.seq)(h1:r.state=1):Inv M (CL G i p):=by
 have aa:=h.ws.sn i r hr;obtain⟨_,_,_,_,am,_,ak,al,_⟩:=ha.right;have af:r.seq≠0:=by omega
 obtain⟨d',q⟩:=h.sn i r hr af;have ad:=ha.key;rw[<-hs]at ad;have ah:d'=d:=by
  have:=q.made;rw[<-ad,ha.made]at this;exact(Option.some.inj this).symm
 subst ah;obtain⟨g1,g2⟩:=q.Ga h1;obtain⟨g3,g4,g5⟩:=aa.Ga h1;have aj:=LU (h.bk _ _ q.made).1;obtain⟨n,hn⟩:∃n:Nat,r.pieces=(n:Int):=⟨r.pieces.toNat,by omega⟩;rw[hn,Int.toNat_natCast]at g1;have hi:=ha.lt;unfold CL;simp only;rw[Bn hr];split
 ·rename_i hf;have ab:r.message++p.body=d'.msg.take (8*(n+1)):=by rw[g1,hb,hf,hn,He]
  split
  ·rename_i ae;have ac:r.message++p.body=d'.msg:=by rw[ab,G5 (by rw[<-ho];omega)]
   split
   ·exact h
   ·rename_i ag;have h2:=h.AB (r':={r with state:=2,message:=r.message++p.body,pieces:=r.pieces+1}) hr (Int.le_refl _) ⟨fun e=>absurd e af,aa.seq,fun e=>⟨(aa.some e).1,(aa.some e).2.1,by simp⟩,by simp,by simp only[ac];omega,by simp,fun ht=>by have:=(aa.timed ht).1;omega⟩ (fun _=>⟨d',q.made,q.uid,by simp,fun _=>ac,fun _=>q.open' (Or.inl h1),by simp⟩);have h3:=h2.Ni (js:=G.jobs++[⟨p.client,p.line,p.Ae,p.seq,p.uid⟩]) (by simp only[List.length_append,List.length_singleton];show _<=G.c.table;omega) (fun j hj=>by
     rcases List.mem_append.1 hj with hj|hj
     ·exact⟨h.ws.jb j hj,h.jb j hj⟩
     ·rw[List.mem_singleton.1 hj];obtain⟨_,p2,_,p4,_⟩:=ha.right;exact⟨⟨p2,p4⟩,d',ha.made,ha.uid⟩)
    exact h3.Si (ha.aaq rfl) ho
  ·rename_i ae;have ai:((n+1:Nat):Int)<Ag d'.msg:=by omega
   have h8:=Lj ai;have h2:=h.AB (r':={r with message:=r.message++p.body,pieces:=r.pieces+1}) hr (Int.le_refl _) ⟨fun e=>absurd e af,aa.seq,aa.some,fun _=>?_,fun e=>by simp only at e;omega,aa.ans,aa.timed⟩ (fun _=>⟨d',q.made,q.uid,fun _=>⟨?_,?_⟩,fun e=>by simp only at e;omega,q.open',q.ans⟩)
   ·exact h2.Si (ha.aaq rfl) ho
   ·simp only;rw[ab,List.length_take,Nat.min_eq_left (by omega)];omega
   ·simp only;rw[ab,hn];congr 1
   ·simp only;omega
 ·exact h.Si ha ho
theorem Inv.known(h:Inv M G)(ha:FY M G p d i)(hk:(p.kind=1/\p.off=Ag d.msg/\p.body=Be d.msg p.part)\/p.kind=3)(hr:G.seen[i]?=some r)(hs:r.seq=p.seq):Inv M (Dq G i p):=by
 obtain⟨r1,r2,r3,r4,r5,r6,r7,r8,r9⟩:=ha.right;unfold Dq;simp only;rw[Bn hr];split
 ·rename_i h1;split
  ·rename_i hx;rcases hk with ⟨_,ho,hb⟩|q
   ·exact h.gather ha ho hb hr hs h1
   ·omega
  ·exact h
 ·split
  ·exact h.IP ha.right ha.made ha.uid (by decide) (by decide) (by decide) (Or.inr (Or.inr ⟨rfl,rfl⟩))
  ·split
   ·exact h
   ·split
    ·rename_i h3;exact h.tell ha.lt hr h3
    ·split
     ·exact h.IP ha.right ha.made ha.uid (by decide) (by decide) (by decide) (Or.inr (Or.inl rfl))
     ·rcases hk with ⟨_,ho,hb⟩|q
      ·exact h.IP ha.right ha.made ha.uid (by decide) r7 (by omega) (Or.inl ⟨rfl,ho⟩)
      ·contradiction
theorem Mf{sv:List Sv}{u:Int}(h:DC sv u=true):∃(n:Nat) (s:Sv),u=(n:Int)+1/\sv[n]?=some s/\s.alive=true:=by
 unfold DC at h;rw[Bool.and_eq_true,decide_eq_true_eq]at h;cases ha:sv[(u-1).toNat]? with
 |none=>rw[ha]at h;simp at h
 |some s=>
  rw[ha]at h;exact⟨(u-1).toNat,s,by omega,ha,by simpa using h.2⟩
theorem Inv.ask(h:Inv M G)(ha:FY M G p d i)(hk:(p.kind=1/\p.off=Ag d.msg/\p.body=Be d.msg p.part)\/p.kind=3\/p.kind=6):Inv M (JI G i p):=by
 have hr:=h.G8 ha.lt;unfold JI;simp only;generalize AY G i=r at hr ⊢;have aa:=h.ws.sn i r hr;obtain⟨_,_,_,_,ap,_,an,ao,_⟩:=ha.right;split
 ·split
  ·rename_i hx;obtain⟨x1,x2,x3,x4,x5⟩:=hx;obtain⟨b1,b2,b3,b4⟩:=aa.ans x2;have ag:r.seq≠0:=by omega
   obtain⟨d',q⟩:=h.sn i r hr ag;have h2:=h.AB (r':={r with at':=r.at'+1}) hr (Int.le_refl _) ⟨fun e=>absurd e ag,aa.seq,aa.some,aa.Ga,aa.wait,fun _=>⟨b1,b2,by simp only;omega,by simp only;omega⟩,aa.timed⟩ (fun _=>⟨d',q.same rfl rfl rfl rfl rfl⟩);exact h2.tell ha.lt (r:={r with at':=r.at'+1}) (by simp[R.AB,(List.getElem?_eq_some_iff.1 hr).1]) x2
  ·exact h
 ·rename_i h6;have af:(p.kind=1/\p.off=Ag d.msg/\p.body=Be d.msg p.part)\/p.kind=3:=by
   rcases hk with q|q|q
   ·exact Or.inl q
   ·exact Or.inr q
   ·exact absurd q h6
  split
  ·rename_i hs;exact h.known ha af hr hs
  ·split
   ·exact h
   ·split
    ·exact h.IP ha.right ha.made ha.uid (by decide) (by decide) (by decide) (Or.inr (Or.inr ⟨rfl,rfl⟩))
    ·rename_i hs al ac;have ac:DC G.Ab p.uid=true:=by simpa [Ff,DC] using ac
     split
     ·exact h
     ·split
      ·exact h.IP ha.right ha.made ha.uid (by decide) (by decide) (by decide) (Or.inr (Or.inr ⟨rfl,rfl⟩))
      ·have ab:=ha.key;have ai:=(h.bk _ d ha.made).1;have am:=LU ai;have ah:=h.wf.sv;obtain⟨_,_,aj,_,_,ak,_⟩:=ha.right;have h2:=h.AB (r':={Cs with seq:=p.seq,uid:=p.uid,state:=1}) hr (by simp only;omega) ⟨fun e=>by simp only at e;omega,by simp only;omega,fun _=>⟨by rw[<-ha.Ae];exact aj.1,ak,by simp⟩,by simp[Cs],by simp,by simp,by simp[Cs]⟩ (fun _=>⟨d,by rw[<-ab];exact ha.made,ha.uid,fun _=>⟨by simp[Cs],by simp only[Cs];omega⟩,by simp,fun _=>?_,by simp⟩)
       ·exact h2.known (ha.aaq rfl) af (r:={Cs with seq:=p.seq,uid:=p.uid,state:=1}) (by simp[R.AB,(List.getElem?_eq_some_iff.1 hr).1]) rfl
       ·rw[<-ha.uid];refine⟨ac,fun e he ae=>?_⟩;obtain⟨n,s,a1,a2,a3⟩:=Mf ac;rw[a1,J6 a2]at he;have hf:=h.R9 n s e a2 a3 he;rw[<-ab]at ae;simp only[Bl,D4,Key.mk.injEq]at ae;obtain⟨e1,e2,e3,e4⟩:=ae;unfold Mb Nx at hf;rw[e1,e2,e3,e4,<-ha.i,hr]at hf;have hl:=ha.Ae;obtain⟨_,p2,_,p4,_⟩:=ha.right;have ad:i / 3=p.client.toNat:=by have:=ha.i;omega
        rw[ad]at hl;simp only[Option.getD_some]at hf;omega
theorem QT(h:¬p.Ae<G.Aj.getD p.client.toNat 0)(hl:p.client.toNat<G.Aj.length):(Dr G p).Aj.getD p.client.toNat 0=p.Ae:=by
 unfold Dr;split
 ·simp[hl]
 ·omega
theorem Inv.asked(h:Inv M G)(hr:AR p)(hp:OW M G.Ab (-1) p):Inv M (Er G p):=by
 obtain⟨d,hd,hu,hk⟩:=hp;obtain⟨_,p2,_,p4,_⟩:=id hr;have aa:(-1:Int)≠p.client:=by omega
 have ac:(p.kind=1/\p.off=Ag d.msg/\p.body=Be d.msg p.part)\/p.kind=3\/p.kind=6:=by
  rcases hk with ⟨q1,_,q2,q3⟩|⟨_,q,_⟩|⟨q,_⟩|⟨_,q⟩|⟨_,q,_⟩|⟨q,_⟩|⟨_,q,_⟩
  ·exact Or.inl ⟨q1,q2,q3⟩
  ·exact absurd q aa
  ·exact Or.inr (Or.inl q)
  ·exact absurd q aa
  ·exact absurd q aa
  ·exact Or.inr (Or.inr q)
  ·exact absurd q aa
 unfold Er;split
 ·exact h
 ·rename_i hx;have h2:=h.Aj hr hd;refine h2.ask (d:=d) ⟨hr,hd,hu,?_,rfl⟩ ac;have ab:(3*p.client.toNat+p.line.toNat) / 3=p.client.toNat:=by omega
  rw[ab,QT hx (by rw[h.ws.ll];omega)]
theorem Inv.Cr(h:Inv M G)(i:Int):Inv M (Bc G i).2:=by
 unfold Bc;split
 ·exact h
 ·split
  ·exact h
  ·rename_i f hf;have hI:=h.erase i.toNat;have aa:=h.fl f (List.mem_of_getElem? hf);unfold Ma at aa;simp only;split
   ·exact hI
   ·rename_i hb;rw[if_neg hb]at aa;obtain⟨p,q1,q2,q3⟩:=aa;rw[q2,Fx q1];simp only;split
    ·rename_i ht;rw[ht]at q3;exact hI.asked q1 q3
    ·rename_i ht;exact hI.heard q1 ht q3
theorem OH{kind proc:Int}{x:ByteArray×ByteArray}(h:C6 kind proc=some x):proc=0\/proc=1:=by
 unfold C6 at h;split at h
 ·omega
 ·split at h
  ·omega
  ·split at h
   ·omega
   ·split at h
    ·omega
    ·split at h
     ·omega
     ·cases h
theorem YG(h:d.proc=0\/d.proc=1):256*((d.msg.getD 0 0).toNat:Int)+((d.msg.getD 1 0).toNat:Int)=d.proc/\d.msg.drop 2=d.bs:=by
 refine⟨?_,by simp[Cd.msg,A5]⟩;have h1:d.msg.getD 0 0=b8 (d.proc / 256):=by simp[Cd.msg,A5]
 have h2:d.msg.getD 1 0=b8 (d.proc % 256):=by simp[Cd.msg,A5]
 rw[h1,h2,Bj (by omega) (by omega),Bj (by omega) (by omega)];omega
structure OV(M:Bk)(G:Wd)(i:Nat)(r:Sn)(d:Cd)(n:Nat)(s:Sv)(rb:List UInt8):Prop where
 seen:G.seen[i]?=some r
 ne:r.seq≠0
 ok:GF M G.Ab ⟨((i / 3:Nat):Int),G.Aj.getD (i / 3) 0,((i % 3:Nat):Int),r.seq⟩ r d
 cd:L9 G.Ab d
 uid:d.uid=(n:Int)+1
 sv:G.Ab[n]?=some s
 alive:s.alive=true
 sig:C6 s.kind d.proc=some (d.from',d.to)
 byt:Ba d.to (Cu s.kind s.log d.proc d.arg)=some rb
 pos:1<=rb.length
theorem Inv.Tf(h:Inv M G)(hi:i<9)(h2:(AY G i).state=2):∃d n s rb,OV M G i (AY G i) d n s rb:=by
 have hr:=h.G8 hi;generalize AY G i=r at hr h2 ⊢;have af:=h.ws.sn i r hr;have ad:r.seq≠0:=fun e=>by
  rw[af.zero e]at h2;cases h2
 obtain⟨d,q⟩:=h.sn i r hr ad;obtain⟨q1,q2⟩:=q.open' (Or.inr h2);have ac:=(h.bk _ d q.made).1;obtain⟨n,s,a1,a2,a3⟩:=Mf q1;have hk:Io G.Ab d.uid=s.kind:=by
  unfold Io;rw[show (d.uid-1).toNat=n by omega,a2];rfl
 have aa:=ac.sig;rw[hk]at aa;obtain⟨rb,b1,b2⟩:=aaB aa ac.bs (log:=s.log) (fun e he=>by
  obtain⟨d',ag,g1,g2,g3,g4,g5,g6⟩:=((h.lg n s a2).each e he).some;have ab:=(h.bk _ d' g1).1;have ae:Io G.Ab d'.uid=s.kind:=by
   rw[g2];unfold Io;rw[show ((n:Int)+1-1).toNat=n by omega,a2];rfl
  have:=ab.sig;rw[ae]at this;exact⟨d'.from',d'.to,d'.bs,by rw[g3];exact this,by rw[g4];exact ab.bs⟩)
 exact⟨d,n,s,rb,hr,ad,q,ac,a1,a2,a3,aa,b1,b2⟩
def BR(G:Wd)(i:Nat)(r:Sn)(d:Cd)(s:Sv):En:=⟨((i / 3:Nat):Int),G.Aj.getD (i / 3) 0,((i % 3:Nat):Int),r.seq,d.proc,d.arg,Cu s.kind s.log d.proc d.arg⟩
def Gn(G:Wd)(i:Nat)(r:Sn)(d:Cd)(n:Nat)(s:Sv)(rb:List UInt8):Wd:={G with Ab:=G.Ab.set n {s with log:=s.log++[BR G i r d s]},seen:=G.seen.set i {r with state:=3,result:=rb,at':=0}}
theorem OV.eq(h:OV M G i r d n s rb)(h2:r.state=2):Gm G i=Em (Gn G i r d n s rb) i:=by
 have hm:=h.ok.wait h2;have hu:(r.uid-1).toNat=n:=by rw[h.ok.uid,h.uid];omega
 obtain⟨m1,m2⟩:=YG (OH h.sig);unfold Gm;simp only;rw[Bn h.seen,hu,h.sv,hm];simp only[Option.getD_some];rw[m1,h.sig,m2];simp only[Option.getD_some];rw[FK h.cd.bs,h.byt,<-hm];rfl
theorem Inv.Gn(h:Inv M G)(hi:i<9)(hd:OV M G i r d n s rb)(h2:r.state=2):Inv M (Gn G i r d n s rb):=by
 have hn:=(List.getElem?_eq_some_iff.1 hd.sv).1;have al:=(List.getElem?_eq_some_iff.1 hd.seen).1;have ak:=h.ws.sn i r hd.seen;have ah:∀(u:Nat) (s':Sv),(G.Ab.set n {s with log:=s.log++[BR G i r d s]})[u]?=some s'->(u=n/\s'={s with log:=s.log++[BR G i r d s]})\/(u≠n/\G.Ab[u]?=some s'):=fun u s' hu=>by
  rw[List.getElem?_set]at hu;by_cases e:n=u
  ·rw[if_pos e]at hu;simp only[hn,if_true]at hu;exact Or.inl ⟨e.symm,(Option.some.inj hu).symm⟩
  ·rw[if_neg e]at hu;exact Or.inr ⟨fun q=>e q.symm,hu⟩
 have ab:∀(j:Nat) (r':Sn),(G.seen.set i {r with state:=3,result:=rb,at':=0})[j]?=some r'->(j=i/\r'={r with state:=3,result:=rb,at':=0})\/(j≠i/\G.seen[j]?=some r'):=fun j r' hj=>by
  rw[List.getElem?_set]at hj;by_cases e:i=j
  ·rw[if_pos e]at hj;simp only[al,if_true]at hj;exact Or.inl ⟨e.symm,(Option.some.inj hj).symm⟩
  ·rw[if_neg e]at hj;exact Or.inr ⟨fun q=>e q.symm,hj⟩
 have hg:Gr G.Ab (G.Ab.set n {s with log:=s.log++[BR G i r d s]}):=by
  refine⟨by simp,fun u x hx=>?_⟩;by_cases e:n=u
  ·subst e;rw[hd.sv]at hx;cases hx;exact⟨{s with log:=s.log++[BR G i r d s]},by simp[hn],rfl,[BR G i r d s],rfl⟩
  ·exact⟨x,by rw[List.getElem?_set,if_neg e];exact hx,rfl,[],by simp⟩
 have ac:Fs G.Ab d.uid=s.log:=by rw[hd.uid];exact J6 hd.sv
 have aa:Fs (G.Ab.set n {s with log:=s.log++[BR G i r d s]}) d.uid=s.log++[BR G i r d s]:=by
  rw[hd.uid];exact J6 (s:={s with log:=s.log++[BR G i r d s]}) (by simp[hn])
 have aj:=hd.ok.open' (Or.inr h2);have ae:Bl (BR G i r d s)=⟨((i / 3:Nat):Int),G.Aj.getD (i / 3) 0,((i % 3:Nat):Int),r.seq⟩:=rfl;have ag:EW (G.Ab.set n {s with log:=s.log++[BR G i r d s]}) ⟨((i / 3:Nat):Int),G.Aj.getD (i / 3) 0,((i % 3:Nat):Int),r.seq⟩ d (BR G i r d s) rb:=⟨by rw[aa];simp,ae,hd.byt,hd.pos⟩;have ao:=GM hd.byt;have af:(G.Ab.set n {s with log:=s.log++[BR G i r d s]}).length=G.Ab.length:=by simp
 have ad:∀e:En,(Nx G.seen e.client e.line).seq<=(Nx (G.seen.set i {r with state:=3,result:=rb,at':=0}) e.client e.line).seq:=fun e=>by
  unfold Nx;rw[List.getElem?_set];by_cases e':i=3*e.client.toNat+e.line.toNat
  ·rw[<-e',hd.seen];simp[al]
  ·simp[e']
 refine⟨⟨h.wf.cf,h.wf.Gt,fun j c hc=>⟨(h.wf.cl j c hc).lines,(h.wf.cl j c hc).Ae,fun u hu=>by rw[show (R.Gn G i r d n s rb).Ab.length=G.Ab.length from af];exact(h.wf.cl j c hc).bound u hu,(h.wf.cl j c hc).line⟩,h.wf.E3,h.wf.Eo,by rw[show (R.Gn G i r d n s rb).Ab.length=G.Ab.length from af];exact h.wf.sv,fun x hx=>?_,h.wf.nm,h.wf.st,h.wf.nd,fun u hu=>by rw[show (R.Gn G i r d n s rb).Ab.length=G.Ab.length from af];exact h.wf.I5 u hu⟩,⟨h.ws.ll,h.ws.lv,by simpa [R.Gn] using h.ws.sl,fun j r' hj=>?_,h.ws.jl,h.ws.jb⟩,fun k x hx=>⟨(h.bk k x hx).1.grow hg,(h.bk k x hx).2⟩,fun j c k l hc hl=>(h.ln j c k l hc hl).grow (Le.refl M) hg (fun _ q=>q),fun f hf=>(h.fl f hf).grow (Le.refl M) hg,fun j r' hj am=>?_,fun u s' hs=>?_,fun u s' e hs ha he=>?_,h.jb,h.lv⟩
 ·rcases List.mem_or_eq_of_mem_set hx with q|q
  ·exact h.wf.Kh x q
  ·rw[q];exact h.wf.Kh s (List.mem_of_getElem? hd.sv)
 ·rcases ab j r' hj with ⟨rfl,rfl⟩|⟨_,q⟩
  ·refine⟨fun e=>absurd e hd.ne,ak.seq,fun e=>⟨(ak.some e).1,(ak.some e).2.1,by simp⟩,by simp,by simp,fun _=>⟨hd.pos,by simp only;omega,by simp,by have:=De hd.pos;simp only;omega⟩,fun ht=>by have:=(ak.timed ht).1;omega⟩
  ·exact h.ws.sn j r' q
 ·rcases ab j r' hj with ⟨rfl,rfl⟩|⟨an,q⟩
  ·exact⟨d,hd.ok.made,hd.ok.uid,by simp,by simp,by simp,fun _=>⟨_,ag⟩⟩
  ·obtain⟨d',q'⟩:=h.sn j r' q am;refine⟨d',q'.made,q'.uid,q'.Ga,q'.wait,fun hs=>?_,fun hs=>?_⟩
   ·obtain⟨o1,o2⟩:=q'.open' hs;have ap:=(h.bk _ d' q'.made).1.uid;by_cases e:d'.uid=d.uid
    ·rw[e];refine⟨?_,?_⟩
     ·unfold DC;show (decide (1<=d.uid)&&((((G.Ab.set n {s with log:=s.log++[BR G i r d s]}))[(d.uid-1).toNat]?).map (·.alive)).getD false)=true;rw[show (d.uid-1).toNat=n by have:=hd.uid;omega];simp[hn,hd.alive];have:=hd.uid;omega
     ·show ∀e∈Fs (G.Ab.set n {s with log:=s.log++[BR G i r d s]}) d.uid,_;rw[aa];intro x hx;rcases List.mem_append.1 hx with hx|hx
      ·rw[e,ac]at o2;exact o2 x hx
      ·rw[List.mem_singleton.1 hx,ae];intro k;simp only[Key.mk.injEq]at k;omega
    ·have ai:¬n=(d'.uid-1).toNat:=by have:=hd.uid;omega
     have a1:DC (G.Ab.set n {s with log:=s.log++[BR G i r d s]}) d'.uid=DC G.Ab d'.uid:=by
      unfold DC;rw[List.getElem?_set,if_neg ai]
     have a2:Fs (G.Ab.set n {s with log:=s.log++[BR G i r d s]}) d'.uid=Fs G.Ab d'.uid:=by
      unfold Fs;rw[List.getElem?_set,if_neg ai]
     exact⟨a1.trans o1,by
      show ∀e∈Fs (G.Ab.set n {s with log:=s.log++[BR G i r d s]}) d'.uid,_;rw[a2];exact o2⟩
   ·obtain⟨e,he⟩:=q'.ans hs;exact⟨e,he.grow hg⟩
 ·rcases ah u s' hs with ⟨rfl,rfl⟩|⟨_,q⟩
  ·have hl:=h.lg u s hd.sv;refine⟨fun e he=>?_,?_,fun j e he=>?_⟩
   ·rcases List.mem_append.1 he with he|he
    ·exact hl.each e he
    ·rw[List.mem_singleton.1 he];exact⟨d,rb,by rw[ae];exact hd.ok.made,hd.uid,rfl,rfl,hd.byt,hd.pos⟩
   ·rw[List.pairwise_append];refine⟨hl.ord,by simp,fun a ha b hb=>?_⟩;rw[List.mem_singleton.1 hb];intro k1 k2 k3;have hf:=h.R9 u s a hd.sv hd.alive ha;have am:=aj.2 a (by rw[ac];exact ha);simp only[BR]at k1 k2 k3 ⊢;unfold Mb Nx at hf;rw[k1,k2,k3]at hf;simp only[Int.toNat_natCast]at hf;rw[show 3*(i / 3)+i % 3=i by omega,hd.seen]at hf;simp only[Option.getD_some]at hf;have hs:a.seq≠r.seq:=fun e=>am (by simp[Bl,k1,k2,k3,e])
    omega
   ·simp only at he ⊢;rcases Nat.lt_or_ge j s.log.length with hj|hj
    ·rw[List.getElem?_append_left hj]at he;rw[List.take_append_of_le_length (by omega)];exact hl.told j e he
    ·rw[List.getElem?_append_right hj]at he;cases hjn:j-s.log.length with
     |zero=>
      rw[hjn]at he;simp at he;have:j=s.log.length:=by omega
      subst this;rw[<-he];simp[BR]
     |succ m=>rw[hjn]at he;simp at he
  ·exact h.lg u s' q
 ·show Mb G.Aj (G.seen.set i {r with state:=3,result:=rb,at':=0}) e;rcases ah u s' hs with ⟨rfl,rfl⟩|⟨_,q⟩
  ·rcases List.mem_append.1 he with he|he
   ·rcases h.R9 u s e hd.sv hd.alive he with q|⟨q1,q2⟩
    ·exact Or.inl q
    ·exact Or.inr ⟨q1,Int.le_trans q2 (ad e)⟩
   ·rw[List.mem_singleton.1 he];refine Or.inr ⟨?_,?_⟩
    ·simp only[BR,Int.toNat_natCast]
    ·unfold Nx;simp only[BR,Int.toNat_natCast];rw[show 3*(i / 3)+i % 3=i by omega];simp[al]
  ·rcases h.R9 u s' e q ha he with q|⟨q1,q2⟩
   ·exact Or.inl q
   ·exact Or.inr ⟨q1,Int.le_trans q2 (ad e)⟩
theorem Inv.done(h:Inv M G)(hi:i<9)(h2:(AY G i).state=2):Inv M (Gm G i):=by
 obtain⟨d,n,s,rb,hd⟩:=h.Tf hi h2;rw[hd.eq h2];have h3:=h.Gn hi hd h2;exact h3.tell hi (r:={AY G i with state:=3,result:=rb,at':=0}) (by simp[R.Gn,(List.getElem?_eq_some_iff.1 hd.seen).1]) rfl
theorem Inv.ZG:∀(js:List Jb) {G:Wd} (_:Inv M G) (_:∃a,G.jobs=a++js),Inv M (Br G js).2
 |[],G,h,_=>by
  simp only[Br];have ac:=h.wf.cf;unfold BD at ac;exact h.Ni (by simp;omega) (by simp)
 |j :: js,G,h,⟨a,ha⟩=>by
  simp only[Br];have aa:∀x∈j :: js,x∈G.jobs:=fun x hx=>by rw[ha];exact List.mem_append_right _ hx
  have ab:(js.length:Int)<=G.c.table:=by
   have:=h.ws.jl;rw[ha]at this;simp at this;omega
  split
  ·rename_i hw;have h1:=h.Ni (js:=js) ab (fun x hx=>⟨h.ws.jb x (aa x (List.mem_cons_of_mem _ hx)),h.jb x (aa x (List.mem_cons_of_mem _ hx))⟩);have hj:=h.ws.jb j (aa j (List.mem_cons_self));exact h1.done (by omega) hw.1
  ·exact Inv.ZG js h ⟨a++[j],by rw[ha];simp⟩
theorem Inv.BV(h:Inv M G):Inv M (BV G).2:=Inv.ZG G.jobs h ⟨[],rfl⟩
def cnt(l:List Sn):Nat:=(l.filter fun r=>decide (0<r.seq)).length
theorem D9(r:Sn)(l:List Sn):cnt (r :: l)=(if 0<r.seq then 1 else 0)+cnt l:=by
 unfold cnt;rw[List.filter_cons];by_cases h:0<r.seq
 ·simp[h];omega
 ·simp[h]
theorem MB:∀(l:List Sn) (i:Nat) (r':Sn),cnt (l.set i r')<=cnt l+1
 |[],i,r'=>by simp[cnt]
 |r :: l,0,r'=>by
  rw[List.set_cons_zero,D9,D9];split<;>split<;>omega
 |r :: l,i+1,r'=>by
  rw[List.set_cons_succ,D9,D9];have:=MB l i r';omega
theorem JO:∀(l:List Sn) (i:Nat) (r r':Sn),l[i]?=some r->(0<r'.seq->0<r.seq)->cnt (l.set i r')<=cnt l
 |[],i,r,r',h,_=>by simp at h
 |x :: l,0,r,r',h,hs=>by
  simp at h;subst h;rw[List.set_cons_zero,D9,D9];split
  ·rename_i q;rw[if_pos (hs q)];omega
  ·omega
 |x :: l,i+1,r,r',h,hs=>by
  rw[List.set_cons_succ,D9,D9];have:=JO l i r r' (by simpa using h) hs;omega
theorem Pd(G:Wd)(i:Nat)(r':Sn)(hs:0<r'.seq->0<(AY G i).seq):cnt (G.seen.set i r')<=cnt G.seen:=by
 cases h:G.seen[i]? with
 |none=>
  have:G.seen.set i r'=G.seen:=List.set_eq_of_length_le (by simpa using h);rw[this];exact Nat.le_refl _
 |some r=>
  rw[Bn h]at hs;exact JO _ _ r r' h hs
theorem aap(l:List Sn)(f:Sn->Sn)(hf:∀r,(f r).seq=r.seq):cnt (l.map f)=cnt l:=by
 induction l with
 |nil=>rfl
 |cons r l ih=>rw[List.map_cons,D9,D9,ih,hf]
def Room(G:Wd):Prop:=(cnt G.seen:Int)<=G.c.table
theorem Room.of(h:Room G)(hc:G'.c=G.c)(hs:cnt G'.seen<=cnt G.seen):Room G':=by
 unfold Room at *;rw[hc];omega
theorem Room.same(h:Room G)(hc:G'.c=G.c)(hs:G'.seen=G.seen):Room G':=h.of hc (by rw[hs];exact Nat.le_refl _)
theorem Room.send(h:Room G)(to:Int)(p:Pk):Room (Bg G to p):=h.same (Kc G to p) (G9 G to p)
theorem Room.line(h:Room G)(i k:Int)(l:Ln):Room (Am G i k l):=h.same rfl rfl
theorem Room.seen(h:Room G)(i:Nat)(r':Sn)(hs:0<r'.seq->0<(AY G i).seq):Room (AB G i r'):=h.of rfl (Pd G i r' hs)
theorem Room.OE(h:Room G)(i:Nat){r':Sn}(hs:r'.seq=(AY G i).seq):Room (AB G i r'):=h.seen i r' (fun q=>by rw[<-hs];exact q)
theorem Room.result(h:Room G)(i:Nat):Room (AL G i):=h.send _ _
theorem Room.tell(h:Room G)(i:Nat):Room (Em G i):=by
 unfold Em;simp only;exact Room.OE (h.result i) i rfl
theorem Room.Dx(h:Room G)(p:Pk)(a b c:Int):Room (C3 G p a b c):=h.send _ _
theorem Room.Si(h:Room G)(p:Pk):Room (IX G p):=by
 unfold IX;split
 ·exact h.Dx p _ _ _
 ·exact h
theorem Room.gather(h:Room G)(i:Nat)(p:Pk):Room (CL G i p):=by
 unfold CL;simp only;split
 ·split
  ·split
   ·exact h
   ·refine Room.Si ?_ p;exact(h.seen i {AY G i with state:=2,message:=(AY G i).message++p.body,pieces:=(AY G i).pieces+1} (fun q=>q)).same rfl rfl
  ·refine Room.Si ?_ p;exact Room.OE h i rfl
 ·exact h.Si p
theorem Room.known(h:Room G)(i:Nat)(p:Pk):Room (Dq G i p):=by
 unfold Dq;simp only;repeat' split
 ·exact h.gather i p
 ·exact h
 ·exact h.Dx p _ _ _
 ·exact h
 ·exact h.tell i
 ·exact h.Dx p _ _ _
 ·exact h.Dx p _ _ _
theorem Room.Aj(h:Room G)(p:Pk):Room (Dr G p):=by
 unfold Dr;split
 ·have z:∀K:Wd,Room K->∀i,Room (AB K i Cs):=fun K hK i=>hK.seen i Cs (fun q=>by simp[Cs]at q)
  exact(z _ (z _ (z _ h (3*p.client.toNat)) (3*p.client.toNat+1)) (3*p.client.toNat+2)).same rfl rfl
 ·exact h
theorem Room.ask(h:Room G)(i:Nat)(p:Pk)(h0:0<=(AY G i).seq):Room (JI G i p):=by
 unfold JI;simp only;repeat' split
 ·refine Room.tell ?_ i;exact Room.OE h i rfl
 ·exact h
 ·exact h.known i p
 ·exact h
 ·exact h.Dx p _ _ _
 ·exact h
 ·exact h.Dx p _ _ _
 ·rename_i hn;refine Room.known ?_ i p;by_cases hz:(AY G i).seq=0
  ·have aa:¬G.c.table<=(BZ G:Int):=fun q=>hn ⟨hz,q⟩
   have h2:BZ G=cnt G.seen:=rfl;rw[h2]at aa;refine Int.le_trans (Int.ofNat_le.2 (MB G.seen i _)) ?_;show ((cnt G.seen+1:Nat):Int)<=G.c.table;omega
  ·exact h.seen i _ (fun _=>by omega)
theorem Room.heard(h:Room G)(c:Int)(p:Pk):Room (Ee G c p):=by
 unfold Ee Dy ET I1 AA;simp only;repeat' split
 all_goals first
  |exact h
  |exact h.line _ _ _
  |exact h.send _ _
  |exact((h.line _ _ _).send _ _).line _ _ _
  |exact(h.line _ _ _).line _ _ _
theorem Room.Cr(h:Room G)(hI:Inv M G)(i:Int):Room (Bc G i).2:=by
 unfold Bc;split
 ·exact h
 ·split
  ·exact h
  ·rename_i f hf;have h1:Room {G with Ak:=G.Ak.eraseIdx i.toNat}:=h.same rfl rfl;simp only;split
   ·exact h1
   ·split
    ·exact h1
    ·rename_i p _;split
     ·unfold Er;split
      ·exact h1
      ·refine Room.ask (h1.Aj p) _ p ?_;have z:∀(K:Wd) (k:Nat),(∀r∈K.seen,0<=r.seq)->0<=(AY K k).seq:=fun K k hK=>by
        unfold AY;cases hk:K.seen[k]? with
        |none=>simp[Cs]
        |some r=>exact hK r (List.mem_of_getElem? hk)
       have s0:∀r∈G.seen,0<=r.seq:=fun r hr=>by
        obtain⟨k,hk⟩:=List.mem_iff_getElem?.1 hr;exact(hI.ws.sn k r hk).seq.1
       refine z _ _ ?_;unfold Dr;split
       ·intro r hr;rcases List.mem_or_eq_of_mem_set hr with hr|rfl
        ·rcases List.mem_or_eq_of_mem_set hr with hr|rfl
         ·rcases List.mem_or_eq_of_mem_set hr with hr|rfl
          ·exact s0 r hr
          ·simp[Cs]
         ·simp[Cs]
        ·simp[Cs]
       ·exact s0
     ·exact h1.heard _ p
theorem Room.AJ(h:Room G)(i:Nat):Room (AJ G i):=by
 unfold R.AJ;simp only;repeat' split
 ·exact h
 ·exact Room.OE h i rfl
 ·exact Room.OE h i rfl
 ·refine Room.result ?_ i;exact Room.OE h i rfl
theorem Room.AU(h:Room G)(i k:Int):Room (AU G i k):=by
 unfold R.AU AA Fw;simp only;repeat' split
 all_goals first
  |exact h
  |exact h.line _ _ _
  |exact(h.line _ _ _).send _ _
theorem Room.fold{α:Type}(f:Wd->α->Wd)(hf:∀G a,Room G->Room (f G a)):∀(l:List α) (G:Wd),Room G->Room (l.foldl f G)
 |[],_,h=>h
 |a :: l,G,h=>Room.fold f hf l (f G a) (hf G a h)
theorem Room.tick(h:Room G):Room (IB G):=by
 unfold IB EG;refine Room.fold _ (fun K i hK=>hK.AJ i) _ _ ?_;refine Room.fold _ (fun K i hK=>?_) _ _ h;exact Room.fold _ (fun K k hK=>hK.AU _ _) _ _ hK
theorem Room.done(h:Room G)(i:Nat):Room (Gm G i):=by
 unfold Gm;simp only;refine Room.tell ?_ i;exact(h.seen i {AY G i with state:=3,result:=(Ba ((C6 ((G.Ab[((AY G i).uid-1).toNat]?).getD ⟨0,false,[]⟩).kind (256*(((AY G i).message.getD 0 0).toNat:Int)+(((AY G i).message.getD 1 0).toNat:Int))).getD (⟨#[]⟩,⟨#[]⟩)).2 (Cu ((G.Ab[((AY G i).uid-1).toNat]?).getD ⟨0,false,[]⟩).kind ((G.Ab[((AY G i).uid-1).toNat]?).getD ⟨0,false,[]⟩).log (256*(((AY G i).message.getD 0 0).toNat:Int)+(((AY G i).message.getD 1 0).toNat:Int)) (V.D5 ((C6 ((G.Ab[((AY G i).uid-1).toNat]?).getD ⟨0,false,[]⟩).kind (256*(((AY G i).message.getD 0 0).toNat:Int)+(((AY G i).message.getD 1 0).toNat:Int))).getD (⟨#[]⟩,⟨#[]⟩)).1 ((AY G i).message.drop 2)).2)).getD [],at':=0} (fun q=>q)).same rfl rfl
theorem Room.serve(h:Room G):Room (BV G).2:=by
 unfold BV;have:∀(l:List Jb),Room (Br G l).2:=fun l=>by
  induction l with
  |nil=>exact h.same rfl rfl
  |cons j l ih=>
   unfold Br;split
   ·exact Room.done (G:={G with jobs:=l}) (h.same rfl rfl) _
   ·exact ih
 exact this _
theorem Room.ends(h:Room G)(uid:Int):Room (Ch G uid):=by
 refine h.of rfl ?_;unfold Ch;simp only;rw[aap]
 ·exact Nat.le_refl _
 ·intro r;split<;>rfl
theorem Room.export(h:Room G)(name:List UInt8)(kind:Int):Room (Bd G name kind).2:=by
 unfold Bd;repeat' split
 all_goals first
  |exact h
  |exact h.same rfl rfl
  |exact(h.ends _).same rfl rfl
theorem Room.imports(h:Room G)(c:Int)(name:List UInt8):Room (E4 G c name).2:=by
 unfold E4;repeat' split
 all_goals first
  |exact h
  |exact h.same rfl rfl
theorem Room.call(h:Room G)(c l u p:Int)(arg:List It):Room (Cw G c l u p arg).2:=by
 unfold Cw AA;dsimp only;repeat' split
 all_goals first
  |exact h
  |exact(h.line _ _ _).send _ _
theorem Room.Gk(h:Room G)(hc:BD G.c)(aa:Int):Room (Bb G aa).2:=by
 unfold Bb;repeat' split
 ·unfold Room;have:cnt (List.replicate 9 Cs)=0:=by decide
  simp only[this];unfold BD at hc;omega
 ·exact h
 ·exact h
 ·exact h.same rfl rfl
theorem Room.drop(h:Room G)(i:Int):Room (Ej G i).2:=by
 unfold Ej;split
 ·exact h
 ·exact h.same rfl rfl
theorem Room.copy(h:Room G)(i:Int):Room (DG G i).2:=by
 unfold DG;repeat' split
 all_goals first
  |exact h
  |exact h.same rfl rfl
theorem Room.Ji(h:Room G)(i a b:Int):Room (Dt G i a b).2:=by
 unfold Dt;repeat' split
 all_goals first
  |exact h
  |exact h.same rfl rfl
theorem Room.new{c:Cf}(h:Wj c=some G):Room G:=by
 unfold Wj at h;split at h
 ·rename_i hc;cases h;unfold Room;have:cnt (List.replicate 9 Cs)=0:=by decide
  simp only[this];unfold BD at hc;omega
 ·cases h
end Go.Proofs.YtblomippkddgiabGreatDoor.R
