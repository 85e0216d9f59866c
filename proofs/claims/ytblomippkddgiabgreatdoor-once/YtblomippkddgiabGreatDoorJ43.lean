import Derived.Test.YtblomippkddgiabGreatDoorJ42
set_option maxRecDepth 100000
set_option maxHeartbeats 1000000
namespace Go.Proofs.YtblomippkddgiabGreatDoor
open Go.RowKit
variable {F:Aq}{l:List R.En}{b:Nat}{p:Pl}{M:R.Bk}{G:R.Wd}{T:TypeId}{u0 u1 u2 u3 u4 u5 u6:Value}{W w w1 w2:World}
theorem X6{kind:Int}(hl:R.JF kind l)(hk:0<=kind/\kind<=2)(proc:Int)(arg:List R.It):(R.Cu kind l proc arg).length<=9000000000000:=by
 have h4:=R.Jv l;unfold R.Cu;split
 ·simp
 ·split
  ·split
   ·simp
   ·simp only[List.length_cons,List.length_map,List.length_take];omega
  ·have:kind=2:=by omega
   subst this;have h3:=(R.GV l hl (R.IY arg 0) [] (by simp)).1;simp only;split
   ·simp
   ·simp only[List.length_cons];omega
theorem Z1{T':TypeId}{N N':Nat}{x:Value}(h:(T=320/\N=287)\/(T=324/\N=290)\/(T=327/\N=294))(h':(T'=320/\N'=287)\/(T'=324/\N'=290)\/(T'=327/\N'=294))(e:Value.iface T x=Value.iface T' x):N'=N:=by
 cases e;rcases h with ⟨rfl,rfl⟩|⟨rfl,rfl⟩|⟨rfl,rfl⟩<;>rcases h' with ⟨q,rfl⟩|⟨q,rfl⟩|⟨q,rfl⟩<;>first|rfl|(exact absurd q (by decide))
theorem Did.quiet{en:R.En}{K W O:Value}{kind:Int}{out:List R.It}(hw:Works w1 F l b K kind W)(hD:Did w1 F l en b K kind W O out w2){k:Nat}{cu:Array Value}{zz:Nat×Nat}(hk:w1.heap[k]?=some (.cells cu T zz))(h1:Vk T=false)(h2:T≠9):w2.heap[k]?=some (.cells cu T zz):=by
 refine hD.keep.at hk ?_;rintro (e|e)
 ·obtain⟨_,aa,T',q1,q2⟩:=hw.blk;rw[<-e,hk]at q1;cases q1;rw[h1]at q2;cases q2
 ·obtain⟨_,aa,q1⟩:=hw.bkt e;rw[hk]at q1;cases q1;exact h2 rfl
structure Xw(p:Pl)(F:Aq)(w:World)(G:R.Wd)(t:SP)(F':Aq)(w':World):Prop where
 lw:LW {p with t:=t} F' G w'
 went:Ap F F' w w'
 ql:t.ql=p.t.ql
theorem LW.done(h:LW p F G w)(ht:Ec w)(aR:¬F 0)(hI:R.Inv M G){i:Nat}(hi:i<9)(h2:(R.AY G i).state=2):
  Calls Tryz.prog 97 #[ptr p.s,ptr (p.t.ql i)] w fun e w'=>e=.returned (.tuple #[])/\E8 p F w (R.Gm G i) w':=by
 obtain⟨d,n,s,rb,hd⟩:=hI.Tf hi h2;rw[hd.eq h2];generalize R.AY G i=r at hd h2 ⊢;have aE:=hI.Gn hi hd h2;obtain⟨y,hq,bc⟩:=h.q hd.seen hd.ne;obtain⟨z,hz,b9⟩:=KV h.BN.zs hd.sv;subst b9;obtain⟨g,cap,aD,hK,hg,aS,k0,k1,k2,aq,ay,b4,b5⟩:=h.BN.Jt hz;have aC:=h.BN.each z (List.mem_of_getElem? hz);obtain⟨es,he,ad,aJ⟩:=aC.log;have ao:=aC.wk;rw[if_pos hd.alive]at ao;have bd:es.length<=3000000:=by
  have:=hI.PG hd.sv;rw[<-he,List.length_map]at this;exact this
 obtain⟨da,dc,ar⟩:=AX ad;have ai:=h.wf.Kh z.1 (List.mem_of_getElem? hd.sv);have aK:R.JF z.1.kind z.1.log:=fun e he=>by
  obtain⟨d',bf,g1,g2,g3,g4,g5,g6⟩:=((hI.lg n z.1 hd.sv).each e he).some;have ah:=(hI.bk _ d' g1).1;have aX:R.Io G.Ab d'.uid=z.1.kind:=by
   rw[g2];unfold R.Io;rw[show ((n:Int)+1-1).toNat=n by omega,hd.sv];rfl
  have:=ah.sig;rw[aX]at this;exact⟨d'.from',d'.to,d'.bs,by rw[g3];exact this,by rw[g4];exact ah.bs⟩
 obtain⟨en,ab⟩:∃en,en=R.BR G i r d z.1:=⟨_,rfl⟩;have au:en.proc=d.proc:=by rw[ab];rfl
 have am:en.arg=d.arg:=by rw[ab];rfl
 have an:en.result=R.Cu z.1.kind z.1.log d.proc d.arg:=by rw[ab];rfl
 have aL:en.arg≠[]:=by rw[am];exact ab8 hd.sig hd.cd.bs
 have az:en.result≠[]:=by rw[an];exact aaA _ _ _ _
 have hY:=Qb hq.blk;obtain⟨T,N,hT,aF⟩:∃T N,z.2.wk=.iface T (ptr z.2.sb)/\((T=320/\N=287)\/(T=324/\N=290)\/(T=327/\N=294)):=by
  obtain⟨i0,i1,i2⟩:=ao.Pz;have:z.1.kind=0\/z.1.kind=1\/z.1.kind=2:=by omega
  rcases this with e|e|e
  ·exact⟨320,287,i0 e,Or.inl ⟨rfl,rfl⟩⟩
  ·exact⟨324,290,i1 e,Or.inr (Or.inl ⟨rfl,rfl⟩)⟩
  ·exact⟨327,294,i2 e,Or.inr (Or.inr ⟨rfl,rfl⟩)⟩
 have b6:n<p.t.zs.length:=(List.getElem?_eq_some_iff.1 hz).1;have be:p.t.zs.length=G.Ab.length:=by rw[<-h.BN.zs,List.length_map]
 have aQ:=h.wf.sv;have h6:w.cell? ⟨p.s,6,none⟩=some (.slice (some ⟨g,0,none⟩) p.t.zs.length cap):=by
  have:=cell_of h.BN.bs 6 p.t.K rfl;rw[hK]at this;exact this
 have q4:w.cell? ⟨p.t.ql i,4,none⟩=some (.int .i64 ((n:Int)+1)):=by
  rw[hY.a4,hq.rel.uid,hd.ok.uid,hd.uid]
 have q6:w.cell? ⟨p.t.ql i,6,none⟩=some (.string (str d.msg)):=by
  rw[hY.a6,hq.rel.asked (Or.inr h2),hd.ok.wait h2]
 have hE:∀k,Te z g k->F k:=fun k hk=>by
  rcases hk with (rfl|hk)|(hk|rfl)
  ·exact ao.blk.1
  ·exact(ao.bkt hk).1
  ·exact aC.own k hk
  ·exact aS
 let G1:=Bs G (G.Ab.set n {z.1 with log:=z.1.log++[en]}) G.Aj G.seen G.jobs
 let r':R.Sn:={r with state:=3,result:=rb,at':=0}
 have aT:R.Gn G i r d n z.1 rb=R.AB G1 i r':=by
  show R.Gn G i r d n z.1 rb=R.AB (Bs G (G.Ab.set n {z.1 with log:=z.1.log++[en]}) G.Aj G.seen G.jobs) i r';rw[ab];rfl
 rw[aT]at aE ⊢;refine ace w T N aF p.s (p.t.ql i) g n p.t.zs.length cap z.2.sb d.proc en.client en.Ae en.line en.seq z.1.kind d.msg rb da es.length dc (tab EX es)
  (fun O w1=>V.Row w1 w.heap.size O en.arg/\Below w.heap.size w w1)
  (fun O Z w2=>∃w1,V.Row w1 w.heap.size O en.arg/\Below w.heap.size w w1/\Did w1 F z.1.log en z.2.sb z.2.bk z.1.kind z.2.wk Z en.result w2)
  (fun Z w3=>∃t F',Xw p F w G1 t F' w3/\V.Items w3 Z en.result/\w3.cell? ⟨g,n*3,none⟩=some (.int .i64 z.1.kind))
  (fun w4=>∃t F',Xw p F w G1 t F' w4)
  (fun w5=>∃t F' y5,Xw p F w (R.AB G1 i r') t F' w5/\Qe {p with t:=t} (R.AB G1 i r') w5 i r' y5)
  (fun w6=>E8 p F w (R.Em (R.AB G1 i r') i) w6) h6 b6 (by omega) k0 q4 q6 ?_ ?_ ?_ ?_ ?_ ?_ ?_
 ·intro wa hb;refine(NY z.1.kind d.proc d.from' d.to hd.sig d.bs (by have:=R.GM hd.cd.bs;omega) d.arg (R.FK hd.cd.bs) wa (ht.below hb)).mono ?_;rintro e w' ⟨⟨O,rfl,hO⟩,af⟩;obtain⟨oa,on,oc,rfl⟩:=Ar hO;rw[am];exact⟨oa,on,oc,rfl,V.EU hO hb.size,hb.trans ⟨af.os,af.tape,af.output,af.size,fun k hk=>af.block k (Nat.lt_of_lt_of_le hk hb.size)⟩⟩
 ·rintro O w1 ⟨hO,aa⟩;have h1:=h.below aa;have ae:=(h1.BN.each z (List.mem_of_getElem? hz)).wk;rw[if_pos hd.alive]at ae;refine⟨((aa.cell (p:=⟨g,n*3+1,none⟩) (lt_of_block hg)).trans k1).trans (by rw[hT]),?_⟩;obtain⟨T',N',e1,e2,hC⟩:=Z9 (en:=en) ae h1.lt (X:=O) (Nn hO aL).1.items (f:=d.from') (t:=d.to) (bs:=d.bs) (by rw[au];exact hd.sig) (by rw[am];exact hd.cd.bs) aK;rw[hT]at e1;obtain rfl:=Z1 aF e2 e1;rw[au]at hC;refine hC.mono ?_;rintro e w2 ⟨Z,rfl,hD⟩;obtain⟨ra,rn,rc,rfl⟩:=Ar hD.row;refine⟨ra,rn,rc,rfl,w1,hO,aa,?_⟩;rw[an];rw[am]at hD;exact hD
 ·rintro O Z w2 ⟨w1,hO,aa,hD⟩;have h1:=h.below aa;have ae:=(h1.BN.each z (List.mem_of_getElem? hz)).wk;rw[if_pos hd.alive]at ae;have av:w1.heap[g]?=some (.cells aD 99 (0,0)):=(aa.block g (lt_of_block hg)).trans hg;have aH:=hD.quiet ae av rfl (by decide);have ak:=Qb (hD.quiet ae ((aa.block _ (lt_of_block hq.blk)).trans hq.blk) rfl (by decide));have aM:=Bu ad aa;have aN:w2.ownsRow 0 45 7 z.2.dn es.length (tab EX es):=Fy aM (fun j hj=>by
   obtain⟨cu,q⟩:=G7 aM hj;rw[hD.quiet ae q rfl (by decide),q])
  have e2:w2.cell? ⟨g,n*3+2,none⟩=some z.2.dn:=by
   rw[<-k2];simp[World.cell?,aH,hg]
  rw[ar]at e2 aN;have c0:y.client=en.client:=by rw[hq.rel.client,ab];rfl
  have c1:y.Ae=en.Ae:=by rw[hq.rel.Ae,ab];rfl
  have c2:y.line=en.line:=by rw[hq.rel.line,ab];rfl
  have c3:y.seq=en.seq:=by rw[hq.rel.seq,ab];rfl
  have c4:y.uid=(n:Int)+1:=by rw[hq.rel.uid,hd.ok.uid,hd.uid]
  have a0:=ak.a0;have a1:=ak.a1;have a2:=ak.a2;have a3:=ak.a3;have a4:=ak.a4;rw[c0]at a0;rw[c1]at a1;rw[c2]at a2;rw[c3]at a3;rw[c4]at a4;exact⟨e2,aN,by omega,a0,a1,a2,a3,a4,open_list aH⟩
 ·rintro O Z bg w2 wa wz K' va0 _ ⟨w1,hO,aa,hD⟩ aW aI aj aG b7;have h1:=h.below aa;have av:w1.heap[g]?=some (.cells aD 99 (0,0)):=(aa.block g (lt_of_block hg)).trans hg;have b3:=h1.BN.each z (List.mem_of_getElem? hz);have aw:∀y∈es,BF w1 F y.2.1 y.1.arg/\BF w1 F y.2.2 y.1.result:=fun y hy=>⟨(aJ y hy).1.keep (Af.Al aa (fun _=>False)) (fun _ _ _ _ q=>q) (fun _ q=>q),(aJ y hy).2.keep (Af.Al aa (fun _=>False)) (fun _ _ _ _ q=>q) (fun _ q=>q)⟩
  rw[<-ar]at aI aG;have ac:EX (en,O,Z)=[.int .i64 en.client,.int .i64 en.Ae,.int .i64 en.line,.int .i64 en.seq,.int .i64 d.proc,O,Z]:=by rw[<-au];rfl
  rw[<-ac]at aj;obtain⟨p1,p2,p3,t,ql,_,_,hL,aY,ap,ax⟩:=h1.aex hd.sv hd.alive hz rfl hK av ((aa.cell (p:=⟨g,n*3+2,none⟩) (lt_of_block hg)).trans k2) aq ay b4 b5 he (Bu ad aa) aw aa.size hO aL az hD aW aI aj aG b7;rw[ar]at p1;refine⟨p1,p2,p3,t,_,⟨hL,⟨(Af.Al aa F).trans (aY.mono (fun k _ e=>hE k e)),fun k hk=>?_⟩,ql⟩,ap,ax⟩;rcases hk with hk|hk
  ·exact Or.inl hk
  ·exact Or.inr hk.1
 ·rintro Z w3 ⟨t,F',hB,ap,ax⟩;refine⟨ax,(KT z.1.kind d.proc d.from' d.to hd.sig Z en.result w3 (ht.keeps hB.went.keeps aR) ap (by rw[an];exact X6 aK ai _ _)).mono ?_⟩;rintro e w4 ⟨hw,hb⟩;have ag:=hd.byt;rw[<-an]at ag;have h0:=R.DF ag;rcases hw with ⟨_,rfl⟩|⟨q,_⟩
  ·unfold R.Ba at ag;rw[if_pos h0]at ag;cases ag;exact⟨rfl,t,F',hB.lw.below hb,hB.went.trans (Ap.Al F' hb),hB.ql⟩
  ·exact absurd h0 q
 ·rintro w4 ⟨t,F',hB⟩;obtain⟨y4,aA,bb⟩:=hB.lw.q (i:=i) (r:=r) hd.seen hd.ne;have aU:w4.heap[p.t.ql i]?=some (.cells y4.cells.toArray 179 (0,0)):=by
   have:=aA.blk;rw[show ({p with t:=t}:Pl).t.ql=p.t.ql from hB.ql]at this;exact this
  refine(Tj w4 (p.t.ql i) y4 rb aU).mono ?_;rintro e w5 ⟨rfl,aV,aZ⟩;have aO:r.timed=false:=by
   cases hr:r.timed with
   |false=>rfl
   |true=>
    have:=(h.Db.sn i r hd.seen).timed hr;omega
  have al:=aA.rel;have aB:KZ i (G1.Aj.getD (i / 3) 0) r' (aah y4 rb):=⟨al.client,al.Ae,al.line,al.seq,al.uid,rfl,fun q=>(by rcases q with q|q<;>cases q),fun _=>⟨rfl,rfl⟩,(by show (0:Int)=if r.timed=true then r.wait else 0;rw[aO];rfl),fun q=>(by rw[show r'.timed=r.timed from rfl,aO]at q;cases q)⟩;have b1:R.Qg (G1.Aj.getD (i / 3) 0) r':=aE.ws.sn i r' (by
   show (G.seen.set i r')[i]?=some r';rw[List.getElem?_set];simp[(List.getElem?_eq_some_iff.1 hd.seen).1])
  obtain⟨l5,q5,ba⟩:=hB.lw.Ix aA (r':=r') (y':=aah y4 rb) hd.ne (by rw[show ({p with t:=t}:Pl).t.ql=p.t.ql from hB.ql];exact aZ) (by rw[show ({p with t:=t}:Pl).t.ql=p.t.ql from hB.ql];exact aV) aB b1;exact⟨rfl,t,F',_,⟨l5,hB.went.trans ba,hB.ql⟩,q5⟩
 ·rintro w5 ⟨t,F',y5,hB,b2⟩;have:=hB.lw.tell b2 rfl;rw[show ({p with t:=t}:Pl).t.ql=p.t.ql from hB.ql]at this;refine this.mono ?_;rintro e w6 ⟨rfl,aP,hL,hW⟩;exact⟨rfl,t,aP,hL,hB.went.trans hW⟩
structure SvA(p:Pl)(F:Aq)(G:R.Wd)(w:World)(M:R.Bk)(js:List R.Jb)(w1:World):Prop where
 lw:LW p F {G with jobs:=js} w1
 went:Ap F F w w1
 inv:R.Inv M {G with jobs:=js}
 eq:R.BV G=R.Br G js
structure SvB(p:Pl)(F:Aq)(G:R.Wd)(w:World)(M:R.Bk)(j:R.Jb)(js:List R.Jb)(w1:World):Prop where
 lw:LW p F {G with jobs:=js} w1
 went:Ap F F w w1
 inv:R.Inv M {G with jobs:=js}
 eq:R.BV G=R.Br G (j :: js)
 jb:(0<=j.client/\j.client<=2)/\(0<=j.line/\j.line<=2)
 uid:∃d,M ⟨j.client,j.Ae,j.line,j.seq⟩=some d/\j.uid=d.uid
theorem QG(j:R.Jb)(js:List R.Jb):(((j :: js).map PE).toArray).extract 1 (((j :: js).map PE).toArray).size=(js.map PE).toArray:=by
 apply Array.toList_inj.1;rw[Array.toList_extract];simp[List.extract];exact List.take_of_length_le (by simp)
def UL(b:Nat)(w:World):Nat:=match w.heap[b]? with
 |some (.chan _ buf _ _ _ _)=>buf.size
 |_=>0
theorem SvB.below{j:R.Jb}{js:List R.Jb}(h:SvB p F G w M j js w1)(hb:Below w1.heap.size w1 w2):SvB p F G w M j js w2:=⟨h.lw.below hb,h.went.trans (Ap.Al F hb),h.inv,h.eq,h.jb,h.uid⟩
theorem LW.serve(h:LW p F G w)(ht:Ec w)(aq:¬F 0)(hI:R.Inv M G):
  Calls Tryz.prog 56 #[ptr p.s] w fun e w'=>e=.returned (.int .i64 (R.BV G).1)/\E8 p F w (R.BV G).2 w':=by
 refine(Uc w p.s (SvA p F G w M) (SvB p F G w M) (fun j js w1=>SvB p F G w M j js w1/\R.FC G j) (fun w'=>(R.BV G).1=19/\E8 p F w (R.BV G).2 w') (fun w'=>(R.BV G).1=0/\E8 p F w (R.BV G).2 w') (UL p.t.jc) G.jobs ⟨h,Ap.refl F w,hI,rfl⟩ ?_ ?_ ?_ ?_ ?_).mono ?_
 ·intro js w1 hA;obtain⟨a,b,hj⟩:=hA.lw.BN.jobs;unfold UL;rw[hj];simp
 ·intro w1 hA;obtain⟨a,b,hj⟩:=hA.lw.BN.jobs;refine(P5 w1 p.s p.t.jc _ a b (cell_of hA.lw.BN.bs 19 _ rfl) hj).mono ?_;rintro e w2 ⟨rfl,hb⟩;refine⟨rfl,fun wa ad=>?_⟩;rw[hA.eq];have au:Below w1.heap.size w1 wa:=hb.trans ⟨ad.os,ad.tape,ad.output,ad.size,fun k hk=>ad.block k (Nat.lt_of_lt_of_le hk hb.size)⟩;exact⟨rfl,p.t,F,hA.lw.below au,hA.went.trans (Ap.Al F au)⟩
 ·intro j js w1 hA;obtain⟨a,b,hj⟩:=hA.lw.BN.jobs;refine(P6 w1 p.s p.t.jc _ a b _ j.client j.Ae j.line j.seq j.uid (cell_of hA.lw.BN.bs 19 _ rfl) hj (by simp) (by simp[PE])).mono ?_;rintro e w2 ⟨rfl,az,hk⟩;refine⟨rfl,fun wa ad=>?_⟩;have ak:∀x∈js,x∈j :: js:=fun x hx=>List.mem_cons_of_mem _ hx
  have ar:R.Inv M {G with jobs:=js}:=hA.inv.Ni (js:=js) (by
   have:=hA.inv.ws.jl;simp at this;show (js.length:Int)<=G.c.table;omega) (fun x hx=>⟨hA.inv.ws.jb x (ak x hx),hA.inv.jb x (ak x hx)⟩)
  obtain⟨l2,aB⟩:=hA.lw.J5 (js:=js) hk ⟨a,b+1,by rw[az,QG]⟩ ar.ws;have hB:SvB p F G w M j js w2:=⟨l2,hA.went.trans aB,ar,hA.eq,hA.inv.ws.jb j (List.mem_cons_self),hA.inv.jb j (List.mem_cons_self)⟩;exact hB.below ad
 ·intro j js w1 hB;obtain⟨ci,ae⟩:∃ci:Nat,j.client=(ci:Int):=⟨j.client.toNat,by have:=hB.jb;omega⟩;obtain⟨ni,ah⟩:∃ni:Nat,j.line=(ni:Int):=⟨j.line.toNat,by have:=hB.jb;omega⟩;have h3:ci<3:=by have:=hB.jb;omega
  have am:ni<3:=by have:=hB.jb;omega
  have ap:10+ci*3+ni=10+(3*ci+ni):=by omega
  have ag:w1.cell? ⟨p.s,10+ci*3+ni,none⟩=some (Bt p.t G.seen (3*ci+ni)):=by
   rw[ap];exact AP hB.lw.BN.bs (Iw p.t G.seen p.n p.nm G.c G.Aj (i:=3*ci+ni) (by omega))
  have an:3*ci+ni<9:=by omega
  have ac:=hB.inv.G8 an;have aA:R.AY {G with jobs:=js} (3*ci+ni)=R.AY G (3*ci+ni):=rfl;rw[aA]at ac;have ao:3*j.client.toNat+j.line.toNat=3*ci+ni:=by rw[ae,ah];simp
  have ab:R.FC G j↔(R.AY G (3*ci+ni)).state=2/\(R.AY G (3*ci+ni)).seq=j.seq/\G.Aj.getD ci 0=j.Ae:=by
   unfold R.FC;rw[ao,ae];simp
  rw[ae,ah];generalize R.AY G (3*ci+ni)=r at ac ab;have aw:¬R.FC G j->R.BV G=R.Br G js:=fun hn=>by
   rw[hB.eq];simp only[R.Br];rw[if_neg hn]
  by_cases h0:r.seq=0
  ·have hz:=(hB.inv.ws.sn _ r ac).zero h0;have hc:Bt p.t G.seen (3*ci+ni)=.pointer none:=by
    unfold Bt;rw[show G.seen[3*ci+ni]?=some r from ac];simp[h0]
   rw[hc]at ag;have hn:¬R.FC G j:=fun q=>by
    have:=(ab.1 q).1;rw[hz]at this;cases this
   refine(Xl w1 p.s ci ni j.Ae j.seq j.uid h3 am ag).mono ?_;rintro e w2 ⟨rfl,hb⟩;have aa:=hB.below hb;exact⟨hb,Or.inl ⟨rfl,aa.lw,aa.went,aa.inv,aw hn⟩⟩
  ·have hc:Bt p.t G.seen (3*ci+ni)=ptr (p.t.ql (3*ci+ni)):=by
    unfold Bt;rw[show G.seen[3*ci+ni]?=some r from ac];simp[h0]
   rw[hc]at ag;obtain⟨y,hq,_⟩:=hB.lw.q (i:=3*ci+ni) (r:=r) ac h0;have hY:=Qb hq.blk;have ai:=hq.rel;have af:(3*ci+ni) / 3=ci:=by omega
   have al:(3*ci+ni) % 3=ni:=by omega
   have d0:=hY.a0;have d2:=hY.a2;rw[ai.client,af]at d0;rw[ai.line,al]at d2;refine(Ux w1 p.s (p.t.ql (3*ci+ni)) ci ni j.Ae j.seq j.uid y.Ae y.seq y.uid y.state h3 am ag d0 hY.a1 d2 hY.a3 hY.a4 hY.a5).mono ?_;rintro e w2 ⟨rfl,hb⟩;have aa:=hB.below hb;refine⟨hb,?_⟩;have aj:(y.Ae=j.Ae/\y.seq=j.seq/\y.uid=j.uid/\y.state=1)↔R.FC G j:=by
    rw[ab,ai.Ae,ai.seq,ai.uid,ai.state,af];constructor
    ·rintro ⟨q1,q2,q3,q4⟩;exact⟨by omega,q2,q1⟩
    ·rintro ⟨q1,q2,q3⟩;refine⟨q3,q2,?_,by omega⟩;obtain⟨d,hd⟩:=hB.inv.sn _ r ac h0;obtain⟨d',av,hu⟩:=hB.uid;have:=hd.made;rw[af,al]at this;rw[ae,ah,<-q2,<-q3]at av;have e:some d=some d':=this.symm.trans av;cases e;rw[hd.uid,hu]
   by_cases hw:R.FC G j
   ·right;exact⟨by rw[decide_eq_true (aj.2 hw)],aa,hw⟩
   ·left;exact⟨by rw[decide_eq_false (fun q=>hw (aj.1 q))],aa.lw,aa.went,aa.inv,aw hw⟩
 ·rintro j js w1 ⟨hB,hw⟩;obtain⟨ci,ae⟩:∃ci:Nat,j.client=(ci:Int):=⟨j.client.toNat,by have:=hB.jb;omega⟩;obtain⟨ni,ah⟩:∃ni:Nat,j.line=(ni:Int):=⟨j.line.toNat,by have:=hB.jb;omega⟩;have h3:ci<3:=by have:=hB.jb;omega
  have am:ni<3:=by have:=hB.jb;omega
  have ap:10+ci*3+ni=10+(3*ci+ni):=by omega
  have ao:3*j.client.toNat+j.line.toNat=3*ci+ni:=by rw[ae,ah];simp
  have an:3*ci+ni<9:=by omega
  have h2:(R.AY {G with jobs:=js} (3*ci+ni)).state=2:=by
   have:=hw.1;rw[ao]at this;exact this
  have ac:=hB.inv.G8 an;have h0:(R.AY {G with jobs:=js} (3*ci+ni)).seq≠0:=fun e=>by
   rw[(hB.inv.ws.sn _ _ ac).zero e]at h2;cases h2
  have ag:w1.cell? ⟨p.s,10+ci*3+ni,none⟩=some (ptr (p.t.ql (3*ci+ni))):=by
   rw[ap];have:=AP hB.lw.BN.bs (Iw p.t G.seen p.n p.nm G.c G.Aj (i:=3*ci+ni) (by omega));rw[this];unfold Bt;rw[show G.seen[3*ci+ni]?=some _ from ac];simp only[Option.getD_some];rw[if_neg h0]
  refine⟨ci,ni,_,ae,ah,h3,am,ag,?_⟩;have ax:Below w1.heap.size w1 w1.drew:=⟨rfl,rfl,rfl,Nat.le_refl _,fun _ _=>rfl⟩;have aa:=hB.below ax;refine(aa.lw.done (ht.keeps aa.went.keeps aq) aq aa.inv an h2).mono ?_;rintro e w2 ⟨rfl,t,F',hL,hW⟩;have ay:R.BV G=(0,R.Gm {G with jobs:=js} (3*ci+ni)):=by
   rw[hB.eq];simp only[R.Br];rw[if_pos hw,ao]
  rw[ay];exact⟨rfl,rfl,t,F',hL,aa.went.trans hW⟩
 ·rintro e w' (⟨rfl,h1,h2⟩|⟨rfl,h1,h2⟩)
  ·exact⟨by rw[h1],h2⟩
  ·exact⟨by rw[h1],h2⟩
theorem LW.acH(h:LW p F G w)(ht:Ec w)(aa:¬F 0)(hI:R.Inv M G):
  Calls Tryz.prog 30 #[ptr p.x] w fun e w'=>e=.returned (.int .i64 (R.BV G).1)/\E8 p F w (R.BV G).2 w':=by
 have x1:w.cell? ⟨p.x,1,none⟩=some (ptr p.s):=cell_of h.bx 1 _ rfl;have HS:=Ac (h.serve ht aa hI);generalize R.BV G=Z at *;clear h ht hI;go_enter Tryz.func30,Tryz.ntmps30;go_wp2_with (go_at_call 56;refine(Aa HS).mono ?_;rintro e w' ⟨rfl,hw⟩;have HW:=Ac hw;clear hw)
 go_returns;exact⟨rfl,Aa HW⟩
theorem M5(w:World)(s m:Nat)(a:Option Addr)(cap:Nat)(u:Int)(h6:w.cell? ⟨s,6,none⟩=some (.slice a m cap)):Calls Tryz.prog 37 #[ptr s,.int .i64 u] w fun e w'=>e=.returned (.bool (decide (1<=u/\u<=(m:Int))))/\Below w.heap.size w w':=by
 refine(J7 w s m a cap u h6).mono ?_;rintro e w' ⟨rfl,rfl⟩;exact⟨rfl,Below.refl _ _⟩
theorem acs(w:World)(s m:Nat)(a:Option Addr)(cap:Nat)(u:Int)(h6:w.cell? ⟨s,6,none⟩=some (.slice a m cap))(hu:¬(1<=u/\u<=(m:Int))):
  Calls Tryz.prog 20 #[ptr s,.int .i64 u] w fun e w'=>e=.returned (.tuple #[.int .i64 0,.int .i64 9])/\Below w.heap.size w w':=by
 have H:=M5 w s m a cap u h6;rw[decide_eq_false hu]at H;have HM:=Ac H;clear H hu;go_enter Tryz.func20,Tryz.ntmps20;go_wp2_with (go_at_call 37;refine(Aa HM).mono ?_;rintro e w1 ⟨rfl,aa⟩;have HB:=Ac aa;clear aa)
 go_returns;exact⟨rfl,Aa HB⟩
theorem aa1(w:World)(s g m cap u:Nat)(da:Option Addr)(dl dc:Nat)(h6:w.cell? ⟨s,6,none⟩=some (.slice (some ⟨g,0,none⟩) m cap))(hu:u<m)(hm:m<=255)(h2:w.cell? ⟨g,u*3+2,none⟩=some (.slice da dl dc)):
  Calls Tryz.prog 20 #[ptr s,.int .i64 ((u:Int)+1)] w fun e w'=>e=.returned (.tuple #[.int .i64 (dl:Int),.int .i64 0])/\Below w.heap.size w w':=by
 have H:=M5 w s m (some ⟨g,0,none⟩) cap ((u:Int)+1) h6;rw[decide_eq_true (by omega)]at H;have HM:=Ac H;have ae:=lt_of_cell h6;have ad:=lt_of_cell h2;have HV:Hid (∀w1,Below w.heap.size w w1->w1.cell? ⟨g,u*3+2,none⟩=some (.slice da dl dc)/\Calls Tryz.prog 38 #[ptr s,.int .i64 ((u:Int)+1)] w1 fun e w'=>e=.returned (.pointer (some ⟨g,u*3,none⟩))/\w'=w1):=fun w1 hb=>⟨(hb.cell (p:=⟨g,u*3+2,none⟩) ad).trans h2,Ey w1 s g u m cap ((hb.cell (p:=⟨s,6,none⟩) ae).trans h6) hu hm⟩
 clear H;go_enter Tryz.func20,Tryz.ntmps20;go_wp2_with (first
  |(go_at_call 37;refine(Aa HM).mono ?_;rintro e w1 ⟨rfl,aa⟩;obtain⟨d2,hv⟩:=(Aa HV) w1 aa;have HB:=Ac aa;have ac:=Ac hv;clear aa hv)
  |(go_at_call 38;refine(Aa ac).mono ?_;rintro e w2 ⟨rfl,ab⟩;rw[ab];clear ab))
 go_returns;exact⟨rfl,Aa HB⟩
theorem LW.aed(h:LW p F G w)(u:Int):
  Calls Tryz.prog 20 #[ptr p.s,.int .i64 u] w fun e w'=>e=.returned (.tuple #[.int .i64 (R.I4 G u).1,.int .i64 (R.I4 G u).2])/\Below w.heap.size w w':=by
 have ae:p.t.zs.length=G.Ab.length:=by rw[<-h.BN.zs,List.length_map]
 have ab:=h.wf.sv;unfold R.I4;by_cases hm:R.Ip G u
 ·rw[if_pos hm];unfold R.Ip at hm;obtain⟨n,rfl⟩:∃n:Nat,u=(n:Int)+1:=⟨(u-1).toNat,by omega⟩;have hn:n<G.Ab.length:=by omega
  have hs:G.Ab[n]?=some G.Ab[n]:=List.getElem?_eq_getElem hn;obtain⟨z,hz,ad⟩:=KV h.BN.zs hs;obtain⟨g,cap,af,hK,hg,ag,k0,k1,k2,_⟩:=h.BN.Jt hz;obtain⟨es,he,aa,_⟩:=(h.BN.each z (List.mem_of_getElem? hz)).log;obtain⟨da,dc,ac⟩:=AX aa;rw[ac]at k2;have h6:w.cell? ⟨p.s,6,none⟩=some (.slice (some ⟨g,0,none⟩) p.t.zs.length cap):=by
   have:=cell_of h.BN.bs 6 p.t.K rfl;rw[hK]at this;exact this
  have hl:(R.Ho G ((n:Int)+1)).length=es.length:=by
   unfold R.Ho;rw[show ((n:Int)+1-1).toNat=n by omega,hs,<-ad];simp only[Option.map_some,Option.getD_some];rw[<-he,List.length_map]
  rw[hl];exact aa1 w p.s g p.t.zs.length cap n da es.length dc h6 (by omega) (by omega) k2
 ·rw[if_neg hm];unfold R.Ip at hm;obtain⟨a,c,hK⟩:=AX h.BN.made;have h6:w.cell? ⟨p.s,6,none⟩=some (.slice a p.t.zs.length c):=by
   have:=cell_of h.BN.bs 6 p.t.K rfl;rw[hK]at this;exact this
  exact acs w p.s p.t.zs.length a c u h6 (by rw[ae];exact hm)
theorem LW.log(h:LW p F G w)(u:Int):
  Calls Tryz.prog 9 #[ptr p.x,.int .i64 u] w fun e w'=>e=.returned (.tuple #[.int .i64 (R.I4 G u).1,.int .i64 (R.I4 G u).2])/\Below w.heap.size w w':=by
 have x1:w.cell? ⟨p.x,1,none⟩=some (ptr p.s):=cell_of h.bx 1 _ rfl;have HS:=Ac (h.aed u);generalize R.I4 G u=Z at *;clear h;go_enter Tryz.func9,Tryz.ntmps9;go_wp2_with (go_at_call 20;refine(Aa HS).mono ?_;rintro e w' ⟨rfl,hw⟩;have HW:=Ac hw;clear hw)
 go_returns;exact⟨rfl,Aa HW⟩
def UR:List Value:=[.int .i64 0,.int .i64 0,.int .i64 0,.int .i64 0,.int .i64 0,.slice none 0 0,.slice none 0 0]
abbrev acI(w:World)(b:Nat)(v0 v1 v2 v3 v4 v5 v6:Value):World:=((((((w.setCell ⟨b,0,none⟩ v0).setCell ⟨b,1,none⟩ v1).setCell ⟨b,2,none⟩ v2).setCell ⟨b,3,none⟩ v3).setCell ⟨b,4,none⟩ v4).setCell ⟨b,5,none⟩ v5).setCell ⟨b,6,none⟩ v6
structure En7(w0:World)(b:Nat)(v0 v1 v2 v3 v4 v5 v6:Value)(W:World):Prop where
 c0:W.cell? ⟨b,0,none⟩=some v0
 c1:W.cell? ⟨b,1,none⟩=some v1
 c2:W.cell? ⟨b,2,none⟩=some v2
 c3:W.cell? ⟨b,3,none⟩=some v3
 c4:W.cell? ⟨b,4,none⟩=some v4
 c5:W.cell? ⟨b,5,none⟩=some v5
 c6:W.cell? ⟨b,6,none⟩=some v6
 z:∀j,W.frozen? ⟨b,j,none⟩=false
 keep:Af (fun k=>k=b) w0 W
theorem GR{w0:World}{v0 v1 v2 v3 v4 v5 v6:Value}(h:W.heap[b]?=some (.cells #[v0,v1,v2,v3,v4,v5,v6] 45 (0,0)))(hk:Af (fun k=>k=b) w0 W):En7 w0 b v0 v1 v2 v3 v4 v5 v6 W:=
 ⟨cell_of h 0 _ rfl,cell_of h 1 _ rfl,cell_of h 2 _ rfl,cell_of h 3 _ rfl,cell_of h 4 _ rfl,cell_of h 5 _ rfl,cell_of h 6 _ rfl,fun _=>open_list h,hk⟩
theorem ZI(h:w.heap[b]?=some (.cells #[u0,u1,u2,u3,u4,u5,u6] 45 (0,0)))(v0 v1 v2 v3 v4 v5 v6:Value):(acI w b v0 v1 v2 v3 v4 v5 v6).heap[b]?=some (.cells #[v0,v1,v2,v3,v4,v5,v6] 45 (0,0)):=by
 have e0:=Ai (cs:=[u0,u1,u2,u3,u4,u5,u6]) (off:=0) h v0;have e1:=Ai (off:=1) e0 v1;have e2:=Ai (off:=2) e1 v2;have e3:=Ai (off:=3) e2 v3;have e4:=Ai (off:=4) e3 v4;have e5:=Ai (off:=5) e4 v5;exact Ai (off:=6) e5 v6
theorem WU(w:World)(b:Nat)(v0 v1 v2 v3 v4 v5 v6:Value):Af (fun k=>k=b) w (acI w b v0 v1 v2 v3 v4 v5 v6):=((((((Ah _).trans (Ah _)).trans (Ah _)).trans (Ah _)).trans (Ah _)).trans (Ah _)).trans (Ah _)
theorem IG(h:w.heap[b]?=some (.cells #[u0,u1,u2,u3,u4,u5,u6] 45 (0,0)))(v0 v1 v2 v3 v4 v5 v6:Value):En7 w b v0 v1 v2 v3 v4 v5 v6 (acI w b v0 v1 v2 v3 v4 v5 v6):=GR (ZI h v0 v1 v2 v3 v4 v5 v6) (WU w b v0 v1 v2 v3 v4 v5 v6)
theorem Gh(hb:Below w.heap.size w w1)(hk:Af (fun k=>k=w.heap.size) w1 W):Below w.heap.size w W:=hb.trans ⟨hk.os,hk.tape,hk.output,hk.size,fun k aa=>hk.block k (Nat.lt_of_lt_of_le aa hb.size) (by omega)⟩
theorem Ku(hb:Below (w.alloc (.cells UR.toArray 45)).heap.size (w.alloc (.cells UR.toArray 45)) w1):w1.heap[w.heap.size]?=some (.cells #[.int .i64 0,.int .i64 0,.int .i64 0,.int .i64 0,.int .i64 0,.slice none 0 0,.slice none 0 0] 45 (0,0))/\Below w.heap.size w w1:=
 ⟨(hb.block _ (by simp)).trans (heap_alloc_new w _),((Below.refl _ _).alloc (Nat.le_refl _) _).trans ⟨hb.os,hb.tape,hb.output,hb.size,fun k hk=>hb.block k (by simp;omega)⟩⟩
theorem Yc(w:World)(s:Nat)(u k n er:Int)(h:∀wa,Below w.heap.size w wa->Calls Tryz.prog 20 #[ptr s,.int .i64 u] wa fun e w'=>e=.returned (.tuple #[.int .i64 n,.int .i64 er])/\Below wa.heap.size wa w')(ab:er≠0\/k<0\/n<=k):
  Calls Tryz.prog 21 #[ptr s,.int .i64 u,.int .i64 k] w fun e w'=>e=.returned (.tuple #[.agg UR.toArray,.int .i64 9])/\Below w.heap.size w w':=by
 have HL:=Ac (h (w.alloc (.cells UR.toArray 45)) ((Below.refl _ _).alloc (Nat.le_refl _) _));clear h;by_cases h1:er=0
 ·subst h1;by_cases h2:k<0
  ·clear ab;go_enter Tryz.func21,Tryz.ntmps21;go_wp2_with (go_at_call 20;refine(Aa HL).mono ?_;rintro e w1 ⟨rfl,aa⟩;obtain⟨b1,b4⟩:=Ku aa;obtain⟨f0,f1,f2,f3,f4,f5,f6,fz,_⟩:=GR b1 (Af.refl _ w1);have ac:=lt_of_block b1;have HX:=Ac b1;have HB:=Ac b4;clear aa b4 b1)
   refine AQ _ (IG (Aa HX) (.int .i64 0) (.int .i64 0) (.int .i64 0) (.int .i64 0) (.int .i64 0) (.slice none 0 0) (.slice none 0 0)) ?_;rintro W ⟨g0,g1,g2,g3,g4,g5,g6,gz,gk⟩;have HK:=Ac gk;clear gk;go_wp2
   (try simp only[Exit.inBlock,Exit.then])
   refine bodyPost_ret (by simp[results,Tryz.results21,go_sem,g0,g1,g2,g3,g4,g5,g6];try rfl) rfl ?_;exact⟨rfl,Gh (Aa HB) (Aa HK)⟩
  ·have h3:n<=k:=by omega
   have h4:¬k<n:=by omega
   clear ab;go_enter Tryz.func21,Tryz.ntmps21;go_wp2_with (go_at_call 20;refine(Aa HL).mono ?_;rintro e w1 ⟨rfl,aa⟩;obtain⟨b1,b4⟩:=Ku aa;obtain⟨f0,f1,f2,f3,f4,f5,f6,fz,_⟩:=GR b1 (Af.refl _ w1);have ac:=lt_of_block b1;have HX:=Ac b1;have HB:=Ac b4;clear aa b4 b1)
   refine AQ _ (IG (Aa HX) (.int .i64 0) (.int .i64 0) (.int .i64 0) (.int .i64 0) (.int .i64 0) (.slice none 0 0) (.slice none 0 0)) ?_;rintro W ⟨g0,g1,g2,g3,g4,g5,g6,gz,gk⟩;have HK:=Ac gk;clear gk;go_wp2
   (try simp only[Exit.inBlock,Exit.then])
   refine bodyPost_ret (by simp[results,Tryz.results21,go_sem,g0,g1,g2,g3,g4,g5,g6];try rfl) rfl ?_;exact⟨rfl,Gh (Aa HB) (Aa HK)⟩
 ·have e1:(er != 0)=true:=by simpa using h1
  clear ab;go_enter Tryz.func21,Tryz.ntmps21;go_wp2_with (go_at_call 20;refine(Aa HL).mono ?_;rintro e w1 ⟨rfl,aa⟩;obtain⟨b1,b4⟩:=Ku aa;obtain⟨f0,f1,f2,f3,f4,f5,f6,fz,_⟩:=GR b1 (Af.refl _ w1);have ac:=lt_of_block b1;have HX:=Ac b1;have HB:=Ac b4;clear aa b4 b1)
  refine AQ _ (IG (Aa HX) (.int .i64 0) (.int .i64 0) (.int .i64 0) (.int .i64 0) (.int .i64 0) (.slice none 0 0) (.slice none 0 0)) ?_;rintro W ⟨g0,g1,g2,g3,g4,g5,g6,gz,gk⟩;have HK:=Ac gk;clear gk;go_wp2
  (try simp only[Exit.inBlock,Exit.then])
  refine bodyPost_ret (by simp[results,Tryz.results21,go_sem,g0,g1,g2,g3,g4,g5,g6];try rfl) rfl ?_;exact⟨rfl,Gh (Aa HB) (Aa HK)⟩
end Go.Proofs.YtblomippkddgiabGreatDoor
