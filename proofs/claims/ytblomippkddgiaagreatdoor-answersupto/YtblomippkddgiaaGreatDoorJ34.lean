import Derived.Test.YtblomippkddgiaaGreatDoorJ33
import Derived.Test.YtblomippkddgiaaGreatDoorJ29
set_option maxRecDepth 100000
set_option maxHeartbeats 2000000
namespace Go.Proofs.YtblomippkddgiaaGreatDoor.R
open Go.Proofs.Tryz
theorem Oq:∀(N:Nat) (l:List Nat),l.Nodup->(∀x∈l,x<N)->l.length<=N
 |0,[],_,_=>Ar _
 |0,x :: l,_,h=>absurd (h x Ev) U
 |N+1,l,hn,h=>by
  by_cases g:N∈l
  ·have j:=Oq N (l.erase N) (hn.erase N) (λx f=>by
    have q:=(hn.mem_erase_iff).1 f;have:=h x q.2;omega)
   have m:=List.length_erase_of_mem g;have u:=List.length_pos_of_mem g;omega
  ·have j:=Oq N l hn (λx f=>by
    have:=h x f;have:x≠N:=λe=>g (e ▸ f)
    omega)
   omega
def code(e:En):Nat:=((e.DJ.toNat*256+e.DR.toNat)*3+e.DZ.toNat)*1000+e.D4.toNat
theorem Inv.Xo{M:Bk}{G:Wd}(h:Inv M G){n:Nat}{s:Sv}(D:G.Dy[n]?=some s):s.log.length<=3000000:=by
 have hl:=h.lg n s D;have g:=h.wf.cf;unfold GA at g;have f:∀e∈s.log,(0<=e.DJ/\e.DJ<=2)/\(1<=e.DR/\e.DR<=255)/\(0<=e.DZ/\e.DZ<=2)/\1<=e.D4/\e.D4<=999:=λe j=>by
  have⟨d,rb,g1,_⟩:=(hl.each e j).some;have⟨i,c,k,l,T,u,X,Q,q5,q6,q7,q8,_⟩:=(h.bk _ d g1).2;have hi:=GG u;have hk:=GG Q;have hc:=h.wf.cl i c u;have w:=h.wf.N5;have y:=hc.DV;have B:=hc.DR
  grind [Oc]
 have m:(s.log.map code).Nodup:=by
  rw[List.Nodup,List.pairwise_map];refine hl.ord.imp_of_mem (λ{a b} ha hb' hab e=>?_);have w:=f a ha;have y:=f b hb';unfold code at e;have B:=hab U U U;omega
 have:=Oq 2400000 _ m (λx O=>by
  obtain⟨e,j,rfl⟩:=Cy.1 O;have:=f e j;unfold code;omega)
 rw[AX]at this;omega
end Go.Proofs.YtblomippkddgiaaGreatDoor.R
namespace Go.Proofs.YtblomippkddgiaaGreatDoor
open Go.Proofs.Tryz
open Go.RowKit
variable {F:D9}{n:Int}{l:List R.En}{b g k u:Nat}{p:Pl}{M:R.Bk}{en:R.En}{s:R.Sv}{G:R.Wd}{T:TypeId}{O u0 u1 u2 u3 u4 u5 u6 v0 v1 v2 v3 v4 v5 v6:Value}{W w w1 w2:World}
theorem sW{S:List R.Sv}(e:S[u]?=some s)(l:List R.En)(k:Nat):((S.set u {s with log:=l})[k]?).map (·.Dz)=(S[k]?).map (·.Dz):=by grind
theorem mD(e:G.Dy[u]?=some s){c:R.Cl}{x:Int}:GY (Hu G (G.Dy.set u {s with log:=l}) G.DX G.DN G.EF) c x=GY G c x:=by
 unfold GY GU;show (if x∈c.Ee then some ((((G.Dy.set u {s with log:=l})[(x-1).toNat]?).map (·.Dz)).getD 0) else none)=_;rw[sW e]
theorem adf(h:R.Wf G)(f:G.Dy[u]?=some s):R.Wf (Hu G (G.Dy.set u {s with log:=l}) G.DX G.DN G.EF):=by
 refine⟨h.cf,h.N5,λi c hc=>⟨(h.cl i c hc).DV,(h.cl i c hc).DR,λx e=>?_,(h.cl i c hc).DZ⟩,h.JC,h.JX,by simpa using h.sv,λy j=>?_,h.nm,h.st,h.nd,λx e=>?_⟩
 ·have:=(h.cl i c hc).Ee x e;simpa using this
 all_goals grind [R.Wf]
theorem jw(Dz:Int)(l:List R.En)(Eo:Int)(arg:List R.It):R.Hw Dz l Eo arg≠[]:=by grind [R.Hw]
theorem qG{Dz Eo:Int}{f t:Ab}{arg:List R.It}{bs:Ac}(h:R.IY Dz Eo=some (f,t))(e:R.Fi f arg=some bs):arg≠[]:=by grind [R.IY,R.qF,R.qD,R.jf,R.qE,R.je]
theorem yO(h:TP T=true):TJ T=false:=by
 simp only[TP,aY,Bool.or_eq_true,beq_iff_eq]at h;rcases h with (((((h|h)|h)|h)|h)|h)<;>rw[h]<;>rfl
theorem LW.agd(h:LW p F G w1){n:Nat}(hs:G.Dy[n]?=some s)(ha:s.Fj=true){z:R.Sv×MV}(hz:p.t.zs[n]?=some z)(bT:z.1=s){cap:Nat}{aa:Array Value}(hK:p.t.K=EJ g p.t.zs.length cap)(hg:w1.heap[g]?=some (.cells aa 213 (0,0)))(k2:w1.cell? (Y g (n*3+2))=some z.2.dn)(aN:p.t.zs.length<=cap)(b4:cap<=maxLen)(bz:aa.size=cap*3)(bL:aa.toList.take (p.t.zs.length*3)=tab Om p.t.zs)
  {es:List (R.En×Value×Value)} (he:es.map (·.1)=s.log) (b6:w1.ownsRow 0 98 7 z.2.dn es.length (tab IQ es)) (bi:∀y∈es,Gg w1 F y.2.1 y.1.arg/\Gg w1 F y.2.2 y.1.DU)
  {B:Nat} (hB:B<=w1.heap.size) {Zq K':Ad} {wa f:Aa} {o:Obj} {va0:Nat} (hO:V.Row w1 B O en.arg) (bp:en.arg≠[]) (b5:en.DU≠[]) (hD:kz w1 F s.log en z.2.sb z.2.bk s.Dz z.2.wk Zq en.DU w2) (aw:DY w2 wa) (b2:(wa.alloc o).grownBy f z.2.dn.ownBlock) (ah:f.ownsRow 0 98 7 K' (es.length+1) (tab IQ es++IQ (en,O,Zq))) (av:K'.ownBlock=z.2.dn.ownBlock\/K'.ownBlock=some va0) (cg:w2.heap.size<=va0):
  f.cell? (Y g (n*3+2))=some z.2.dn/\f.frozen? (Y g (n*3+2))=false/\g<f.heap.size/\∃t,t.ql=p.t.ql/\t.K=p.t.K/\t.zs.length=p.t.zs.length/\LW {p with t:=t} (λk=>F k\/(B<=k/\k<f.heap.size)) (Hu G (G.Dy.set n {s with log:=s.log++[en]}) G.DX G.DN G.EF) (f.setCell (Y g (n*3+2)) K')/\DF (lM z g) w1 (f.setCell (Y g (n*3+2)) K')/\V.Ff (f.setCell (Y g (n*3+2)) K') Zq en.DU/\(f.setCell (Y g (n*3+2)) K').cell? (Y g (n*3))=some (Z s.Dz):=by
 subst bT;have b9:=h.Hd.ju hz ha hg;have c8:=Dv hg;have ce:=hD.keep.size;have ca:=aw.size;have bt:=b2.size;simp only[Cx]at bt;have br:(f.setCell (Y g (n*3+2)) K').heap.size=f.heap.size:=Ev;have⟨Q,_,_⟩:=(⟨(h.Hd.each z (Ap hz)).wk,BR,BR⟩:_/\True/\True);rw[Ay ha]at Q;have bg:¬(g=z.2.sb\/z.2.bk.ownBlock=some g):=by
  rintro (e|e)
  ·have⟨_,D,T,m,q2⟩:=Q.blk;rw[<-e,hg]at m;cases m;cases q2
  ·have⟨_,D,m⟩:=Q.bkt e;rw[hg]at m;cases m
 have aV:=hD.keep.at hg bg;have X:∀k,z.2.dn.ownBlock=some k->∃D,w1.heap[k]?=some (.cells D 98 (0,0))/\w2.heap[k]?=some (.cells D 98 (0,0)):=λk hk=>by
  have⟨D,q⟩:=NC b6 hk;refine⟨D,q,hD.keep.at q ?_⟩;rintro (e|e)
  ·have⟨_,an,T,m,q2⟩:=Q.blk;rw[<-e,q]at m;cases m;cases q2
  ·have⟨_,an,m⟩:=Q.bkt e;rw[q]at m;cases m
 have kA:=((DF.D6 aw _).alloc _).grown b2 (λk hk=>Aj hk);have ae:f.heap[g]?=some (.cells aa 213 (0,0)):=kA.at aV (λe=>by
  have⟨D,q,_⟩:=X g e;rw[hg]at q;cases q)
 have kB:=DF.setCell (F:=λk=>z.2.dn.ownBlock=some k\/k=g) (p:=(Y g (n*3+2))) (kA.mono (λk _ e=>Aj e)) (Aj (Am rfl)) K';have k3:=(hD.keep.mono (λk _ e=>Aj e)).trans (kB.mono (λk _ e=>Am e));have b3:=h.lt;have hF:∀k,F k->(λk=>F k\/(B<=k/\k<f.heap.size)) k:=λk hk=>Aj hk
 have ac:∀{b:Nat} {D:Array Value} {T:Ag},w2.heap[b]?=some (.cells D T (0,0))->T≠98->T≠213->¬(z.2.dn.ownBlock=some b\/b=g):=λ{b D T} hb h1 h2 hE=>by
  rcases hE with e|e
  ·have⟨_,_,q⟩:=X b e;rw[hb]at q;cases q;exact h1 rfl
  ·rw[e,aV]at hb;cases hb;exact h2 rfl
 have⟨am,ak,az⟩:=hD.afY;have bS:Fp (f.setCell (Y g (n*3+2)) K') (λk=>F k\/(B<=k/\k<f.heap.size)) (z.1.log++[en]) z.2.sb am z.1.Dz z.2.wk:=by
  refine ak.Ub kB ?_ (λj hj=>?_) (λb D _ hb=>ac hb Em Em) (λk hk=>?_)
  ·have⟨_,D,T,m,q2⟩:=ak.blk;refine ac m (λe=>?_) (λe=>?_)
   ·rw[e]at q2;cases q2
   ·rw[e]at q2;cases q2
  ·have⟨_,D,m⟩:=ak.bkt hj;exact ac m Em Em
  ·rcases hk with hk|hk
   ·exact Aj hk
   ·exact Am ⟨U,U⟩
 have⟨o1,o2⟩:=ND hO bp;have⟨r1,r2⟩:=ND hD.row b5;have be:Gg (f.setCell (Y g (n*3+2)) K') (λk=>F k\/(B<=k/\k<f.heap.size)) O en.arg:=o1.keep k3 (λb D _ hb hE=>by
  have⟨an,T,m,q2⟩:=b9 b hE;rw[hb]at m;cases m;cases q2) (λk hk=>by
   have:=o2 k hk;exact Am ⟨U,U⟩)
 have ar:Gg (f.setCell (Y g (n*3+2)) K') (λk=>F k\/(B<=k/\k<f.heap.size)) Zq en.DU:=r1.keep kB (λb D _ hb=>ac hb Em Em) (λk hk=>by
   have:=r2 k hk;exact Am ⟨U,U⟩)
 have bb:K'.ownBlock≠some g:=λe=>by
  rcases av with q|q
  ·rw[e]at q;have⟨D,m,_⟩:=X g q.symm;rw[hg]at m;cases m
  ·rw[e]at q;cases q;omega
 have bq:(f.setCell (Y g (n*3+2)) K').ownsRow 0 98 7 K' (es.length+1) (tab IQ (es++[(en,O,Zq)])):=by
  rw[Jn];exact Jl ah (λj hj=>AU _ _ _ _ (λe=>bb (by rw[hj];exact CG some e)))
 have b1:=Ek (cs:=aa.toList) (off:=n*3+2) ae K';have aS:K'.ownBlock=z.2.dn.ownBlock\/∃j,K'.ownBlock=some j/\w1.heap.size<=j/\(λk=>F k\/(B<=k/\k<f.heap.size)) j:=by
  rcases av with q|q
  ·exact Aj q
  ·have:=(Ba ah va0 q).2;exact Am ⟨va0,q,U,Am ⟨U,this⟩⟩
 have b7:=h.Hd.did b3 hz ha hK hg aN b4 bz bL k3 b1 hF bS az he bi bq be ar aS;have hL:=h.OW b7 k3 (λb hE=>by
  have⟨D,T,m,q2⟩:=b9 b hE;exact Aj ⟨D,T,_,m,yO q2⟩) hF (λk hk=>by
   rw[br];rcases hk with hk|hk
   ·have:=b3 k hk;omega
   ·exact hk.2) (adf h.wf hs) h.GQ (λi c _ x=>mD hs)
 have e2:f.cell? (Y g (n*3+2))=some z.2.dn:=by
  rw[<-k2];simp[World.cell?,ae,hg]
 have⟨gg,cc,D,aq,c7,_,bV,_⟩:=h.Hd.PG hz;rw[hK]at aq;cases aq;refine⟨e2,Eb ae,Dv ae,{p.t with zs:=p.t.zs.set n (Vn z en K' am)},rfl,rfl,Ev,hL,k3,ar.Gz,?_⟩;have e3:(f.setCell (Y g (n*3+2)) K').cell? (Y g (n*3))=w1.cell? (Y g (n*3)):=by
  simp[World.cell?,b1,hg]
 rw[e3];exact bV
theorem rC{Dz:Int}(hl:R.OI Dz l)(hk:0<=Dz/\Dz<=2)(Eo:Int)(arg:List R.It):(R.Hw Dz l Eo arg).length<=9000000000000:=by grind [R.PK,R.Hw,R.Nz]
theorem xK{j:Ag}{N f:Nat}{x:Ad}(h:(T=328/\N=287)\/(T=331/\N=290)\/(T=334/\N=294))(m:(j=328/\f=287)\/(j=331/\f=290)\/(j=334/\f=294))(e:Value.iface T x=Value.iface j x):f=N:=by grind
theorem kz.quiet{K W:Ad}{Dz:Int}{out:List R.It}(B:Fp w1 F l b K Dz W)(j:kz w1 F l en b K Dz W O out w2){h:Array Value}{f:Nat×Nat}(hk:w1.heap[k]?=some (.cells h T f))(m:aY T=false)(y:T≠9):w2.heap[k]?=some (.cells h T f):=by
 refine j.keep.at hk ?_;rintro (e|e);all_goals grind [Fp.blk,Fp.bkt]
structure pY(p:Pl)(F:D9)(w:Aa)(G:R.Wd)(t:SP)(F':D9)(w':Aa):Prop where
 lw:LW {p with t:=t} F' G w'
 Nl:D8 F F' w w'
 ql:t.ql=p.t.ql
theorem LW.done{p:Pl}(h:LW p F G w)(ht:JI w)(bS:¬F 0)(hI:R.Inv M G){i:Nat}(hi:i<9)(h2:(R.EZ G i).DK=2):
  D7 83 #[ptr p.s,ptr (p.t.ql i)] w Ep λw'=>NM p F w (R.Oa G i) w':=by
 obtain⟨d,n,s,rb,hd⟩:=hI.W9 hi h2;rw[hd.eq h2];generalize R.EZ G i=r at hd h2 ⊢;have b9:=hI.Lr hi hd h2;obtain⟨y,hq,cR⟩:=h.q hd.DN hd.ne;obtain⟨z,hz,ct⟩:=Rv h.Hd.zs hd.sv;subst ct;obtain⟨g,cap,cL,hK,hg,bT,k0,k1,k2,be,bp,ci,co⟩:=h.Hd.PG hz;have b1:=h.Hd.each z (Ap hz);obtain⟨es,he,ae,bg⟩:=b1.log;have b2:=b1.wk;rw[Ay hd.Fj]at b2;have cT:es.length<=3000000:=by
  have:=hI.Xo hd.sv
  grind
 obtain⟨da,dc,aq⟩:=Fa ae;have aS:=h.wf.R7 z.1 (Ap hd.sv);have bj:R.OI z.1.Dz z.1.log:=λe he=>by
  obtain⟨d',d6,g1,g2,g3,g4,g5,g6⟩:=((hI.lg n z.1 hd.sv).each e he).some;have hcd':=(hI.bk _ d' g1).1;have hk':R.NQ G.Dy d'.D5=z.1.Dz:=by
   rw[g2];unfold R.NQ;rw[show ((n:Int)+1-1).toNat=n by omega,hd.sv];rfl
  exact abZ
 obtain⟨en,B⟩:∃en,en=R.Gx G i r d z.1:=⟨_,rfl⟩;have av:en.Eo=d.Eo:=by rw[B];rfl
 have ar:en.arg=d.arg:=by rw[B];rfl
 have aw:en.DU=R.Hw z.1.Dz z.1.log d.Eo d.arg:=by rw[B];rfl
 have bq:en.arg≠[]:=by rw[ar];exact qG hd.sig hd.cd.bs
 have br:en.DU≠[]:=by rw[aw];exact jw _ _ _ _
 have hY:=X8 hq.blk;obtain⟨T,N,hT,ba⟩:∃T N,z.2.wk=.iface T (ptr z.2.sb)/\((T=328/\N=287)\/(T=331/\N=290)\/(T=334/\N=294)):=by grind [Fp.Xj]
 have cp:=GG hz;have hzl:p.t.zs.length=G.Dy.length:=by rw[<-h.Hd.zs,AX]
 have Lp:=h.wf.sv;have h6:w.cell? (Y p.s 6)=some (EJ g p.t.zs.length cap):=by
  exact kt
 have q4:w.cell? ⟨p.t.ql i,4,none⟩=some (Z ((n:Int)+1)):=by
  rw[hY.a4,hq.rel.D5,hd.ok.D5,hd.D5]
 have q6:w.cell? ⟨p.t.ql i,6,none⟩=some (.string (str d.J9)):=by
  rw[hY.a6,hq.rel.Gn (Am h2),hd.ok.El h2]
 have hE:∀k,lM z g k->F k:=λk hk=>by
  rcases hk with (rfl|hk)|(hk|rfl)
  ·exact b2.blk.1
  ·exact(b2.bkt hk).1
  ·exact b1.own k hk
  ·exact bT
 let G1:=Hu G (G.Dy.set n {z.1 with log:=z.1.log++[en]}) G.DX G.DN G.EF
 let r':R.Sn:={r with DK:=3,DU:=rb,at':=0}
 have bU:R.Lr G i r d n z.1 rb=R.EA G1 i r':=by grind [R.Lr,R.EA]
 rw[bU]at b9 ⊢;refine acV w T N ba p.s (p.t.ql i) g n p.t.zs.length cap z.2.sb d.Eo en.DJ en.DR en.DZ en.D4 z.1.Dz d.J9 rb da es.length dc (tab IQ es)
  (λO w1=>V.Row w1 w.heap.size O en.arg/\DY w w1)
  (λO Zq w2=>∃w1,V.Row w1 w.heap.size O en.arg/\DY w w1/\kz w1 F z.1.log en z.2.sb z.2.bk z.1.Dz z.2.wk Zq en.DU w2)
  (λZq w3=>∃t Q,pY p F w G1 t Q w3/\V.Ff w3 Zq en.DU/\w3.cell? (Y g (n*3))=some (Z z.1.Dz))
  (λw4=>∃t Q,pY p F w G1 t Q w4)
  (λw5=>∃t Q y5,pY p F w (R.EA G1 i r') t Q w5/\Yd {p with t:=t} (R.EA G1 i r') w5 i r' y5)
  (λw6=>NM p F w (R.JF (R.EA G1 i r') i) w6) h6 cp U k0 q4 q6 ?_ ?_ ?_ ?_ ?_ ?_ ?_
 ·intro wa hb;refine(Vp z.1.Dz d.Eo d.LO d.to hd.sig d.bs (by have:=R.Nq hd.cd.bs;omega) d.arg (R.Kq hd.cd.bs) wa (ht.DG hb)).mono ?_;rintro e w' ⟨⟨O,rfl,hO⟩,aa⟩;obtain⟨oa,on,oc,rfl⟩:=Ei hO;rw[ar];exact⟨oa,on,oc,rfl,V.GL hO hb.size,hb.trans ⟨aa.os,aa.tape,aa.output,aa.size,λk hk=>aa.block k (Ai hk hb.size)⟩⟩
 ·rintro O w1 ⟨hO,m⟩;have h1:=h.DG m;have D:=(h1.Hd.each z (Ap hz)).wk;rw[Ay hd.Fj]at D;refine⟨((m.cell (p:=(Y g (n*3+1))) (Dv hg)).trans k1).trans (by rw[hT]),?_⟩;obtain⟨T',N',e1,e2,hC⟩:=xT (en:=en) D h1.lt (X:=O) (ND hO bq).1.Gz (f:=d.LO) (t:=d.to) (bs:=d.bs) (by rw[av];exact hd.sig) (by rw[ar];exact hd.cd.bs) bj;rw[hT]at e1;obtain rfl:=xK ba e2 e1;rw[av]at hC;refine hC.mono ?_;rintro e w2 ⟨Zq,rfl,hD⟩;obtain⟨ra,rn,rc,rfl⟩:=Ei hD.row
  grind
 ·rintro O Zq w2 ⟨w1,hO,m,hD⟩;have h1:=h.DG m;have D:=(h1.Hd.each z (Ap hz)).wk;rw[Ay hd.Fj]at D;have az:=(m.block g (Dv hg)).trans hg;have cU:=hD.quiet D az rfl Em;have ac:=X8 (hD.quiet D ((m.block _ (Dv hq.blk)).trans hq.blk) rfl Em);have bt:=ER ae m;have ch:w2.ownsRow 0 98 7 z.2.dn es.length (tab IQ es):=Jl bt (λj hj=>by
   obtain⟨cu,q⟩:=NC bt hj;rw[hD.quiet D q rfl Em,q])
  have e2:w2.cell? (Y g (n*3+2))=some z.2.dn:=by grind [World.cell?]
  rw[aq]at e2 ch;have c0:y.DJ=en.DJ:=by rw[hq.rel.DJ,B];rfl
  have c1:y.DR=en.DR:=by rw[hq.rel.DR,B];rfl
  have c2:y.DZ=en.DZ:=by rw[hq.rel.DZ,B];rfl
  have c3:y.D4=en.D4:=by rw[hq.rel.D4,B];rfl
  have c4:y.D5=(n:Int)+1:=by rw[hq.rel.D5,hd.ok.D5,hd.D5]
  have a0:=ac.a0;have a1:=ac.a1;have a2:=ac.a2;have a3:=ac.a3;have a4:=ac.a4
  grind [Eb]
 ·rintro O Zq d8 w2 wa wz K' d7 _ ⟨w1,hO,m,hD⟩ c7 bf ak bb cq;have h1:=h.DG m;have az:=(m.block g (Dv hg)).trans hg;have cC:=h1.Hd.each z (Ap hz);have bi:∀y∈es,Gg w1 F y.2.1 y.1.arg/\Gg w1 F y.2.2 y.1.DU:=λy hy=>⟨(bg y hy).1.keep (DF.D6 m (λ_=>False)) (λ_ _ _ _ q=>q) (λ_ q=>q),(bg y hy).2.keep (DF.D6 m (λ_=>False)) (λ_ _ _ _ q=>q) (λ_ q=>q)⟩
  rw[<-aq]at bf bb;have ah:IQ (en,O,Zq)=[Z en.DJ,Z en.DR,Z en.DZ,Z en.D4,Z d.Eo,O,Zq]:=by rw[<-av];rfl
  rw[<-ah]at ak;obtain⟨p1,p2,p3,t,ql,_,_,hL,ca,an,aN⟩:=h1.agd hd.sv hd.Fj hz rfl hK az ((m.cell (p:=(Y g (n*3+2))) (Dv hg)).trans k2) be bp ci co he (ER ae m) bi m.size hO bq br hD c7 bf ak bb cq;rw[aq]at p1;refine⟨p1,p2,p3,t,_,⟨hL,⟨(DF.D6 m F).trans (ca.mono (λk _ e=>hE k e)),λk hk=>?_⟩,ql⟩,an,aN⟩
  grind
 ·rintro Zq w3 ⟨t,Q,hB,an,aN⟩;refine⟨aN,(Rt z.1.Dz d.Eo d.LO d.to hd.sig Zq en.DU w3 (ht.E0 hB.Nl.E0 bS) an (by rw[aw];exact rC bj aS _ _)).mono ?_⟩;rintro e w4 ⟨hw,hb⟩;have ab:=hd.byt;rw[<-aw]at ab;have h0:=R.JK ab;rcases hw with ⟨_,rfl⟩|⟨q,_⟩
  ·unfold R.Fi at ab;rw[Ay h0]at ab;cases ab;exact⟨rfl,t,Q,hB.lw.DG hb,hB.Nl.trans (D8.D6 Q hb),hB.ql⟩
  ·exact absurd h0 q
 ·rintro w4 ⟨t,Q,hB⟩;obtain⟨y4,aV,cQ⟩:=hB.lw.q (i:=i) (r:=r) hd.DN hd.ne;have bW:w4.heap[p.t.ql i]?=some (.cells y4.cells.toArray 147 (0,0)):=by
   have:=aV.blk;rw[show ({p with t:=t}:Pl).t.ql=p.t.ql from hB.ql]at this;exact this
  refine cm (dE w4 (p.t.ql i) y4 rb bW) ?_;rintro w5 ⟨bX,cc⟩;have bz:r.E1=false:=by
   cases hr:r.E1 with
   |false=>rfl
   |true=>
    have:=(h.GQ.sn i r hd.DN).E1 hr;omega
  have ad:=aV.rel;have hrel:PT i (G1.DX.getD (i / 3) 0) r' (yo y4 rb):=⟨ad.DJ,ad.DR,ad.DZ,ad.D4,ad.D5,rfl,λq=>(by rcases q with q|q<;>cases q),λ_=>⟨rfl,rfl⟩,(by show (0:Int)=if r.E1=true then r.El else 0;rw[bz];rfl),λq=>(by rw[show r'.E1=r.E1 from rfl,bz]at q;cases q)⟩;have ce:R.Tm (G1.DX.getD (i / 3) 0) r':=b9.ws.sn i r' (by
   show (G.DN.set i r')[i]?=some r';rw[Bf];simp[(GG hd.DN)])
  obtain⟨l5,q5,cy⟩:=hB.lw.Oy aV (r':=r') (y':=yo y4 rb) hd.ne (by rw[show ({p with t:=t}:Pl).t.ql=p.t.ql from hB.ql];exact cc) (by rw[show ({p with t:=t}:Pl).t.ql=p.t.ql from hB.ql];exact bX) hrel ce;exact⟨rfl,t,Q,_,⟨l5,hB.Nl.trans cy,hB.ql⟩,q5⟩
 ·rintro w5 ⟨t,Q,y5,hB,cg⟩;have:=hB.lw.tell cg rfl;rw[show ({p with t:=t}:Pl).t.ql=p.t.ql from hB.ql]at this;refine cm this ?_;rintro w6 ⟨bL,hL,hW⟩;exact⟨rfl,t,bL,hL,hB.Nl.trans hW⟩
structure SvA(p:Pl)(F:D9)(G:R.Wd)(w:Aa)(M:R.Bk)(js:List R.Jb)(w1:Aa):Prop where
 lw:LW p F {G with EF:=js} w1
 Nl:D8 F F w w1
 inv:R.Inv M {G with EF:=js}
 eq:R.FQ G=R.Hy G js
structure SvB(p:Pl)(F:D9)(G:R.Wd)(w:Aa)(M:R.Bk)(j:R.Jb)(js:List R.Jb)(w1:Aa):Prop where
 lw:LW p F {G with EF:=js} w1
 Nl:D8 F F w w1
 inv:R.Inv M {G with EF:=js}
 eq:R.FQ G=R.Hy G (j :: js)
 jb:(0<=j.DJ/\j.DJ<=2)/\(0<=j.DZ/\j.DZ<=2)
 D5:∃d,M ⟨j.DJ,j.DR,j.DZ,j.D4⟩=some d/\j.D5=d.D5
theorem YO(j:R.Jb)(js:List R.Jb):(((j :: js).map Xn).toArray).extract 1 (((j :: js).map Xn).toArray).size=(js.map Xn).toArray:=by
 apply Array.toList_inj.1;rw[Array.toList_extract];simp[List.extract];exact A7 Ev
def jo(b:Nat)(w:Aa):Nat:=match w.heap[b]? with
 |some (.chan _ buf _ _ _ _)=>buf.size
 |_=>0
theorem SvB.DG{j:R.Jb}{js:List R.Jb}(h:SvB p F G w M j js w1)(e:DY w1 w2):SvB p F G w M j js w2:=⟨h.lw.DG e,h.Nl.trans (D8.D6 F e),h.inv,h.eq,h.jb,h.D5⟩
theorem LW.serve(h:LW p F G w)(ht:JI w)(aN:¬F 0)(hI:R.Inv M G):
  D7 48 #[ptr p.s] w (Z (R.FQ G).1) λw'=>NM p F w (R.FQ G).2 w':=by
 refine(gQ w p.s (SvA p F G w M) (SvB p F G w M) (λj js w1=>SvB p F G w M j js w1/\R.Km G j) (λw'=>(R.FQ G).1=19/\NM p F w (R.FQ G).2 w') (λw'=>(R.FQ G).1=0/\NM p F w (R.FQ G).2 w') (jo p.t.jc) G.EF ⟨h,D8.refl F w,hI,rfl⟩ ?_ ?_ ?_ ?_ ?_).mono ?_
 ·intro js w1 Q;have⟨a,b,hj⟩:=Q.lw.Hd.EF;unfold jo;rw[hj];simp
 ·intro w1 Q;have⟨a,b,hj⟩:=Q.lw.Hd.EF;refine cm (XX w1 p.s p.t.jc _ a b (EI Q.lw.Hd.bs 19) hj) λw2 hb=>?_
  refine⟨rfl,λwa X=>?_⟩;rw[Q.eq];have aV:=hb.trans ⟨X.os,X.tape,X.output,X.size,λk hk=>X.block k (Ai hk hb.size)⟩;exact⟨rfl,p.t,F,Q.lw.DG aV,Q.Nl.trans (D8.D6 F aV)⟩
 ·intro j js w1 Q;have⟨a,b,hj⟩:=Q.lw.Hd.EF;refine cm (XY w1 p.s p.t.jc _ a b _ j.DJ j.DR j.DZ j.D4 j.D5 (EI Q.lw.Hd.bs 19) hj Ev (by simp[Xn])) ?_;rintro w2 ⟨bb,hk⟩;refine⟨rfl,λwa X=>?_⟩;have aq:∀x∈js,x∈j :: js:=λx hx=>BQ _ hx
  have aS:R.Inv M {G with EF:=js}:=Q.inv.QZ (js:=js) (by
   have:=Q.inv.ws.jl;simp at this;show (js.length:Int)<=G.c.FF;omega) (λx hx=>⟨Q.inv.ws.jb x (aq x hx),Q.inv.jb x (aq x hx)⟩)
  have⟨l2,bg⟩:=Q.lw.Qh (js:=js) hk ⟨a,b+1,by rw[bb,YO]⟩ aS.ws;have hB:SvB p F G w M j js w2:=⟨l2,Q.Nl.trans bg,aS,Q.eq,Q.inv.ws.jb j (Co),Q.inv.jb j (Co)⟩;exact hB.DG X
 ·intro j js w1 hB;obtain⟨f,aa⟩:∃f:Nat,j.DJ=(f:Int):=⟨j.DJ.toNat,by have:=hB.jb;omega⟩;obtain⟨m,ad⟩:∃m:Nat,j.DZ=(m:Int):=⟨j.DZ.toNat,by have:=hB.jb;omega⟩;have h3:f<3:=by have:=hB.jb;omega
  have ak:m<3:=by have:=hB.jb;omega
  have av:10+f*3+m=10+(3*f+m):=U;have ac:w1.cell? (Y p.s (10+f*3+m))=some (Gh p.t G.DN (3*f+m)):=by
   rw[av];exact E7 hB.lw.Hd.bs (Ox p.t G.DN p.n p.nm G.c G.DX (i:=3*f+m) U)
  have al:3*f+m<9:=U;have D:=hB.inv.K6 al;have be:R.EZ {G with EF:=js} (3*f+m)=R.EZ G (3*f+m):=rfl;rw[be]at D;have am:3*j.DJ.toNat+j.DZ.toNat=3*f+m:=by rw[aa,ad];simp
  have ab:R.Km G j↔(R.EZ G (3*f+m)).DK=2/\(R.EZ G (3*f+m)).D4=j.D4/\G.DX.getD f 0=j.DR:=by
   unfold R.Km;rw[am,aa];simp
  rw[aa,ad];generalize R.EZ G (3*f+m)=r at D ab;have b3:¬R.Km G j->R.FQ G=R.Hy G js:=λhn=>by
   rw[hB.eq];simp only[R.Hy];rw[Ao hn]
  by_cases h0:r.D4=0
  ·have hz:=(hB.inv.ws.sn _ r D).zero h0;have hc:Gh p.t G.DN (3*f+m)=.pointer none:=by
    unfold Gh;rw[show G.DN[3*f+m]?=some r from D];simp[h0]
   rw[hc]at ac;have hn:¬R.Km G j:=λq=>by
    have:=(ab.1 q).1;rw[hz]at this;cases this
   refine cm (pJ w1 p.s f m j.DR j.D4 j.D5 h3 ak ac) λw2 hb=>?_
   have B:=hB.DG hb;exact⟨hb,Aj ⟨rfl,B.lw,B.Nl,B.inv,b3 hn⟩⟩
  ·have hc:Gh p.t G.DN (3*f+m)=ptr (p.t.ql (3*f+m)):=by
    unfold Gh;rw[show G.DN[3*f+m]?=some r from D];simp[h0]
   rw[hc]at ac;have⟨y,hq,_⟩:=hB.lw.q (i:=3*f+m) (r:=r) D h0;have hY:=X8 hq.blk;have ae:=hq.rel;have ah:(3*f+m) / 3=f:=U;have ar:(3*f+m) % 3=m:=U;have d0:=hY.a0;have d2:=hY.a2;rw[ae.DJ,ah]at d0;rw[ae.DZ,ar]at d2;refine cm (iN w1 p.s (p.t.ql (3*f+m)) f m j.DR j.D4 j.D5 y.DR y.D4 y.D5 y.DK h3 ak ac d0 hY.a1 d2 hY.a3 hY.a4 hY.a5) λw2 hb=>?_
   have B:=hB.DG hb;refine⟨hb,?_⟩;have ao:(y.DR=j.DR/\y.D4=j.D4/\y.D5=j.D5/\y.DK=1)↔R.Km G j:=by
    rw[ab,ae.DR,ae.D4,ae.D5,ae.DK,ah];constructor
    ·rintro ⟨q1,q2,q3,q4⟩;exact⟨U,q2,q1⟩
    ·rintro ⟨q1,q2,q3⟩;refine⟨q3,q2,?_,U⟩;have⟨d,hd⟩:=hB.inv.sn _ r D h0;have⟨d',b1,hu⟩:=hB.D5;have:=hd.Gw;rw[ah,ar]at this;rw[aa,ad,<-q2,<-q3]at b1;have e:=this.symm.trans b1;cases e;rw[hd.D5,hu]
   by_cases hw:R.Km G j
   ·right;exact⟨by rw[decide_eq_true (ao.2 hw)],B,hw⟩
   ·left;exact⟨by rw[decide_eq_false (λq=>hw (ao.1 q))],B.lw,B.Nl,B.inv,b3 hw⟩
 ·rintro j js w1 ⟨hB,hw⟩;obtain⟨f,aa⟩:∃f:Nat,j.DJ=(f:Int):=⟨j.DJ.toNat,by have:=hB.jb;omega⟩;obtain⟨m,ad⟩:∃m:Nat,j.DZ=(m:Int):=⟨j.DZ.toNat,by have:=hB.jb;omega⟩;have h3:f<3:=by have:=hB.jb;omega
  have ak:m<3:=by have:=hB.jb;omega
  have av:10+f*3+m=10+(3*f+m):=U;have am:3*j.DJ.toNat+j.DZ.toNat=3*f+m:=by rw[aa,ad];simp
  have al:3*f+m<9:=U;have h2:(R.EZ {G with EF:=js} (3*f+m)).DK=2:=by
   have:=hw.1;rw[am]at this;exact this
  have D:=hB.inv.K6 al;have h0:(R.EZ {G with EF:=js} (3*f+m)).D4≠0:=λe=>by
   rw[(hB.inv.ws.sn _ _ D).zero e]at h2;cases h2
  have ac:w1.cell? (Y p.s (10+f*3+m))=some (ptr (p.t.ql (3*f+m))):=by
   rw[av];have:=E7 hB.lw.Hd.bs (Ox p.t G.DN p.n p.nm G.c G.DX (i:=3*f+m) U);rw[this];unfold Gh;rw[show G.DN[3*f+m]?=some _ from D];simp only[Bw];rw[Ao h0]
  refine⟨f,m,_,aa,ad,h3,ak,ac,?_⟩;have b9:DY w1 w1.drew:=⟨rfl,rfl,rfl,Ar _,λ_ _=>rfl⟩;have B:=hB.DG b9;refine cm (B.lw.done (ht.E0 B.Nl.E0 aN) aN B.inv al h2) ?_;rintro w2 ⟨t,F',hL,hW⟩;have ba:R.FQ G=(0,R.Oa {G with EF:=js} (3*f+m)):=by
   rw[hB.eq];simp only[R.Hy];rw[Ay hw,am]
  rw[ba];exact⟨rfl,rfl,t,F',hL,B.Nl.trans hW⟩
 ·rintro e w' (⟨rfl,h1,h2⟩|⟨rfl,h1,h2⟩)
  ·exact⟨by rw[h1],h2⟩
  ·exact⟨by rw[h1],h2⟩
theorem LW.adD(h:LW p F G w)(j:JI w)(e:¬F 0)(f:R.Inv M G):
  D7 22 #[ptr p.x] w (Z (R.FQ G).1) λy=>NM p F w (R.FQ G).2 y:=by
 have x1:=EI h.bx 1;have B:=Dx (h.serve j e f);generalize R.FQ G=Zq at *;clear h j f;go_enter func22,ntmps22;go_wp2_with (go_at_call 48;refine cm B λy m=>?_;have D:=Dx m;clear m)
 go_returns;exact⟨rfl,D⟩
theorem Uk(w:Aa)(s m:Nat)(a:Af)(cap:Nat)(u:Int)(e:EB w s 6 (.slice a m cap)):D7 131 #[ptr s,Z u] w (.bool (decide (1<=u/\u<=(m:Int)))) λf=>DY w f:=by
 refine cs (Uj w s m a cap u e) ?_;exact⟨rfl,AA _ _⟩
theorem ade(w:Aa)(s m:Nat)(a:Af)(cap:Nat)(u:Int)(j:EB w s 6 (.slice a m cap))(hu:¬(1<=u/\u<=(m:Int))):
  D7 79 #[ptr s,Z u] w (.tuple #[Z 0,Z 9]) λy=>DY w y:=by
 have H:=Uk w s m a cap u j;rw[decide_eq_false hu]at H;have h:=Dx H;clear H hu;go_enter func79,ntmps79;go_wp2_with (go_at_call 131;refine cm h λw1 e=>?_;have f:=Dx e;clear e)
 go_returns;exact⟨rfl,f⟩
theorem zw(w:Aa)(s g m cap u:Nat)(Q:Af)(h X:Nat)(j:EB w s 6 (EJ g m cap))(hu:u<m)(hm:m<=255)(h2:EB w g (u*3+2) (.slice Q h X)):
  D7 79 #[ptr s,Z ((u:Int)+1)] w (.tuple #[Z h,Z 0]) λD=>DY w D:=by
 have H:=Uk w s m (some (Y g 0)) cap ((u:Int)+1) j;rw[decide_eq_true U]at H;have HM:=Dx H;have⟨B,y⟩:=KM j h2;have HV:Hid (∀w1,DY w w1->EB w1 g (u*3+2) (.slice Q h X)/\D7 132 #[ptr s,Z ((u:Int)+1)] w1 (.pointer (some (Y g (u*3)))) λD=>D=w1):=λw1 hb=>⟨(hb.cell (p:=(Y g (u*3+2))) y).trans h2,Nc w1 s g u m cap ((hb.cell (p:=Y s 6) B).trans j) hu hm⟩
 clear H;go_enter func79,ntmps79;go_wp2_with (first
  |(go_at_call 131;refine cm HM λw1 e=>?_;have⟨d2,hv⟩:=HV w1 e;have HB:=Dx e;have f:=Dx hv;clear e hv)
  |(go_at_call 132;refine cs f ?_))
 go_returns;exact⟨rfl,HB⟩
theorem LW.ae8(h:LW p F G w)(u:Int):
  D7 79 #[ptr p.s,Z u] w (.tuple #[Z (R.MJ G u).1,Z (R.MJ G u).2]) λw'=>DY w w':=by
 have hzl:p.t.zs.length=G.Dy.length:=by rw[<-h.Hd.zs,AX]
 have Lp:=h.wf.sv;unfold R.MJ;by_cases f:R.LY G u
 ·rw[Ay f];unfold R.LY at f;obtain⟨n,rfl⟩:∃n:Nat,u=(n:Int)+1:=⟨(u-1).toNat,U⟩;have hn:n<G.Dy.length:=U;have Q:=Ah hn;have⟨z,hz,X⟩:=Rv h.Hd.zs Q;have⟨g,cap,m,hK,hg,D,k0,k1,k2,_⟩:=h.Hd.PG hz;have⟨y,he,e,_⟩:=(h.Hd.each z (Ap hz)).log;have⟨da,dc,j⟩:=Fa e;rw[j]at k2;have B:EB w p.s 6 (EJ g p.t.zs.length cap):=by
   exact kt
  have hl:(R.Ol G ((n:Int)+1)).length=y.length:=by grind [R.Ol]
  grind [zw]
 ·rw[Ao f];unfold R.LY at f;have⟨a,c,hK⟩:=Fa h.Hd.Gw;have B:EB w p.s 6 (.slice a p.t.zs.length c):=by
   exact kt
  grind [ade]
theorem LW.log(h:LW p F G w)(u:Int):
  D7 44 #[ptr p.x,Z u] w (.tuple #[Z (R.MJ G u).1,Z (R.MJ G u).2]) λf=>DY w f:=by
 have x1:=EI h.bx 1;have j:=Dx (h.ae8 u);generalize R.MJ G u=Zq at *;clear h;go_enter func44,ntmps44;go_wp2_with (go_at_call 79;refine cm j λf e=>?_;have m:=Dx e;clear e)
 go_returns;exact⟨rfl,m⟩
def jy:List Value:=[Z 0,Z 0,Z 0,Z 0,Z 0,.slice none 0 0,.slice none 0 0]
abbrev adE(w:Aa)(b:Nat)(v0 v1 v2 v3 v4 v5 v6:Ad):World:=((((((w.setCell (Y b 0) v0).setCell (Y b 1) v1).setCell (Y b 2) v2).setCell (Y b 3) v3).setCell (Y b 4) v4).setCell (Y b 5) v5).setCell (Y b 6) v6
structure En7(w0:Aa)(b:Nat)(v0 v1 v2 v3 v4 v5 v6:Ad)(W:Aa):Prop where
 c0:W.cell? (Y b 0)=some v0
 c1:W.cell? (Y b 1)=some v1
 c2:W.cell? (Y b 2)=some v2
 c3:W.cell? (Y b 3)=some v3
 c4:W.cell? (Y b 4)=some v4
 c5:W.cell? (Y b 5)=some v5
 c6:W.cell? (Y b 6)=some v6
 z:∀j,W.frozen? (Y b j)=false
 keep:DF (λk=>k=b) w0 W
theorem PD{w0:Aa}(h:W.heap[b]?=some (.cells #[v0,v1,v2,v3,v4,v5,v6] 98 (0,0)))(hk:DF (λk=>k=b) w0 W):En7 w0 b v0 v1 v2 v3 v4 v5 v6 W:=
 ⟨EI h 0,EI h 1,EI h 2,EI h 3,EI h 4,EI h 5,EI h 6,λ_=>Eb h,hk⟩
theorem vB(h:w.heap[b]?=some (.cells #[u0,u1,u2,u3,u4,u5,u6] 98 (0,0))):(adE w b v0 v1 v2 v3 v4 v5 v6).heap[b]?=some (.cells #[v0,v1,v2,v3,v4,v5,v6] 98 (0,0)):=by
 have e0:=Ek (cs:=[u0,u1,u2,u3,u4,u5,u6]) (off:=0) h v0;have e1:=Ek (off:=1) e0 v1;have e2:=Ek (off:=2) e1 v2;have e3:=Ek (off:=3) e2 v3;have e4:=Ek (off:=4) e3 v4;have e5:=Ek (off:=5) e4 v5;exact Ek (off:=6) e5 v6
theorem oH:DF (λk=>k=b) w (adE w b v0 v1 v2 v3 v4 v5 v6):=((((((Eg _).trans (Eg _)).trans (Eg _)).trans (Eg _)).trans (Eg _)).trans (Eg _)).trans (Eg _)
theorem SQ(h:w.heap[b]?=some (.cells #[u0,u1,u2,u3,u4,u5,u6] 98 (0,0)))(v0 v1 v2 v3 v4 v5 v6:Ad):En7 w b v0 v1 v2 v3 v4 v5 v6 (adE w b v0 v1 v2 v3 v4 v5 v6):=PD (vB h) (oH)
theorem QL(f:DY w w1)(hk:DF (λk=>k=w.heap.size) w1 W):DY w W:=f.trans ⟨hk.os,hk.tape,hk.output,hk.size,λk e=>hk.block k (Ai e f.size) U⟩
theorem Xc(e:Below (w.alloc (.cells jy.toArray 98)).heap.size (w.alloc (.cells jy.toArray 98)) w1):w1.heap[w.heap.size]?=some (.cells #[Z 0,Z 0,Z 0,Z 0,Z 0,.slice none 0 0,.slice none 0 0] 98 (0,0))/\DY w w1:=
 ⟨(e.block _ Ev).trans (AF w _),F9.trans ⟨e.os,e.tape,e.output,e.size,λk hk=>e.block k Fy⟩⟩
theorem rK{s:Nat}{u k er:Int}(h:∀f,DY w f->D7 79 #[ptr s,Z u] f (.tuple #[Z n,Z er]) λe=>DY f e)(hno:er≠0\/k<0\/n<=k):
  D7 80 #[ptr s,Z u,Z k] w (.tuple #[.agg jy.toArray,Z 9]) λe=>DY w e:=by
 have HL:=Dx (h (w.alloc (.cells jy.toArray 98)) F9);clear h;by_cases j:er=0
 ·subst j;by_cases m:k<0
  ·exact adL
  ·have y:n<=k:=U;have B:¬k<n:=U;exact adL
 ·have e1:(er != 0)=true:=by simpa using j
  exact adL
theorem lP{s lb dl dc:Nat}{v0 v1 v2 v3 v4:Int}{xa ya:Af}{xn xc yn yc:Nat}(P Q:Value->World->Prop)(hn:(k:Int)<n)(hk:k<dl)
  (d2:EB w g (u*3+2) (EJ lb dl dc)) (e0:EB w lb (k*7) (Z v0)) (e1:EB w lb (k*7+1) (Z v1)) (e2:EB w lb (k*7+2) (Z v2)) (e3:EB w lb (k*7+3) (Z v3)) (e4:EB w lb (k*7+4) (Z v4)) (e5:EB w lb (k*7+5) (.slice xa xn xc)) (e6:EB w lb (k*7+6) (.slice ya yn yc))
  (aq:∀m,DY w m->D7 79 #[ptr s,Z ((u:Int)+1)] m (.tuple #[Z n,Z 0]) λB=>DY m B)
  (aa:∀m,DY w m->D7 132 #[ptr s,Z ((u:Int)+1)] m (.pointer (some (Y g (u*3)))) λB=>B=m)
  (HA:∀m,DY w m->ET 74 #[.slice xa xn xc] m λe B=>(∃D rn rc,e=.returned (.slice D rn rc)/\(∀wb,DF (λk=>w.heap.size<=k/\k<m.heap.size) B wb->P (.slice D rn rc) wb)/\∀j,(Value.slice D rn rc).ownBlock=some j->m.heap.size<=j/\j<B.heap.size)/\DY m B)
  (HB:∀m,DY w m->ET 74 #[.slice ya yn yc] m λe B=>(∃D rn rc,e=.returned (.slice D rn rc)/\(∀wb,DF (λk=>w.heap.size<=k/\k<m.heap.size) B wb->Q (.slice D rn rc) wb)/\∀j,(Value.slice D rn rc).ownBlock=some j->m.heap.size<=j/\j<B.heap.size)/\DY m B):
  ET 80 #[ptr s,Z ((u:Int)+1),Z k] w λe B=>∃X Yq,e=.returned (.tuple #[.agg #[Z v0,Z v1,Z v2,Z v3,Z v4,X,Yq],Z 0])/\P X B/\Q Yq B/\DY w B/\∀j,X.ownBlock=some j->Yq.ownBlock≠some j:=by
 have HL:=Dx (aq (w.alloc (.cells jy.toArray 98)) F9);have⟨HV,HA,HB⟩:=Ll aa HA HB;have⟨br,y⟩:=KM d2 e0;obtain⟨q0,q1,q2,q3⟩:¬(k:Int)<0/\¬n<=(k:Int)/\0<=(k:Int)/\(k:Int)<dl:=U;have HC:Hid (∀w1,DY w w1->EB w1 g (u*3+2) (EJ lb dl dc)/\EB w1 lb (k*7) (Z v0)/\EB w1 lb (k*7+1) (Z v1)/\EB w1 lb (k*7+2) (Z v2)/\EB w1 lb (k*7+3) (Z v3)/\EB w1 lb (k*7+4) (Z v4)/\EB w1 lb (k*7+5) (.slice xa xn xc)/\EB w1 lb (k*7+6) (.slice ya yn yc)):=λw1 hb=>
  ⟨(hb.cell (p:=Y g _) br).trans d2,(hb.cell (p:=Y lb _) y).trans e0,(hb.cell (p:=Y lb _) y).trans e1,(hb.cell (p:=Y lb _) y).trans e2,(hb.cell (p:=Y lb _) y).trans e3,(hb.cell (p:=Y lb _) y).trans e4,(hb.cell (p:=Y lb _) y).trans e5,(hb.cell (p:=Y lb _) y).trans e6⟩
 clear aq aa d2 e0 e1 e2 e3 e4 e5 e6;go_enter func80,ntmps80;go_wp2_with (first
  |(go_at_call 79;refine cm HL λw1 b6=>?_;have⟨b1,b4⟩:=Xc b6;have bq:=Dv b1;have HX:=Dx b1;have be:=Dx b4;have aN:=Dx (HV w1 b4);have⟨d2,e0,e1,e2,e3,e4,e5,e6⟩:=HC w1 b4;clear b6 b4 b1)
  |(go_at_call 132;refine cs aN ?_))
 have bt:=bq;have ad:DY w (w1.alloc (.cells #[Z v0,Z v1,Z v2,Z v3,Z v4,.slice xa xn xc,.slice ya yn yc] 98)):=be.alloc U _;refine(HA _ ad).mono ?_;rintro e w2 ⟨⟨D,rn,rc,rfl,hP,hX⟩,h⟩;have b2:=(h.block _ Ev).trans (AF w1 _);have r2:=((h.block w.heap.size Fy).trans (AL _ _ _ bt)).trans (Dw HX);have⟨f0,f1,f2,f3,f4,f5,f6,fz,_⟩:=PD b2 (DF.refl _ w2);have ch:=Dv b2;have ae:DY w (w2.setCell (EN w1 5) (.slice D rn rc)):=by
  have hk:DF (λk=>k=w1.heap.size) w2 (w2.setCell (EN w1 5) (.slice D rn rc)):=Eg _;have h1:=ad.trans ⟨h.os,h.tape,h.output,h.size,λk hk=>h.block k Fy⟩;exact h1.trans ⟨hk.os,hk.tape,hk.output,hk.size,λk bp=>hk.block k (Ai bp h1.size) U⟩
 have⟨HP,aS,ar,aw⟩:=bE hP hX b2 r2;have⟨az,av,aV⟩:=Ll h.size (HB _ ae) ae;clear hP hX b2 r2 h ae ad HA HB HC HV aN HL HX d2 e0 e1 e2 e3 e4 e5 e6;go_wp2_with fail
 refine av.mono ?_;rintro e w3 ⟨⟨sa,sn,sc,rfl,hQ,hY⟩,f⟩;have bg:Hid (∀j,(Value.slice D rn rc).ownBlock=some j->(Value.slice sa sn sc).ownBlock≠some j):=λj q1 q2=>by
  have h1:=aS j q1;have h2:=hY j q2;simp only[Dr]at h2;omega
 clear hY aS;have b5:w.heap.size≠w1.heap.size:=U;have bL:=f.size;simp only[Dr]at bL;have b3:=(f.block _ Fy).trans (Ek (cs:=[Z v0,Z v1,Z v2,Z v3,Z v4,.slice xa xn xc,.slice ya yn yc]) (off:=5) ar _);have r3:=((f.block w.heap.size Fy).trans (AU _ _ _ _ b5)).trans (Dw aw);have r4:=(AU w3 (EN w1 6) (.slice sa sn sc) w.heap.size b5).trans r3;clear f0 f1 f2 f3 f4 f5 f6 fz;have⟨f0,f1,f2,f3,f4,f5,f6,fz,_⟩:=PD b3 (DF.refl _ w3);have⟨g0,g1,g2,g3,g4,g5,g6,gz,_⟩:=PD r3 (DF.refl _ w3);have ci:=Dv b3;have c7:=Dv r3;have ac:DF (λk=>k=w1.heap.size) w3 (w3.setCell (EN w1 6) (.slice sa sn sc)):=Eg _;have HF:Hid (∀W,DF (λk=>k=w.heap.size) (w3.setCell (EN w1 6) (.slice sa sn sc)) W->P (.slice D rn rc) W/\Q (.slice sa sn sc) W/\DY w W):=λW hW=>by
  have k3:=(ac.mono (λk _ e=>Am e)).trans (hW.mono (λk _ e=>Aj e));have bz:=Dw az;simp only[Cx]at bz;refine⟨HP W ?_,hQ W (k3.mono (λk _ e=>by simp only[Dr];omega)),?_⟩
  ·have ka:DF (λk=>w.heap.size<=k/\k<(w1.alloc (.cells #[Z v0,Z v1,Z v2,Z v3,Z v4,.slice xa xn xc,.slice ya yn yc] 98)).heap.size) w2 (w2.setCell (EN w1 5) (.slice D rn rc)):=(Eg _).mono (λk _ e=>by simp only[Cx];have:k=w1.heap.size:=e;omega);exact(ka.trans (DF.D6 f _)).trans (k3.mono (λk _ e=>by simp only[Cx];omega))
  ·have h3:=aV.trans ⟨f.os,f.tape,f.output,f.size,λk hk=>f.block k Fy⟩;exact h3.trans ⟨k3.os,k3.tape,k3.output,k3.size,λk hk=>k3.block k U U⟩
 have bf:=Dx r4;clear r4 b3 r3 hQ f av aV ac HP ar aw az;go_wp2;refine EE _ (SQ bf (Z v0) (Z v1) (Z v2) (Z v3) (Z v4) (.slice D rn rc) (.slice sa sn sc)) ?_;rintro W ⟨m0,m1,m2,m3,m4,m5,m6,mz,mk⟩;have HK:=Dx mk;clear mk;go_wp2
 (try simp only[Exit.inBlock,Exit.then])
 refine Bm (by simp[results,results80,go_sem,m0,m1,m2,m3,m4,m5,m6];try rfl) rfl ?_;have⟨z1,z2,z3⟩:=HF W (Dw HK);exact⟨_,_,rfl,z1,z2,z3,bg⟩
end Go.Proofs.YtblomippkddgiaaGreatDoor
