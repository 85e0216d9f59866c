import Derived.Test.YtblomippkddgiaaGreatDoorJ15
namespace Go.Proofs.YtblomippkddgiaaGreatDoor.R
open Go.Proofs.Tryz
variable {M:Bk}{d:Cd}{rb:List UInt8}{i n:Nat}{p:Pk}{r':Sn}{s:Sv}{G G':Wd}
theorem Inv.QZ(h:Inv M G){js:List Jb}(hl:(js.length:Int)<=G.c.FF)(e:∀j∈js,((0<=j.DJ/\j.DJ<=2)/\(0<=j.DZ/\j.DZ<=2))/\∃d,M ⟨j.DJ,j.DR,j.DZ,j.D4⟩=some d/\j.D5=d.D5):Inv M {G with EF:=js}:=
 ⟨⟨h.wf.cf,h.wf.N5,λj c hc=>⟨(h.wf.cl j c hc).DV,(h.wf.cl j c hc).DR,(h.wf.cl j c hc).Ee,(h.wf.cl j c hc).DZ⟩,h.wf.JC,h.wf.JX,h.wf.sv,h.wf.R7,h.wf.nm,h.wf.st,h.wf.nd,h.wf.Pn⟩,⟨h.ws.ll,h.ws.lv,h.ws.sl,h.ws.sn,hl,λj q=>(e j q).1⟩,h.bk,h.ln,h.fl,h.sn,h.lg,h.jE,λj q=>(e j q).2,h.lv⟩
structure Lm(M:Bk)(G:Wd)(p:Pk)(d:Cd)(i:Nat):Prop where
 right:EC p
 Gw:M (JD p)=some d
 D5:p.D5=d.D5
 DR:p.DR=G.DX.getD (i / 3) 0
 i:i=3*p.DJ.toNat+p.DZ.toNat
theorem Lm.key(h:Lm M G p d i):JD p=⟨((i / 3:Nat):Int),G.DX.getD (i / 3) 0,((i % 3:Nat):Int),p.D4⟩:=by
 have⟨_,e,_,f,_⟩:=h.right;have:=h.i;simp only[JD,Key.mk.injEq];exact⟨U,h.DR,U,BR⟩
theorem Lm.lt(h:Lm M G p d i):i<9:=by
 have⟨_,e,_,f,_⟩:=h.right;have:=h.i;omega
theorem Lm.yE(h:Lm M G p d i)(e:G'.DX=G.DX):Lm M G' p d i:=⟨h.right,h.Gw,h.D5,by rw[e];exact h.DR,h.i⟩
theorem Inv.ack(h:Inv M G)(e:Lm M G p d i)(f:p.off=DL d.J9):Inv M (Mi G p):=by
 have⟨j,m,u,w,y,B,g,D,O⟩:=e.right;unfold Mi;split
 ·exact h.XH e.right e.Gw e.D5 Em g U (Aj ⟨rfl,f⟩)
 ·exact h
theorem Inv.gather(h:Inv M G)(m:Lm M G p d i)(T:p.off=DL d.J9)(hb:p.Ef=EY d.J9 p.Ez){r:Sn}(Q:G.DN[i]?=some r)(hs:r.D4=p.D4)(X:r.DK=1):Inv M (Gy G i p):=by
 have f:=h.ws.sn i r Q;have⟨_,_,_,_,am,_,ak,al,_⟩:=m.right;have D:r.D4≠0:=U;have⟨y,q⟩:=h.sn i r Q D;have w:=m.key;rw[<-hs]at w;have aa:y=d:=by
  have:=q.Gw;rw[<-w,m.Gw]at this;exact(Option.some.inj this).symm
 subst aa;have⟨g1,g2⟩:=q.Lu X;have⟨g3,g4,g5⟩:=f.Lu X;have ah:=SX (h.bk _ _ q.Gw).1;obtain⟨n,hn⟩:∃n:Nat,r.DT=(n:Int):=⟨r.DT.toNat,U⟩;rw[hn,AY]at g1;have hi:=m.lt;unfold Gy;simp only;rw[F7 Q];split
 ·rename_i hf;have g:r.DC++p.Ef=y.J9.take (8*(n+1)):=by rw[g1,hb,hf,hn,Md]
  split
  ·rename_i B;have u:r.DC++p.Ef=y.J9:=by rw[g,L6 (by rw[<-T];omega)]
   split
   ·exact h
   ·rename_i ac;have h2:=h.EA (r':={r with DK:=2,DC:=r.DC++p.Ef,DT:=r.DT+1}) Q (BK _) ⟨λe=>absurd e D,f.D4,λe=>⟨(f.some e).1,(f.some e).2.1,Ev⟩,Ev,by simp only[u];omega,Ev,λht=>by have:=(f.E1 ht).1;omega⟩ (λ_=>⟨y,q.Gw,q.D5,Ev,λ_=>u,λ_=>q.open' (Aj X),Ev⟩);have h3:=h2.QZ (js:=G.EF++[⟨p.DJ,p.DZ,p.DR,p.D4,p.D5⟩]) (by simp only[AJ,CP];show _<=G.c.FF;omega) (λj O=>by
     rcases Bj.1 O with O|O
     ·exact⟨h.ws.jb j O,h.jb j O⟩
     ·rw[Bg.1 O];have⟨_,p2,_,p4,_⟩:=m.right;exact⟨⟨p2,p4⟩,y,m.Gw,m.D5⟩)
    exact h3.ack (m.yE rfl) T
  ·rename_i B;have ab:((n+1:Nat):Int)<DL y.J9:=U;have h8:=RO ab;have h2:=h.EA (r':={r with DC:=r.DC++p.Ef,DT:=r.DT+1}) Q (BK _) ⟨λe=>absurd e D,f.D4,f.some,λ_=>?_,λe=>by simp only at e;omega,f.MY,f.E1⟩ (λ_=>⟨y,q.Gw,q.D5,λ_=>⟨?_,?_⟩,λe=>by simp only at e;omega,q.open',q.MY⟩)
   ·exact h2.ack (m.yE rfl) T
   ·simp only;rw[g,Bv,Ct U];omega
   ·simp only;rw[g,hn];congr 1
   ·simp only;omega
 ·exact h.ack m T
theorem Inv.known(h:Inv M G)(e:Lm M G p d i)(hk:(p.Dz=1/\p.off=DL d.J9/\p.Ef=EY d.J9 p.Ez)\/p.Dz=3){r:Sn}(f:G.DN[i]?=some r)(j:r.D4=p.D4):Inv M (Hl G i p):=by
 have⟨m,u,w,y,B,D,O,Q,T⟩:=e.right;unfold Hl;simp only;rw[F7 f];split
 ·grind [R.Inv.gather]
 ·split
  ·exact abS
  ·split
   ·exact h
   ·split
    ·rename_i g;exact h.tell e.lt f g
    exact abS
theorem Yi{sv:List Sv}{u:Int}(h:Jt sv u=true):∃(n:Nat) (s:Sv),u=(n:Int)+1/\sv[n]?=some s/\s.Fj=true:=by
 unfold Jt at h;rw[Dk,Db]at h;cases ha:sv[(u-1).toNat]? with
 |none=>rw[ha]at h;simp at h
 |some s=>
  rw[ha]at h;exact⟨(u-1).toNat,s,U,ha,by simpa using h.2⟩
theorem Inv.ask(h:Inv M G)(ha:Lm M G p d i)(hk:(p.Dz=1/\p.off=DL d.J9/\p.Ef=EY d.J9 p.Ez)\/p.Dz=3\/p.Dz=6):Inv M (N0 G i p):=by
 have g:=h.K6 ha.lt;unfold N0;simp only;generalize EZ G i=r at g ⊢;have f:=h.ws.sn i r g;have⟨_,_,_,_,ad,_,ab,ac,_⟩:=ha.right;split
 ·split
  ·rename_i hx;have⟨x1,x2,x3,x4,x5⟩:=hx;have⟨O,Q,b3,b4⟩:=f.MY x2;have m:r.D4≠0:=U;have⟨T,q⟩:=h.sn i r g m;have u:=h.EA (r':={r with at':=r.at'+1}) g (BK _) ⟨λe=>absurd e m,f.D4,f.some,f.Lu,f.El,λ_=>⟨O,Q,by simp only;omega,by simp only;omega⟩,f.E1⟩ (λ_=>⟨T,q.same rfl rfl rfl rfl rfl⟩);exact u.tell ha.lt (r:={r with at':=r.at'+1}) (by simp[R.EA,(GG g)]) x2
  ·exact h
 ·rename_i h6;have y:(p.Dz=1/\p.off=DL d.J9/\p.Ef=EY d.J9 p.Ez)\/p.Dz=3:=by grind
  split
  ·grind [R.Inv.known]
  ·split
   ·exact h
   ·split
    ·exact acB
    ·rename_i hs X hal;have hal:Jt G.Dy p.D5=true:=by simpa [Js,Jt] using hal
     split
     ·exact h
     ·split
      ·exact acB
      ·have j:=ha.key;have w:=(h.bk _ d ha.Gw).1;have aa:=SX w;have Lp:=h.wf.sv;have⟨_,_,B,_,_,D,_⟩:=ha.right;have u:=h.EA (r':={Ic with D4:=p.D4,D5:=p.D5,DK:=1}) g (by simp only;omega) ⟨λe=>by simp only at e;omega,by simp only;omega,λ_=>⟨by rw[<-ha.DR];exact B.1,D,Ev⟩,by simp[Ic],Ev,Ev,by simp[Ic]⟩ (λ_=>⟨d,by rw[<-j];exact ha.Gw,ha.D5,λ_=>⟨by simp[Ic],by simp only[Ic];omega⟩,Ev,λ_=>?_,Ev⟩)
       ·exact u.known (ha.yE rfl) y (r:={Ic with D4:=p.D4,D5:=p.D5,DK:=1}) (by simp[R.EA,(GG g)]) rfl
       exact afN
theorem Ze(h:¬p.DR<G.DX.getD p.DJ.toNat 0)(hl:p.DJ.toNat<G.DX.length):(Ib G p).DX.getD p.DJ.toNat 0=p.DR:=by grind [Ib]
theorem Inv.Gn(h:Inv M G)(g:EC p)(u:Tj M G.Dy (-1) p):Inv M (KB G p):=by
 have⟨d,hd,hu,hk⟩:=u;have⟨_,y,_,B,_⟩:=id g;have m:(-1:Int)≠p.DJ:=U;have f:(p.Dz=1/\p.off=DL d.J9/\p.Ef=EY d.J9 p.Ez)\/p.Dz=3\/p.Dz=6:=by grind
 unfold KB;split
 ·exact h
 ·rename_i w;have j:=h.DX g hd;refine j.ask (d:=d) ⟨g,hd,hu,?_,rfl⟩ f;have e:(3*p.DJ.toNat+p.DZ.toNat) / 3=p.DJ.toNat:=U;rw[e,Ze w (by rw[h.ws.ll];omega)]
theorem Inv.Ki(h:Inv M G)(i:Int):Inv M (Fv G i).2:=by
 unfold Fv;split
 ·exact h
 ·split
  ·exact h
  ·rename_i f g;have j:=h.erase i.toNat;have e:=h.fl f (Ap g);unfold Sc at e
   grind [L8,R.Inv.Gn,R.Inv.heard]
theorem Rj{Dz Eo:Int}{x:ByteArray×ByteArray}(h:IY Dz Eo=some x):Eo=0\/Eo=1:=by grind [IY]
theorem Zk(h:d.Eo=0\/d.Eo=1):256*((d.J9.getD 0 0).toNat:Int)+((d.J9.getD 1 0).toNat:Int)=d.Eo/\d.J9.drop 2=d.bs:=by
 refine⟨?_,by simp[Cd.J9,EU]⟩;have e:d.J9.getD 0 0=b8 (d.Eo / 256):=by simp[Cd.J9,EU]
 have f:d.J9.getD 1 0=b8 (d.Eo % 256):=by simp[Cd.J9,EU]
 grind [FP]
structure WG(M:Bk)(G:Wd)(i:Nat)(r:Sn)(d:Cd)(n:Nat)(s:Sv)(rb:Ac):Prop where
 DN:G.DN[i]?=some r
 ne:r.D4≠0
 ok:LK M G.Dy ⟨((i / 3:Nat):Int),G.DX.getD (i / 3) 0,((i % 3:Nat):Int),r.D4⟩ r d
 cd:R9 G.Dy d
 D5:d.D5=(n:Int)+1
 sv:G.Dy[n]?=some s
 Fj:s.Fj=true
 sig:IY s.Dz d.Eo=some (d.LO,d.to)
 byt:Fi d.to (Hw s.Dz s.log d.Eo d.arg)=some rb
 pos:1<=rb.length
theorem Inv.W9(h:Inv M G)(hi:i<9)(w:(EZ G i).DK=2):∃d n s rb,WG M G i (EZ G i) d n s rb:=by
 have y:=h.K6 hi;generalize EZ G i=r at y w ⊢;have D:=h.ws.sn i r y;have u:r.D4≠0:=λe=>by
  rw[D.zero e]at w;cases w
 have⟨d,q⟩:=h.sn i r y u;have⟨X,q2⟩:=q.open' (Am w);have j:=(h.bk _ d q.Gw).1;have⟨n,s,a1,a2,a3⟩:=Yi X;have hk:NQ G.Dy d.D5=s.Dz:=by
  unfold NQ;rw[show (d.D5-1).toNat=n by omega,a2];rfl
 have f:=j.sig;rw[hk]at f;have⟨rb,O,Q⟩:=yP f j.bs (log:=s.log) (λe T=>by
  have⟨m,aa,g1,g2,g3,g4,g5,g6⟩:=((h.lg n s a2).each e T).some;have g:=(h.bk _ m g1).1;have B:NQ G.Dy m.D5=s.Dz:=by grind
  have:=g.sig;rw[B]at this;exact⟨m.LO,m.to,m.bs,by rw[g3];exact this,by rw[g4];exact g.bs⟩)
 exact⟨d,n,s,rb,y,u,q,j,a1,a2,a3,f,O,Q⟩
def Gx(G:Wd)(i:Nat)(r:Sn)(d:Cd)(s:Sv):En:=⟨((i / 3:Nat):Int),G.DX.getD (i / 3) 0,((i % 3:Nat):Int),r.D4,d.Eo,d.arg,Hw s.Dz s.log d.Eo d.arg⟩
def Lr(G:Wd)(i:Nat)(r:Sn)(d:Cd)(n:Nat)(s:Sv)(rb:Ac):Wd:={G with Dy:=G.Dy.set n {s with log:=s.log++[Gx G i r d s]},DN:=G.DN.set i {r with DK:=3,DU:=rb,at':=0}}
theorem WG.eq{r:Sn}(h:WG M G i r d n s rb)(f:r.DK=2):Oa G i=JF (Lr G i r d n s rb) i:=by
 have e:=h.ok.El f;have hu:(r.D5-1).toNat=n:=by rw[h.ok.D5,h.D5];omega
 have⟨g,j⟩:=Zk (Rj h.sig);unfold Oa;simp only;rw[F7 h.DN,hu,h.sv,e];simp only[Bw];rw[g,h.sig,j];simp only[Bw];rw[Kq h.cd.bs,h.byt,<-e];rfl
theorem Inv.Lr(h:Inv M G)(hi:i<9){r:Sn}{s:Sv}(hd:WG M G i r d n s rb)(h2:r.DK=2):Inv M (Lr G i r d n s rb):=by
 have hn:=GG hd.sv;have ah:=GG hd.DN;have aa:=h.ws.sn i r hd.DN;have ab:∀(u:Nat) (s':Sv),(G.Dy.set n {s with log:=s.log++[Gx G i r d s]})[u]?=some s'->(u=n/\s'={s with log:=s.log++[Gx G i r d s]})\/(u≠n/\G.Dy[u]?=some s'):=λu s' hu=>by
  rw[Bf]at hu;by_cases e:n=u
  ·rw[Ay e]at hu;simp only[hn,CQ]at hu;exact Aj ⟨e.symm,(Option.some.inj hu).symm⟩
  ·rw[Ao e]at hu;exact Am ⟨λq=>e q.symm,hu⟩
 have D:∀(j:Nat) (r':Sn),(G.DN.set i {r with DK:=3,DU:=rb,at':=0})[j]?=some r'->(j=i/\r'={r with DK:=3,DU:=rb,at':=0})\/(j≠i/\G.DN[j]?=some r'):=λj r' w=>by
  rw[Bf]at w;by_cases e:i=j
  ·rw[Ay e]at w;simp only[ah,CQ]at w;exact Aj ⟨e.symm,(Option.some.inj w).symm⟩
  ·rw[Ao e]at w;exact Am ⟨λq=>e q.symm,w⟩
 have hg:Gr G.Dy (G.Dy.set n {s with log:=s.log++[Gx G i r d s]}):=by
  refine⟨Ev,λu x B=>?_⟩;by_cases e:n=u
  ·subst e;rw[hd.sv]at B;cases B;exact⟨{s with log:=s.log++[Gx G i r d s]},by simp[hn],rfl,[Gx G i r d s],rfl⟩
  ·exact⟨x,by rw[Bf,Ao e];exact B,rfl,[],Ev⟩
 have T:Mj G.Dy d.D5=s.log:=by rw[hd.D5];exact SV hd.sv
 have y:Mj (G.Dy.set n {s with log:=s.log++[Gx G i r d s]}) d.D5=s.log++[Gx G i r d s]:=by
  rw[hd.D5];exact SV (s:={s with log:=s.log++[Gx G i r d s]}) (by simp[hn])
 have al:=hd.ok.open' (Am h2);have O:Oc (Gx G i r d s)=⟨((i / 3:Nat):Int),G.DX.getD (i / 3) 0,((i % 3:Nat):Int),r.D4⟩:=rfl;have ae:Kz (G.Dy.set n {s with log:=s.log++[Gx G i r d s]}) ⟨((i / 3:Nat):Int),G.DX.getD (i / 3) 0,((i % 3:Nat):Int),r.D4⟩ d (Gx G i r d s) rb:=⟨by rw[y];simp,O,hd.byt,hd.pos⟩;have aN:=Nq hd.byt;have Q:(G.Dy.set n {s with log:=s.log++[Gx G i r d s]}).length=G.Dy.length:=Ev;have X:∀e:En,(Vu G.DN e.DJ e.DZ).D4<=(Vu (G.DN.set i {r with DK:=3,DU:=rb,at':=0}) e.DJ e.DZ).D4:=λe=>by
  unfold Vu;rw[Bf];by_cases e':i=3*e.DJ.toNat+e.DZ.toNat
  ·rw[<-e',hd.DN];simp[ah]
  ·simp[e']
 refine⟨⟨h.wf.cf,h.wf.N5,λj c hc=>⟨(h.wf.cl j c hc).DV,(h.wf.cl j c hc).DR,λu hu=>by rw[show (R.Lr G i r d n s rb).Dy.length=G.Dy.length from Q];exact(h.wf.cl j c hc).Ee u hu,(h.wf.cl j c hc).DZ⟩,h.wf.JC,h.wf.JX,by rw[show (R.Lr G i r d n s rb).Dy.length=G.Dy.length from Q];exact h.wf.sv,λx B=>?_,h.wf.nm,h.wf.st,h.wf.nd,λu hu=>by rw[show (R.Lr G i r d n s rb).Dy.length=G.Dy.length from Q];exact h.wf.Pn u hu⟩,⟨h.ws.ll,h.ws.lv,by simpa [R.Lr] using h.ws.sl,λj r' w=>?_,h.ws.jl,h.ws.jb⟩,λk x B=>⟨(h.bk k x B).1.grow hg,(h.bk k x B).2⟩,λj c k l hc hl=>(h.ln j c k l hc hl).grow (Le.refl M) hg (λ_ q=>q),λf hf=>(h.fl f hf).grow (Le.refl M) hg,λj r' w ak=>?_,λu s' hs=>?_,λu s' e hs ha g=>?_,h.jb,h.lv⟩
 ·rcases BJ B with q|q
  ·exact h.wf.R7 x q
  ·rw[q];exact h.wf.R7 s (Ap hd.sv)
 ·rcases D j r' w with ⟨rfl,rfl⟩|⟨_,q⟩
  ·refine⟨λe=>absurd e hd.ne,aa.D4,λe=>⟨(aa.some e).1,(aa.some e).2.1,Ev⟩,Ev,Ev,λ_=>⟨hd.pos,by simp only;omega,Ev,by have:=ID hd.pos;simp only;omega⟩,λht=>by have:=(aa.E1 ht).1;omega⟩
  ·exact h.ws.sn j r' q
 ·rcases D j r' w with ⟨rfl,rfl⟩|⟨az,q⟩
  ·exact⟨d,hd.ok.Gw,hd.ok.D5,Ev,Ev,Ev,λ_=>⟨_,ae⟩⟩
  ·obtain⟨d',q'⟩:=h.sn j r' q ak;refine⟨d',q'.Gw,q'.D5,q'.Lu,q'.El,λhs=>?_,λhs=>?_⟩
   ·obtain⟨o1,o2⟩:=q'.open' hs;have aS:=(h.bk _ d' q'.Gw).1.D5;by_cases e:d'.D5=d.D5
    ·rw[e];refine⟨?_,?_⟩
     ·unfold Jt;show (decide (1<=d.D5)&&((((G.Dy.set n {s with log:=s.log++[Gx G i r d s]}))[(d.D5-1).toNat]?).map (·.Fj)).getD false)=true;rw[show (d.D5-1).toNat=n by have:=hd.D5;omega];simp[hn,hd.Fj];have:=hd.D5;omega
     ·show ∀e∈Mj (G.Dy.set n {s with log:=s.log++[Gx G i r d s]}) d.D5,_;rw[y];intro x B;rcases Bj.1 B with B|B
      ·rw[e,T]at o2;exact o2 x B
      ·rw[Bg.1 B,O];intro k;simp only[Key.mk.injEq]at k;omega
    ·have ac:¬n=(d'.D5-1).toNat:=by have:=hd.D5;omega
     have a1:Jt (G.Dy.set n {s with log:=s.log++[Gx G i r d s]}) d'.D5=Jt G.Dy d'.D5:=by
      unfold Jt;rw[Bf,Ao ac]
     have a2:Mj (G.Dy.set n {s with log:=s.log++[Gx G i r d s]}) d'.D5=Mj G.Dy d'.D5:=by
      unfold Mj;rw[Bf,Ao ac]
     exact⟨a1.trans o1,by
      show ∀e∈Mj (G.Dy.set n {s with log:=s.log++[Gx G i r d s]}) d'.D5,_;rw[a2];exact o2⟩
   ·obtain⟨e,g⟩:=q'.MY hs;exact⟨e,g.grow hg⟩
 ·rcases ab u s' hs with ⟨rfl,rfl⟩|⟨_,q⟩
  ·have hl:=h.lg u s hd.sv;refine⟨λe g=>?_,?_,λj e g=>?_⟩
   ·rcases Bj.1 g with g|g
    ·exact hl.each e g
    ·rw[Bg.1 g];exact⟨d,rb,by rw[O];exact hd.ok.Gw,hd.D5,rfl,rfl,hd.byt,hd.pos⟩
   ·rw[List.pairwise_append];refine⟨hl.ord,Ev,λa ha b hb=>?_⟩;rw[Bg.1 hb];intro k1 k2 k3;have hf:=h.jE u s a hd.sv hd.Fj ha;have ak:=al.2 a (by rw[T];exact ha);simp only[Gx]at k1 k2 k3 ⊢;unfold Vy Vu at hf;rw[k1,k2,k3]at hf;simp only[AY]at hf;rw[show 3*(i / 3)+i % 3=i by omega,hd.DN]at hf;simp only[Bw]at hf;have hs:a.D4≠r.D4:=λe=>ak (by simp[Oc,k1,k2,k3,e])
    omega
   ·simp only at g ⊢;rcases CR j s.log.length with w|w
    ·rw[A6 w]at g;rw[Ch U];exact hl.told j e g
    ·rw[Bq w]at g;cases hjn:j-s.log.length with
     |zero=>
      rw[hjn]at g;simp at g;have:j=s.log.length:=U;subst this;rw[<-g];simp[Gx]
     |succ m=>rw[hjn]at g;simp at g
  ·exact h.lg u s' q
 ·show Vy G.DX (G.DN.set i {r with DK:=3,DU:=rb,at':=0}) e;rcases ab u s' hs with ⟨rfl,rfl⟩|⟨_,q⟩
  ·rcases Bj.1 g with g|g
   ·rcases h.jE u s e hd.sv hd.Fj g with q|⟨q1,q2⟩
    ·exact Aj q
    ·exact Am ⟨q1,Dj q2 (X e)⟩
   ·rw[Bg.1 g];refine Am ⟨?_,?_⟩
    ·simp only[Gx,AY]
    ·unfold Vu;simp only[Gx,AY];rw[show 3*(i / 3)+i % 3=i by omega];simp[ah]
  ·rcases h.jE u s' e q ha g with q|⟨q1,q2⟩
   ·exact Aj q
   ·exact Am ⟨q1,Dj q2 (X e)⟩
theorem Inv.done(h:Inv M G)(hi:i<9)(e:(EZ G i).DK=2):Inv M (Oa G i):=by
 have⟨d,n,s,rb,hd⟩:=h.W9 hi e;rw[hd.eq e];have f:=h.Lr hi hd e;exact f.tell hi (r:={EZ G i with DK:=3,DU:=rb,at':=0}) (by simp[R.Lr,(GG hd.DN)]) rfl
theorem Inv.vy:∀(js:List Jb) {G:Wd} (_:Inv M G) (_:∃a,G.EF=a++js),Inv M (Hy G js).2
 |[],G,h,_=>by
  simp only[Hy];have m:=h.wf.cf;unfold GA at m;exact h.QZ Fy Ev
 |j :: js,G,h,⟨a,ha⟩=>by
  simp only[Hy];have e:∀x∈j :: js,x∈G.EF:=λx g=>by rw[ha];exact List.mem_append_right _ g
  have f:(js.length:Int)<=G.c.FF:=by
   have:=h.ws.jl;rw[ha]at this;simp at this;omega
  split
  ·rename_i w;have u:=h.QZ (js:=js) f (λx g=>⟨h.ws.jb x (e x (BQ _ g)),h.jb x (e x (BQ _ g))⟩);have y:=h.ws.jb j (e j (Co));exact u.done U w.1
  ·exact Inv.vy js h ⟨a++[j],by rw[ha];simp⟩
theorem Inv.FQ(h:Inv M G):Inv M (FQ G).2:=Inv.vy G.EF h ⟨[],rfl⟩
def cnt(l:List Sn):Nat:=(l.filter λr=>decide (0<r.D4)).length
theorem Ka(r:Sn)(l:List Sn):cnt (r :: l)=(if 0<r.D4 then 1 else 0)+cnt l:=by grind [cnt]
theorem TM:∀(l:List Sn) (i:Nat) (r':Sn),cnt (l.set i r')<=cnt l+1
 |[],i,r'=>by simp[cnt]
 |r :: l,0,r'=>by
  rw[Av,Ka,Ka];split<;>split<;>omega
 |r :: l,i+1,r'=>by
  rw[Ax,Ka,Ka];have:=TM l i r';omega
theorem P6:∀(l:List Sn) (i:Nat) (r r':Sn),l[i]?=some r->(0<r'.D4->0<r.D4)->cnt (l.set i r')<=cnt l
 |[],i,r,r',h,_=>by simp at h
 |x :: l,0,r,r',h,hs=>by
  simp at h;subst h;rw[Av,Ka,Ka];split
  ·rename_i q;rw[Ay (hs q)];omega
  ·omega
 |x :: l,i+1,r,r',h,hs=>by
  rw[Ax,Ka,Ka];have:=P6 l i r r' (by simpa using h) hs;omega
theorem WY(e:0<r'.D4->0<(EZ G i).D4):cnt (G.DN.set i r')<=cnt G.DN:=by grind [EZ,List.set_eq_of_length_le,P6]
theorem yD(l:List Sn)(f:Sn->Sn)(e:∀r,(f r).D4=r.D4):cnt (l.map f)=cnt l:=by
 induction l with
 |nil=>rfl
 |cons r l ih=>rw[Cq,Ka,Ka,ih,e]
def EP(G:Wd):Prop:=(cnt G.DN:Int)<=G.c.FF
theorem EP.of(h:EP G)(hc:G'.c=G.c)(e:cnt G'.DN<=cnt G.DN):EP G':=by
 unfold EP at *;rw[hc];omega
theorem EP.same(h:EP G)(hc:G'.c=G.c)(e:G'.DN=G.DN):EP G':=by grind [R.EP.of]
theorem EP.send(h:EP G)(to:Int)(p:Pk):EP (E9 G to p):=by grind [R.EP.same,Mb,KX]
theorem EP.DZ(h:EP G)(i k:Int)(l:Ln):EP (Eh G i k l):=h.same rfl rfl
theorem EP.DN(h:EP G)(i:Nat)(r':Sn)(e:0<r'.D4->0<(EZ G i).D4):EP (EA G i r'):=h.of rfl (WY e)
theorem EP.Wc(h:EP G)(i:Nat)(e:r'.D4=(EZ G i).D4):EP (EA G i r'):=by grind [R.EP.DN]
theorem EP.DU(h:EP G)(i:Nat):EP (Ex G i):=h.send _ _
theorem EP.tell(h:EP G)(i:Nat):EP (JF G i):=by grind [JF,EP.Wc,R.EP.DU]
theorem EP.KN(h:EP G)(p:Pk)(a b c:Int):EP (G8 G p a b c):=h.send _ _
theorem EP.ack(h:EP G)(p:Pk):EP (Mi G p):=by grind [Mi,R.EP.KN]
theorem EP.gather(h:EP G)(i:Nat)(p:Pk):EP (Gy G i p):=by grind [Gy,R.EP.same,R.JH.same,EP.Wc,R.Inv.ack,R.EP.ack]
theorem EP.known(h:EP G)(i:Nat)(p:Pk):EP (Hl G i p):=by
 unfold Hl;simp only;repeat' split
 ·exact h.gather i p
 ·exact h
 ·exact h.KN p _ _ _
 ·exact h
 ·exact h.tell i
 all_goals grind [R.EP.KN]
theorem EP.DX(h:EP G)(p:Pk):EP (Ib G p):=by
 unfold Ib;split
 ·have z:∀K:Wd,EP K->∀i,EP (EA K i Ic):=λK e i=>e.DN i Ic (λq=>by simp[Ic]at q)
  exact(z _ (z _ (z _ h (3*p.DJ.toNat)) (3*p.DJ.toNat+1)) (3*p.DJ.toNat+2)).same rfl rfl
 ·exact h
theorem EP.ask(h:EP G)(i:Nat)(p:Pk)(g:0<=(EZ G i).D4):EP (N0 G i p):=by
 unfold N0;simp only;repeat' split
 ·grind [EP.tell,EP.Wc]
 ·exact h
 ·exact h.known i p
 ·exact h
 ·exact h.KN p _ _ _
 ·exact h
 ·exact h.KN p _ _ _
 ·rename_i hn;refine EP.known ?_ i p;by_cases hz:(EZ G i).D4=0
  ·have e:¬G.c.FF<=(FE G:Int):=λq=>hn ⟨hz,q⟩
   have f:FE G=cnt G.DN:=rfl;rw[f]at e;refine Dj (Int.ofNat_le.2 (TM G.DN i _)) ?_;show ((cnt G.DN+1:Nat):Int)<=G.c.FF;omega
  grind [R.EP.DN]
theorem EP.heard(h:EP G)(c:Int)(p:Pk):EP (Kl G c p):=by
 unfold Kl IL JS LP EG;simp only;repeat' split
 all_goals first
  |exact h
  |exact h.DZ _ _ _
  |exact h.send _ _
  |exact((h.DZ _ _ _).send _ _).DZ _ _ _
  |exact(h.DZ _ _ _).DZ _ _ _
theorem EP.Ki(h:EP G)(g:Inv M G)(i:Int):EP (Fv G i).2:=by
 unfold Fv;split
 ·exact h
 ·split
  ·exact h
  ·rename_i f u;have e:EP {G with Ej:=G.Ej.eraseIdx i.toNat}:=h.same rfl rfl;simp only;split
   ·exact e
   ·split
    ·exact e
    ·rename_i p _;split
     ·unfold KB;split
      ·exact e
      ·refine EP.ask (e.DX p) _ p ?_;have z:∀(K:Wd) (k:Nat),(∀r∈K.DN,0<=r.D4)->0<=(EZ K k).D4:=λK k m=>by
        grind [EZ,Ic]
       have s0:∀r∈G.DN,0<=r.D4:=λr j=>by
        have⟨k,hk⟩:=Bp.1 j;exact(g.ws.sn k r hk).D4.1
       grind [Ib,Ic]
     ·exact e.heard _ p
theorem EP.EH(h:EP G)(i:Nat):EP (EH G i):=by
 unfold R.EH;simp only;repeat' split
 ·exact h
 ·exact EP.Wc h i rfl
 ·exact EP.Wc h i rfl
 ·refine EP.DU ?_ i;exact EP.Wc h i rfl
theorem EP.EM(h:EP G)(i k:Int):EP (EM G i k):=by
 unfold R.EM EG Lq;simp only;repeat' split
 all_goals first
  |exact h
  |exact h.DZ _ _ _
  |exact(h.DZ _ _ _).send _ _
theorem EP.fold{α:Type}(f:Wd->α->Wd)(e:∀G a,EP G->EP (f G a)):∀(l:List α) (G:Wd),EP G->EP (l.foldl f G)
 |[],_,h=>h
 |a :: l,G,h=>EP.fold f e l (f G a) (e G a h)
theorem EP.tick(h:EP G):EP (Ni G):=by
 unfold Ni Nh;refine EP.fold _ (λK i e=>e.EH i) _ _ ?_;refine EP.fold _ (λK i e=>?_) _ _ h;exact EP.fold _ (λK k e=>e.EM _ _) _ _ e
theorem EP.done(h:EP G)(i:Nat):EP (Oa G i):=by
 unfold Oa;simp only;refine EP.tell ?_ i;exact(h.DN i {EZ G i with DK:=3,DU:=(Fi ((IY ((G.Dy[((EZ G i).D5-1).toNat]?).getD ⟨0,false,[]⟩).Dz (256*(((EZ G i).DC.getD 0 0).toNat:Int)+(((EZ G i).DC.getD 1 0).toNat:Int))).getD (⟨#[]⟩,⟨#[]⟩)).2 (Hw ((G.Dy[((EZ G i).D5-1).toNat]?).getD ⟨0,false,[]⟩).Dz ((G.Dy[((EZ G i).D5-1).toNat]?).getD ⟨0,false,[]⟩).log (256*(((EZ G i).DC.getD 0 0).toNat:Int)+(((EZ G i).DC.getD 1 0).toNat:Int)) (V.I8 ((IY ((G.Dy[((EZ G i).D5-1).toNat]?).getD ⟨0,false,[]⟩).Dz (256*(((EZ G i).DC.getD 0 0).toNat:Int)+(((EZ G i).DC.getD 1 0).toNat:Int))).getD (⟨#[]⟩,⟨#[]⟩)).1 ((EZ G i).DC.drop 2)).2)).getD [],at':=0} (λq=>q)).same rfl rfl
theorem EP.serve(h:EP G):EP (FQ G).2:=by
 unfold FQ;have:∀(l:List Jb),EP (Hy G l).2:=λl=>by
  induction l with
  |nil=>exact h.same rfl rfl
  |cons j l ih=>grind [Hy,EP.done,R.EP.same]
 exact this _
theorem EP.ends(h:EP G)(D5:Int):EP (GR G D5):=by grind [R.EP.of,GR,yD]
theorem EP.export(h:EP G)(name:Ac)(Dz:Int):EP (E4 G name Dz).2:=by
 unfold E4;repeat' split
 all_goals first
  |exact h
  |exact h.same rfl rfl
  |exact(h.ends _).same rfl rfl
theorem EP.Iy(h:EP G)(name:Ac):EP (Fb G name).2:=by
 unfold Fb;split
 ·exact h
 ·exact(h.ends _).same rfl rfl
theorem EP.imports(h:EP G)(c:Int)(name:Ac):EP (FV G c name).2:=by grind [FV,R.EP.same]
theorem EP.call(h:EP G)(c l u p:Int)(arg:List It):EP (Gc G c l u p arg).2:=by
 unfold Gc EG;dsimp only;repeat' split
 all_goals first
  |exact h
  |exact(h.DZ _ _ _).send _ _
theorem EP.drop(h:EP G)(i:Int):EP (JM G i).2:=by grind [JM,R.EP.same]
theorem EP.copy(h:EP G)(i:Int):EP (JA G i).2:=by grind [JA,R.EP.same]
theorem EP.Sf(h:EP G)(i a b:Int):EP (Jz G i a b).2:=by grind [Jz,R.EP.same]
theorem EP.new{c:Cf}(h:fh c=some G):EP G:=by grind [fh,EP,cnt,Ic,GA]
end Go.Proofs.YtblomippkddgiaaGreatDoor.R
namespace Go.Proofs.YtblomippkddgiaaGreatDoor
open Go.Proofs.Tryz
open Go.RowKit
variable {E F':D9}{L:List V.Kp}{N N' b i:Nat}{z:Nat→Option Obj}{K lv:Value}{w w' w0 w1:World}
structure Tw where
 p:Pl
 F:D9
 x:Nat
 v:RV
 E:D9
 G:R.Wd
def Tw.Fw(t:Tw):D9:=λk=>t.F k\/t.E k
def Vv(t:Tw):List Value:=[ptr t.p.x,Ey t.x]
theorem kw(t:Tw):(Vv t).length=2:=rfl
def Bn(N:Nat)(G:R.Wd):Prop:=∀c∈G.DI,c.Ee.length<=N
structure Bd(N:Nat)(G:R.Wd):Prop where
 b:Bn N G
 iv:∃M,R.Inv M G
 rm:R.EP G
theorem Bd.le{G:R.Wd}(h:Bd N G)(e:N<=N'):Bd N' G:=⟨λc hc=>Br (h.b c hc) e,h.iv,h.rm⟩
structure Ii(N:Nat)(t:Tw)(w:Aa):Prop where
 l:LW t.p t.F t.G w
 r:RW t.x t.v t.E t.G w
 ap:∀k,t.F k->¬t.E k
 bd:Bd N t.G
theorem Ii.lt{t:Tw}(h:Ii N t w):∀k,t.Fw k->k<w.heap.size:=λk hk=>hk.elim (h.l.lt k) (h.r.lt k)
theorem Ii.FX{t:Tw}(h:Ii N t w)(hk:DF E w w')(e:∀k,t.Fw k->¬E k):Ii N t w':=⟨h.l.FX hk (λk q=>e k (Aj q)),h.r.FX hk (λk q=>e k (Am q)),h.ap,h.bd⟩
theorem Ii.DG{t:Tw}(h:Ii N t w)(e:DY w w'):Ii N t w':=h.FX (DF.D6 e (λ_=>False)) (λ_ _ q=>q)
theorem Ii.left{t:Tw}(h:Ii N t w)(g:D8 t.F F' w w1):RW t.x t.v t.E t.G w1:=h.r.FX g.E0 (λk q f=>h.ap k f q)
theorem Ii.both{t:Tw}{j:Aa}(h:Ii N t w){m:Pl}{e:D9}{u:RV}{g:R.Wd}(y:LW m F' g w1)(g1:D8 t.F F' w w1)(B:RW t.x u e g j)(g2:D8 t.E e w1 j)(D:Bd N' g):
  Ii N' ⟨m,F',t.x,u,e,g⟩ j/\D8 t.Fw (Tw.Fw ⟨m,F',t.x,u,e,g⟩) w j:=by
 have a1:=g1.apart h.r.lt h.ap;have a2:∀k,F' k->¬e k:=λk O M=>g2.apart y.lt (λk q f=>a1 k f q) k M O
 refine⟨⟨y.FX g2.E0 a1,B,a2,D⟩,⟨(g1.E0.mono (λ_ _ q=>Aj q)).andThen g2.E0 (λ_ _ q=>Am q),λk hk=>?_⟩⟩;rcases hk with hk|hk
 ·rcases g1.fresh k hk with q|q
  ·exact Aj (Aj q)
  ·exact Am q
 ·rcases g2.fresh k hk with q|q
  ·exact Aj (Am q)
  ·exact Am (Br g1.E0.size q)
structure Hn(w0:Aa)(z:Nat->Option Obj)(b N:Nat)(Ts:List Tw)(L:List V.Kp)(lv K:Ad)(w:Aa):Prop where
 bo:V.Bo b L lv K w
 row:w.ownsRow 0 109 2 lv Ts.length (tab Vv Ts)
 tw:∀t∈Ts,Ii N t w
 inj:∀(i j:Nat) (t s:Tw),Ts[i]?=some t->Ts[j]?=some s->i≠j->∀k,t.Fw k->¬s.Fw k
 out:∀t∈Ts,∀k,t.Fw k->¬V.OY b L K k/\lv.ownBlock≠some k
 U9:Below w0.heap.size w0 w
 base:∀k,(V.OY b L K k\/lv.ownBlock=some k\/∃t∈Ts,t.Fw k)->w0.heap.size<=k
 kept:∀k o,z k=some o->w.heap[k]?=some o
 aa0:∀k,(V.OY b L K k\/lv.ownBlock=some k\/∃t∈Ts,t.Fw k)->z k=none
theorem Hn.ji{f:List Tw}(h:Hn w0 z b N f L lv K w):∀j,lv.ownBlock=some j->¬V.OY b L K j:=λj e m=>by
 rcases m with rfl|q|⟨k,hk,t,u,q⟩
 ·exact Fg h.row h.bo.cell Em e
 ·exact OP h.row h.bo.row Em j e q
 ·have⟨B,g⟩:=(h.bo.Oh k hk).2 t u;exact OP h.row g Em j e q
theorem Hn.free{e:List Tw}(h:Hn w0 z b N e L lv K w):∀k,w.heap.size<=k->z k=none:=λk hk=>by
 cases hz:z k with
 |none=>rfl
 |some o=>
  have:=(AB.1 (h.kept k o hz)).1;omega
theorem Hn.FX{f:List Tw}(h:Hn w0 z b N f L lv K w)(hk:DF E w w')(g:∀k,(V.OY b L K k\/lv.ownBlock=some k\/∃t∈f,t.Fw k)->¬E k)(m:∀k,E k->w0.heap.size<=k/\z k=none):Hn w0 z b N f L lv K w':=
 ⟨h.bo.keep hk (λj q=>g j (Aj q)),hk.row h.row (λj q=>g j (Am (Aj q))),λt u=>(h.tw t u).FX hk (λk q=>g k (Am (Am ⟨t,u,q⟩))),h.inj,h.out,h.U9.trans (hk.DG h.U9.size (λk q=>(m k q).1)),h.base,λk o q=>hk.at (h.kept k o q) (λe=>by rw[(m k e).2]at q;cases q),h.aa0⟩
theorem Hn.DG{e:List Tw}(h:Hn w0 z b N e L lv K w)(f:DY w w'):Hn w0 z b N e L lv K w':=h.FX (DF.D6 f (λ_=>False)) (λ_ _ q=>q) (λ_ q=>q.elim)
theorem Hn.lt{e:List Tw}(h:Hn w0 z b N e L lv K w):∀k,(V.OY b L K k\/lv.ownBlock=some k\/∃t∈e,t.Fw k)->k<w.heap.size:=λk hk=>by
 rcases hk with q|q|⟨t,f,q⟩
 ·exact h.bo.lt q
 ·exact(h.row.lt k q).2
 ·exact(h.tw t f).lt k q
theorem Hn.more{f:List Tw}(h:Hn w0 z b N f L lv K w)(g:N<=N'):Hn w0 z b N' f L lv K w:=
 ⟨h.bo,h.row,λt e=>⟨(h.tw t e).l,(h.tw t e).r,(h.tw t e).ap,(h.tw t e).bd.le g⟩,h.inj,h.out,h.U9,h.base,h.kept,h.aa0⟩
theorem xI{f:List Tw}{t g:Tw}(hi:f[i]?=some t)(h:g.p.x=t.p.x)(j:g.x=t.x):tab Vv (f.set i g)=tab Vv f:=by
 have e:Vv g=Vv t:=by simp[Vv,h,j]
 induction f generalizing i with
 |nil=>rfl
 |cons a f ih=>
  cases i with
  |zero=>
   simp at hi;subst hi;simp[tab,e]
  |succ i=>grind [tab]
theorem Hn.step{B:List Tw}(h:Hn w0 z b N B L lv K w){t y:Tw}(hi:B[i]?=some t)(ht:Ii N' y w')(D:D8 t.Fw y.Fw w w')(hp:y.p.x=t.p.x)(hx:y.x=t.x)(hN:N<=N'):Hn w0 z b N' (B.set i y) L lv K w':=by
 have O:=Ap hi;have hl:=GG hi;have X:∀k,t.Fw k->w0.heap.size<=k:=λk q=>h.base k (Am (Am ⟨t,O,q⟩))
 have aa:∀(j:Nat) (s:Tw),(B.set i y)[j]?=some s->(j=i/\s=y)\/(j≠i/\B[j]?=some s):=λj s M=>by
  grind
 have m:∀s∈B.set i y,s=y\/∃j,j≠i/\B[j]?=some s:=λs g=>by
  grind [List.mem_iff_getElem?]
 have ac:∀(j:Nat) (s:Tw),j≠i->B[j]?=some s->∀k,y.Fw k->¬s.Fw k:=λj s M g k hk Q=>by
  rcases D.fresh k hk with q|q
  ·exact h.inj i j t s hi g (λe=>M e.symm) k q Q
  ·have:=(h.tw s (Ap g)).lt k Q;omega
 refine⟨h.bo.keep D.E0 (λj q f=>(h.out t O j f).1 q),?_,λs g=>?_,λa c s u g hu ad=>?_,λs g k hk=>?_,h.U9.trans (D.E0.DG h.U9.size X),λk hk=>?_,λk o q=>D.E0.at (h.kept k o q) (λf=>by rw[h.aa0 k (Am (Am ⟨t,O,f⟩))]at q;cases q),λk hk=>?_⟩
 ·rw[BG,xI hi hp hx];exact D.E0.row h.row (λj q f=>(h.out t O j f).2 q)
 ·rcases m s g with rfl|⟨j,M,g⟩
  ·exact ht
  ·have T:=(h.tw s (Ap g)).FX D.E0 (λk q f=>h.inj j i s t g hi M k q f);exact⟨T.l,T.r,T.ap,T.bd.le hN⟩
 ·exact afK
 ·rcases m s g with rfl|⟨j,M,g⟩
  ·rcases D.fresh k hk with q|q
   ·exact h.out t O k q
   ·exact⟨λf=>by have:=h.lt k (Aj f);omega,λf=>by have:=h.lt k (Am (Aj f));omega⟩
  ·exact h.out s (Ap g) k hk
 ·rcases hk with q|q|⟨s,g,q⟩
  ·exact h.base k (Aj q)
  ·exact h.base k (Am (Aj q))
  ·rcases m s g with rfl|⟨j,M,g⟩
   ·rcases D.fresh k q with q|q
    ·exact X k q
    ·exact Br h.U9.size q
   ·exact h.base k (Am (Am ⟨s,Ap g,q⟩))
 exact afK
theorem Hn.Sq{u:List Tw}{m:List V.Kp}{K' O:Ad}(h:Hn w0 z b N u L lv K w)(y:∀j,O.ownBlock=some j->w0.heap.size<=j/\z j=none/\lv.ownBlock≠some j/\∀t∈u,¬t.Fw j)(B:V.Bo b m lv K' w')(g:D8 (λj=>V.OY b L K j\/O.ownBlock=some j) (V.OY b m K') w w'):Hn w0 z b N u m lv K' w':=by
 refine⟨B,g.E0.row h.row (λj q f=>?_),λt e=>(h.tw t e).FX g.E0 (λk q f=>?_),h.inj,λt e k hk=>⟨λf=>?_,(h.out t e k hk).2⟩,h.U9.trans (g.E0.DG h.U9.size (λk q=>?_)),λk hk=>?_,λk o q=>g.E0.at (h.kept k o q) (λf=>?_),λk hk=>?_⟩
 ·all_goals grind [Hn.ji]
 ·rcases f with f|f
  ·exact(h.out t e k q).1 f
  ·exact(y k f).2.2.2 t e q
 ·rcases g.fresh k f with (q|q)|q
  ·exact(h.out t e k hk).1 q
  ·exact(y k q).2.2.2 t e hk
  ·have:=(h.tw t e).lt k hk;omega
 all_goals grind [Hn,V.Bo,D8,V.OY,Hn.free]
theorem Hn.push{y:List Tw}{m:Ad}(h:Hn w0 z b N y L lv K w){t:Tw}(hk:DF (λk=>k=b\/lv.ownBlock=some k) w w')(hc:w'.heap[b]?=some (.cells #[m,K] 69 (0,0)))(hr:w'.ownsRow 0 109 2 m (y.length+1) (tab Vv y++Vv t))(Q:∀j,m.ownBlock=some j->lv.ownBlock=some j\/w.heap.size<=j)(ht:Ii N t w)(hE:∀k,t.Fw k->(w0.heap.size<=k/\z k=none)/\¬(V.OY b L K k\/lv.ownBlock=some k\/∃t∈y,t.Fw k)):Hn w0 z b N (y++[t]) L m K w':=by
 have X:∀j,V.OY b L K j->j≠b->¬(j=b\/lv.ownBlock=some j):=λj q T f=>by
  all_goals grind [Hn.ji]
 have aa:V.Bo b L m K w':=by
  refine⟨hc,hk.row h.bo.row (λj q=>X j (Am (Aj q)) (λe=>h.bo.kb (e ▸ q))),λk O=>⟨(h.bo.Oh k O).1,λs g=>?_⟩⟩;have⟨B,hm⟩:=(h.bo.Oh k O).2 s g;exact⟨B,hk.row hm (λj q=>X j (Am (Am ⟨k,O,s,g,q⟩)) (λe=>(h.bo.apart hm).1 (e ▸ q)))⟩
 have hold:∀s∈y,∀k,s.Fw k->¬(k=b\/lv.ownBlock=some k):=λs g k q f=>by
  rcases f with rfl|f
  ·exact(h.out s g k q).1 (Aj rfl)
  ·exact(h.out s g k q).2 f
 have M:∀k,t.Fw k->¬(k=b\/lv.ownBlock=some k):=λk q f=>by
  rcases f with rfl|f
  ·exact(hE k q).2 (Aj (Aj rfl))
  all_goals grind
 have ab:∀k,t.Fw k->m.ownBlock≠some k:=λk q f=>by
  rcases Q k f with e|e
  ·exact M k q (Am e)
  ·have:=ht.lt k q;omega
 have D:∀(j:Nat) (s:Tw),(y++[t])[j]?=some s->(j<y.length/\y[j]?=some s)\/(j=y.length/\s=t):=λj s hj=>by
  all_goals grind
 refine⟨aa,?_,λs g=>?_,λi j s u g hu T=>?_,λs g k q=>?_,h.U9.trans (hk.DG h.U9.size (λk q=>?_)),λk q=>?_,λk o q=>hk.at (h.kept k o q) (λf=>?_),λk q=>?_⟩
 ·all_goals grind [Jn]
 ·rcases Bj.1 g with g|g
  ·exact(h.tw s g).FX hk (hold s g)
  ·rw[Bg.1 g];exact ht.FX hk M
 ·rcases D i s g with ⟨q1,q2⟩|⟨q1,rfl⟩
  ·rcases D j u hu with ⟨r1,r2⟩|⟨r1,rfl⟩
   ·exact h.inj i j s u q2 r2 T
   all_goals grind
  all_goals grind
 ·rcases Bj.1 g with g|g
  ·refine⟨(h.out s g k q).1,λf=>?_⟩;rcases Q k f with e|e
   ·exact(h.out s g k q).2 e
   ·have:=(h.tw s g).lt k q;omega
  all_goals grind
 all_goals grind [Hn,V.OY,V.Bo,Hn.free]
theorem Hn.kh{f:Nat->Option Obj}{e:List Tw}(h:Hn w0 z b N e L lv K w)(g:∀k o,f k=some o->w.heap[k]?=some o)(j:∀k,(V.OY b L K k\/lv.ownBlock=some k\/∃t∈e,t.Fw k)->f k=none):Hn w0 f b N e L lv K w:=by grind [Hn]
end Go.Proofs.YtblomippkddgiaaGreatDoor
