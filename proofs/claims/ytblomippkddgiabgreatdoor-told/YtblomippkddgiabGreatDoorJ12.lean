import Derived.Test.YtblomippkddgiabGreatDoorJ11
namespace Go.Proofs.YtblomippkddgiabGreatDoor.R
variable {M:Bk}{d:Cd}{c:Cl}{Ae:Int}{bound:List Int}{rb:List UInt8}{l l':Ln}{i k n:Nat}{p:Pk}{r:Sn}{G:Wd}
structure At(G:Wd)(i k:Nat)(c:Cl)(l:Ln):Prop where
 cl:G.Ad[i]?=some c
 ln:c.lines[k]?=some l
theorem Iy(G:Wd)(to:Int)(p:Pk):(Bg G to p).Ad=G.Ad:=by unfold Bg;split<;>rfl
theorem G9(G:Wd)(to:Int)(p:Pk):(Bg G to p).seen=G.seen:=by unfold Bg;split<;>rfl
theorem Iz(G:Wd)(to:Int)(p:Pk):(Bg G to p).Aj=G.Aj:=by unfold Bg;split<;>rfl
theorem Kc(G:Wd)(to:Int)(p:Pk):(Bg G to p).c=G.c:=by unfold Bg;split<;>rfl
theorem At.send(h:At G i k c l)(to:Int)(p:Pk):At (Bg G to p) i k c l:=⟨by rw[Iy];exact h.cl,h.ln⟩
theorem At.set(h:At G i k c l)(l':Ln):At (Am G i k l') i k {c with lines:=c.lines.set k l'} l':=⟨by rw[Bo,h.cl];simp,by simp[(afG.1 h.ln).1]⟩
theorem At.line(h:At G i k c l):BH G i k=l:=CR h.cl h.ln
theorem Ep.same{sv:List Sv}(h:Ep M sv i Ae bound k l)(e1:l'.seq=l.seq)(e2:l'.state=l.state)(e3:l'.uid=l.uid)(e4:l'.message=l.message)(e5:l'.to=l.to)(e6:l'.pieces=l.pieces)(e7:l'.came=l.came)(e8:l'.result=l.result):Ep M sv i Ae bound k l':=by
 refine⟨by rw[e1,e2];exact h.idle,by rw[e1];exact h.made,by rw[e1,e2,e3,e4,e5,e6,e7];exact h.way,by rw[e1,e2,e8];exact h.done,by rw[e2,e8];exact h.none⟩
theorem Ep.over{sv:List Sv}(h:Ep M sv i Ae bound k l)(h1:l.state=1)(e1:l'.seq=l.seq)(e2:3<=l'.state)(e8:l'.result=l.result):Ep M sv i Ae bound k l':=by
 refine⟨?_,by rw[e1];exact h.made,fun q=>by omega,fun q=>by omega,fun _=>by rw[e8];exact h.none (by omega)⟩;rw[e1];have:=h.idle;constructor
 ·intro q;omega
 ·intro q;have:=this.2 q;omega
theorem Mc.over(h:Mc l)(e1:l'.seq=l.seq)(e2:l'.state≠1):Mc l':=⟨by rw[e1];exact h.seq,fun q=>absurd q e2⟩
theorem Inv.way(h:Inv M G)(aa:At G i k c l)(h1:l.state=1):∃d,M ⟨i,c.Ae,k,l.seq⟩=some d/\l.uid=d.uid/\l.message=d.msg:=by
 obtain⟨d,q1,q2,q3,_⟩:=(h.ln i c k l aa.cl aa.ln).way h1;exact⟨d,q1,q2,q3⟩
theorem Inv.piece(h:Inv M G)(ab:At G i k c l)(h1:l.state=1)(ha:l.Ao<Ag l.message)(aa:Bool):Inv M (AA G i k aa):=by
 rw[Je ab.line];have hr:=Mw h.wf ab.cl ab.ln h1 ha aa;refine h.Bg hr ?_;obtain⟨d,q1,q2,q3⟩:=h.way ab h1;refine⟨d,?_,q2,afJ ⟨rfl,rfl,?_,?_⟩⟩
 ·simp only[Dn,D4,Co ab.cl];exact q1
 ·simp only[Dn,q3]
 ·simp only[Dn,q3]
theorem Inv.Ro(h:Inv M G)(aa:At G i k c l)(h1:l.state=1):Inv M (Fw G i k):=by
 rw[Oz aa.line];refine h.Bg (Lm h.wf aa.cl aa.ln h1) ?_;obtain⟨d,q1,q2,q3⟩:=h.way aa h1;refine⟨d,?_,q2,afM (afM (afJ ⟨rfl,rfl⟩))⟩;simp only[Dw,D4,Co aa.cl];exact q1
def D3(G:Wd)(l:Ln)(d:Cd):Ln:=⟨l.seq+1,1,[],d.uid,d.to,d.msg,0,[],0,G.c.Ay,G.c.tries⟩
inductive abX (G:Wd) (client line uid proc:Int) (arg:List It) (r:(Int×Int)×Wd):Prop
 |no (n:Int) (hn:n≠0) (h:r=((0,n),G))
 |yes (i k:Nat) (c:Cl) (l:Ln) (d:Cd) (hi:client=i) (hk:line=k) (hat:At G i k c l) (h1:l.state≠1) (hs:l.seq≠999) (hb:uid∈c.bound) (hu:d.uid=uid) (hp:d.proc=proc) (ha:d.arg=arg) (hd:L9 G.Ab d) (h:r=((l.seq+1,0),AA (Am G i k (D3 G l d)) i k false))
theorem aam(h:Wf G)(client line uid proc:Int)(arg:List It):abX G client line uid proc arg (Cw G client line uid proc arg):=by
 generalize hr:Cw G client line uid proc arg=r;unfold Cw at hr;split at hr
 ·exact .no 13 (by decide) hr.symm
 ·rename_i h1;split at hr
  ·exact .no 14 (by decide) hr.symm
  ·rename_i h2;split at hr
   ·exact .no 15 (by decide) hr.symm
   ·rename_i h3;split at hr
    ·exact .no 16 (by decide) hr.symm
    ·rename_i from' to h4;split at hr
     ·exact .no 4 (by decide) hr.symm
     ·rename_i bs h5;simp only at hr;obtain⟨i,rfl⟩:∃i:Nat,client=(i:Int):=⟨client.toNat,by omega⟩;obtain⟨k,rfl⟩:∃k:Nat,line=(k:Int):=⟨line.toNat,by omega⟩;have hi:i<G.Ad.length:=by omega
      have hc:=afH hi;have aa:=(h.cl i _ hc).lines;have hk:k<G.Ad[i].lines.length:=by omega
      have hl:=afH hk;rw[CR hc hl]at hr;split at hr
      ·exact .no 17 (by decide) hr.symm
      ·rename_i h6;split at hr
       ·exact .no 11 (by decide) hr.symm
       ·rename_i h7;rw[afY,hc]at h3;simp only[af9,af2,Decidable.not_not]at h3;have hb:=(h.cl i _ hc).bound uid h3;exact .yes i k G.Ad[i] G.Ad[i].lines[k] ⟨uid,proc,arg,from',to,bs⟩ rfl rfl ⟨hc,hl⟩ h6 h7 h3 rfl rfl rfl ⟨hb,h4,h5⟩ hr.symm
def upd(M:Bk)(k:Key)(d:Cd):Bk:=fun q=>if q=k then some d else M q
theorem Inv.called(h:Inv M G)(ab:At G i k c l)(hs:l.seq≠999)(hb:d.uid∈c.bound)(hd:L9 G.Ab d):Inv (upd M ⟨i,c.Ae,k,l.seq+1⟩ d) (AA (R.Am G i k (D3 G l d)) i k false)/\M ⟨i,c.Ae,k,l.seq+1⟩=none:=by
 have aa:M ⟨i,c.Ae,k,l.seq+1⟩=none:=by
  cases hq:M ⟨i,c.Ae,k,l.seq+1⟩ with
  |none=>rfl
  |some d'=>
   obtain⟨_,a,ca,n,x,r1,r2,r3,r4,r5,r6,r7,r8,r9⟩:=h.bk _ d' hq;obtain rfl:i=a:=by simp only at r1;omega
   obtain rfl:k=n:=by simp only at r3;omega
   rw[ab.cl]at r2;cases r2;rw[ab.ln]at r4;cases r4;have:=r9 rfl;simp only at this;omega
 refine⟨?_,aa⟩;have ah:=(h.wf.cl i c ab.cl).line k l ab.ln;have hm:=LU hd;have ae:=h.wf.cf;unfold BD at ae;have ak:=ah.seq;have hu:=hd.uid;have ad:=h.wf.sv;have aj:1<=Ag d.msg:=De (by omega);have ai:Mc (D3 G l d):=⟨by simp only[D3];omega,fun _=>⟨by simp only[D3];omega,by simp only[D3];omega,by simp only[D3];omega,by simp only[D3];omega,by simp only[D3];omega,by simp only[D3];omega⟩⟩;have ac:upd M ⟨i,c.Ae,k,l.seq+1⟩ d ⟨i,c.Ae,k,l.seq+1⟩=some d:=by simp[upd]
 have ag:Ep (upd M ⟨i,c.Ae,k,l.seq+1⟩ d) G.Ab i c.Ae c.bound k (D3 G l d):=by
  refine⟨?_,fun _=>⟨d,ac⟩,fun _=>⟨d,ac,rfl,rfl,rfl,hb,?_,?_⟩,?_,fun _=>rfl⟩
  ·simp only[D3];omega
  ·simp[D3]
  ·simp[D3]
  ·simp[D3]
 have af:Le M (upd M ⟨i,c.Ae,k,l.seq+1⟩ d):=fun q x hq=>by
  unfold upd;split
  ·rename_i e;rw[e,aa]at hq;cases hq
  ·exact hq
 have h2:=h.RG (N:=upd M ⟨i,c.Ae,k,l.seq+1⟩ d) ab.cl ab.ln ai (by simp only[D3];omega) af (fun q x hq=>by
  unfold upd at hq;split at hq
  ·rename_i e;cases hq;exact afM ⟨e,hd,by simp only[D3];omega⟩
  ·exact afJ hq) ag
 exact h2.piece (ab.set _) rfl (by simp only[D3];omega) false
theorem Inv.AU(h:Inv M G)(aa:At G i k c l):Inv M (AU G i k):=by
 unfold R.AU;simp only;rw[aa.line];have ab:=(h.wf.cl i c aa.cl).line k l aa.ln;have ac:=h.ln i c k l aa.cl aa.ln;split
 ·exact h
 ·rename_i h1;have h1:l.state=1:=Decidable.not_not.1 h1;obtain⟨z1,z2,z3,z4,z5,z6⟩:=ab.one h1;have ad:=h.wf.cf;unfold BD at ad;split
  ·rename_i h2;exact h.Am aa.cl aa.ln ⟨ab.seq,fun _=>⟨z1,z2,z3,z4,by simp only;omega,z6⟩⟩ (agt _) (ac.same rfl rfl rfl rfl rfl rfl rfl rfl)
  ·split
   ·exact h.Am aa.cl aa.ln (ab.over rfl (by simp)) (agt _) (ac.over h1 rfl (by simp) rfl)
   ·rename_i h2 h3;have hI:=h.Am (l':={l with wait:=G.c.Ay,tries:=l.tries-1}) aa.cl aa.ln ⟨ab.seq,fun _=>⟨z1,z2,z3,z4,by simp only;omega,by simp only;omega⟩⟩ (agt _) (ac.same rfl rfl rfl rfl rfl rfl rfl rfl);split
    ·rename_i h4;exact hI.piece (aa.set _) h1 (Gg.1 h4) true
    ·exact hI.Ro (aa.set _) h1
theorem Inv.rest(h:Inv M G)(aa:At G i k c l):Inv M (ET G i k):=by
 unfold ET;rw[aa.line];have ab:=(h.wf.cl i c aa.cl).line k l aa.ln;have ad:=h.ln i c k l aa.cl aa.ln;have ac:=h.wf.cf;unfold BD at ac;refine h.Am aa.cl aa.ln ⟨ab.seq,fun h1=>?_⟩ (agt _) (ad.same rfl rfl rfl rfl rfl rfl rfl rfl);obtain⟨z1,z2,z3,z4,z5,z6⟩:=ab.one h1;exact⟨z1,z2,z3,z4,by simp only;omega,by simp only;omega⟩
theorem Inv.got(h:Inv M G)(aa:At G i k c l)(h1:l.state=1)(hr:AR p)(hk:p.line=k):Inv M (I1 G i p):=by
 unfold I1;simp only;rw[hk,aa.line,Co aa.cl];obtain⟨d,q1,q2,q3⟩:=h.way aa h1;have hi:=(afG.1 aa.cl).1;have ad:=(afG.1 aa.ln).1;have h0:=h.wf.cl i c aa.cl;obtain⟨z1,z2,z3,z4,z5,z6⟩:=(h0.line k l aa.ln).one h1;have hs:=(h0.line k l aa.ln).seq;have hn:=h.wf.Gt;have ab:=h.wf.cf;have ae:=h0.lines;have ac:=h0.Ae;unfold BD at ab;obtain⟨r1,r2,r3,r4,r5,r6,r7,r8,r9⟩:=hr;refine h.Bg ⟨by simp,by simp only;omega,ac,by simp only;omega,by simp only;omega,z2,r7,r8,by simp[Dm]⟩ ⟨d,q1,q2,afM (afM (afM (afM (afM (afJ ⟨rfl,rfl⟩)))))⟩
theorem He(rb:List UInt8)(n:Nat):rb.take (8*n)++Be rb (n:Int)=rb.take (8*(n+1)):=by
 unfold Be;rw[afY,show 8*(n+1)=8*n+8 by omega,List.take_add]
theorem G5(h:(n:Int)=Ag rb):rb.take (8*n)=rb:=af6 (by unfold Ag at h;omega)
theorem Lj(h:(n:Int)<Ag rb):8*n<rb.length:=by unfold Ag at h;omega
theorem Inv.result(h:Inv M G)(aa:At G i k c l)(h1:l.state=1)(hr:AR p)(hk:p.line=k){e:En}(hd:M ⟨i,c.Ae,k,l.seq⟩=some d)(ah:EW G.Ab ⟨i,c.Ae,k,l.seq⟩ d e rb)(ho:p.off=Ag rb)(hb:p.body=Be rb p.part):Inv M (Dy G i p):=by
 have ai:=(h.wf.cl i c aa.cl).line k l aa.ln;have ab:=h.ln i c k l aa.cl aa.ln;obtain⟨z1,z2,z3,z4,z5,z6⟩:=ai.one h1;obtain⟨d',w1,w2,w3,w4,w5,w6,w7⟩:=ab.way h1;rw[hd]at w1;cases w1;unfold Dy;simp only;rw[hk,aa.line];split
 ·exact h
 ·rename_i hx;split
  ·rename_i hf;obtain⟨n,hn⟩:∃n:Nat,l.pieces=(n:Int):=⟨l.pieces.toNat,by omega⟩;have ag:l.came=rb.take (8*n):=by
    rcases Nat.eq_zero_or_pos n with h0|h0
    ·subst h0;have:l.came.length=0:=by omega
     simp[agL.1 this]
    ·obtain⟨e',al,g1,g2,g3⟩:=w7 (by omega);obtain⟨_,u2⟩:=h.unique hd ah g1;rw[g2,u2,hn,afY]
   have ac:l.came++p.body=rb.take (8*(n+1)):=by rw[ag,hb,hf,hn,He]
   split
   ·rename_i ae;have ad:l.came++p.body=rb:=by rw[ac,G5 (by rw[<-ho,<-ae,hn];rfl)]
    refine h.Am aa.cl aa.ln (ai.over rfl (by simp)) (agt _) ⟨?_,ab.made,by simp,fun _=>⟨d,e,rb,hd,ah,?_⟩,by simp⟩
    ·have:=ab.idle;simp only;omega
    ·simp only;rw[ad,w4,FK ah.bytes]
   ·rename_i ae;have ak:((n+1:Nat):Int)<Ag rb:=by
     have:=hr.2.2.2.2.2.2.2.1;omega
    have h8:=Lj ak;have hI:=h.Am (l':={l with came:=l.came++p.body,pieces:=l.pieces+1,Ao:=Ag l.message}) aa.cl aa.ln ⟨ai.seq,fun _=>⟨z1,z2,z3,by have:=De z3.1;simp only;omega,z5,z6⟩⟩ (agt _) ⟨ab.idle,ab.made,fun _=>⟨d,hd,w2,w3,w4,w5,?_,fun _=>⟨e,rb,ah,?_,?_⟩⟩,ab.done,ab.none⟩
    ·have af:=aa.set {l with came:=l.came++p.body,pieces:=l.pieces+1,Ao:=Ag l.message};have aj:=hI.got af h1 hr hk;refine aj.rest (c:={c with lines:=c.lines.set k {l with came:=l.came++p.body,pieces:=l.pieces+1,Ao:=Ag l.message}}) (l:={l with came:=l.came++p.body,pieces:=l.pieces+1,Ao:=Ag l.message}) ?_;unfold I1;exact af.send _ _
    ·simp only;rw[ac,aga,Nat.min_eq_left (by omega)];omega
    ·simp only;rw[ac,hn];congr 1
    ·simp only;omega
  ·exact h.got aa h1 hr hk
theorem Inv.heard(h:Inv M G)(hr:AR p){to:Int}(ag:to≠-1)(hp:OW M G.Ab to p):Inv M (Ee G to p):=by
 obtain⟨d,hd,hu,hk⟩:=hp;obtain⟨ai,i,c,k,l,r1,r2,r3,r4,r5,r6,r7,r8,r9⟩:=h.bk _ d hd;simp only[D4]at r1 r3 r5 r6 r7 r8 r9;have aa:At G i k c l:=⟨r2,r4⟩;have ah:to=(i:Int):=by
  rcases hk with ⟨_,q,_⟩|⟨_,q,_⟩|⟨_,q⟩|⟨_,q⟩|⟨_,q,_⟩|⟨_,q⟩|⟨_,q,_⟩
  ·exact absurd q ag
  ·rw[q,r1]
  ·exact absurd q ag
  ·rw[q,r1]
  ·rw[q,r1]
  ·exact absurd q ag
  ·rw[q,r1]
 subst ah;unfold Ee;simp only;rw[r3,aa.line,Co aa.cl];split
 ·exact h
 ·rename_i hx;obtain⟨h1,h2,h3⟩:l.state=1/\p.Ae=c.Ae/\p.seq=l.seq:=by
   refine⟨?_,?_,?_⟩<;>omega
  have ad:D4 p=⟨i,c.Ae,k,l.seq⟩:=by simp[D4,r1,h2,r3,h3]
  rw[ad]at hd hk;have af:=(h.wf.cl i c aa.cl).line k l aa.ln;have ae:=h.ln i c k l aa.cl aa.ln;obtain⟨z1,z2,z3,z4,z5,z6⟩:=af.one h1;obtain⟨d',w1,w2,w3,w4,w5,w6,w7⟩:=ae.way h1;rw[hd]at w1;cases w1;split
  ·rename_i aj;split
   ·rename_i ha;have ho:p.off=Ag d.msg:=by
     rcases hk with ⟨q,_⟩|⟨_,_,q⟩|⟨q,_⟩|⟨q,_⟩|⟨q,_⟩|⟨q,_⟩|⟨q,_⟩
     ·omega
     ·exact q
     all_goals omega
    have ac:=hr.2.2.2.2.2.2.2.1;rw[<-w3]at ho;have hI:=h.Am (l':={l with Ao:=l.Ao+1}) aa.cl aa.ln ⟨af.seq,fun _=>⟨z1,z2,z3,by simp only;omega,z5,z6⟩⟩ (agt _) (ae.same rfl rfl rfl rfl rfl rfl rfl rfl);have ab:=aa.set {l with Ao:=l.Ao+1};split
    ·rename_i hm;refine(hI.piece ab h1 hm false).rest (c:={c with lines:=c.lines.set k {l with Ao:=l.Ao+1}}) (l:={l with Ao:=l.Ao+1}) ?_;unfold AA;exact ab.send _ _
    ·exact hI.rest ab
   ·exact h
  ·split
   ·exact h.rest aa
   ·split
    ·rename_i ak;rcases hk with ⟨q,_⟩|⟨q,_⟩|⟨q,_⟩|⟨q,_⟩|⟨_,_,e,rb,q1,q2,q3⟩|⟨q,_⟩|⟨q,_⟩;case inr.inr.inr.inr.inl=>exact h.result aa h1 hr r3 hd q1 q2 q3
     all_goals omega
    ·split
     ·have ac:=hr.2.2.2.2.2.2.2.1;exact h.Am aa.cl aa.ln (af.over rfl (by simp only;omega)) (agt _) (ae.over h1 rfl (by simp only;omega) rfl)
     ·exact h
theorem Bn(h:G.seen[i]?=some r):AY G i=r:=by simp[AY,h]
theorem Inv.G8(h:Inv M G)(hi:i<9):G.seen[i]?=some (AY G i):=by
 have hl:i<G.seen.length:=by rw[h.ws.sl];exact hi
 rw[Bn (afH hl)];exact afH hl
theorem Inv.IP(h:Inv M G)(hr:AR p)(hd:M (D4 p)=some d)(hu:p.uid=d.uid){kind k aa:Int}(hk:1<=kind/\kind<=7)(ho:1<=aa/\aa<=9)(hp:0<=k/\k<aa)(ab:(kind=2/\aa=Ag d.msg)\/kind=4\/(kind=7/\aa=2)):Inv M (C3 G p kind k aa):=by
 obtain⟨r1,r2,r3,r4,r5,r6,r7,r8,r9⟩:=hr;unfold C3;refine h.Bg ⟨hk,r2,r3,r4,r5,r6,ho,by simp only;omega,?_⟩ ⟨d,hd,hu,?_⟩
 ·show Dm _;unfold Dm;rw[if_neg (by simp only;omega)];rfl
 ·rcases ab with ⟨rfl,rfl⟩|rfl|⟨rfl,rfl⟩
  ·exact afM (afJ ⟨rfl,rfl,rfl⟩)
  ·exact afM (afM (afM (afJ ⟨rfl,rfl⟩)))
  ·exact afM (afM (afM (afM (afM (afM ⟨rfl,rfl,rfl⟩)))))
theorem Ng{s:List UInt8}{k:Int}:8*k+8<(s.length:Int)↔k<Ag s-1:=by unfold Ag;omega
theorem Inv.G6(h:Inv M G)(hi:i<9)(hr:G.seen[i]?=some r)(h3:r.state=3):
  AR ⟨5,((i / 3:Nat):Int),(G.Aj[i / 3]?).getD 0,((i % 3:Nat):Int),r.seq,r.uid,r.at',Ag r.result,false,Be r.result r.at'⟩:=by
 have hs:=h.ws.sn i r hr;have ac:r.seq≠0:=fun e=>by
  rw[hs.zero e]at h3;cases h3
 obtain⟨a1,a2,a3⟩:=hs.some ac;obtain⟨b1,b2,b3,b4⟩:=hs.ans h3;have hq:=hs.seq;have ab:∀x∈G.Aj,0<=x/\x<=255:=h.ws.lv;have aa:i / 3<G.Aj.length:=by rw[h.ws.ll];omega
 have ad:=ab _ (agr aa);rw[afX,afH aa]at a1;rw[afH aa];simp only[af2]at a1 ⊢;have ae:=De b1;have af:=El b2;refine⟨by simp,by simp only;omega,by simp only;omega,by simp only;omega,by simp only;omega,a2,by simp only;omega,by simp only;omega,?_⟩;show Dm _;unfold Dm;rw[if_pos (by simp)];exact GZ b3
theorem Inv.DR(h:Inv M G)(hi:i<9)(hr:G.seen[i]?=some r)(h3:r.state=3):Inv M (AL G i):=by
 have ab:=h.G6 hi hr h3;have hs:=h.ws.sn i r hr;have aa:r.seq≠0:=fun e=>by
  rw[hs.zero e]at h3;cases h3
 unfold AL;simp only;rw[Bn hr];refine h.Bg ab ?_;obtain⟨d,q⟩:=h.sn i r hr aa;obtain⟨e,he⟩:=q.ans h3;have hm:=q.made;rw[afX]at hm he;exact⟨d,hm,q.uid,afM (afM (afM (afM (afJ ⟨rfl,rfl,e,r.result,he,rfl,rfl⟩))))⟩
theorem GF.same{sv:List Sv}{k:Key}{r':Sn}(h:GF M sv k r d)(e1:r'.uid=r.uid)(e2:r'.state=r.state)(e3:r'.message=r.message)(e4:r'.pieces=r.pieces)(e5:r'.result=r.result):GF M sv k r' d:=
 ⟨h.made,by rw[e1];exact h.uid,by rw[e2,e3,e4];exact h.Ga,by rw[e2,e3];exact h.wait,by rw[e2];exact h.open',by rw[e2,e5];exact h.ans⟩
theorem Inv.tell(h:Inv M G)(hi:i<9)(hr:G.seen[i]?=some r)(h3:r.state=3):Inv M (Em G i):=by
 have h1:=h.DR hi hr h3;have hs:=h.ws.sn i r hr;have aa:(AL G i).seen[i]?=some r:=by unfold AL;rw[G9];exact hr
 have ae:(AL G i).c=G.c:=by unfold AL;rw[Kc]
 have ac:(AL G i).Aj=G.Aj:=by unfold AL;rw[Iz]
 unfold Em;simp only;rw[Bn aa];have ab:=h.wf.cf;unfold BD at ab;refine h1.AB aa (agt _) ?_ (fun ad=>?_)
 ·rw[ac];refine⟨fun e=>?_,hs.seq,hs.some,hs.Ga,hs.wait,hs.ans,fun _=>⟨h3,by simp only;omega,by simp only;omega⟩⟩;have:=hs.zero e;rw[this]at h3;cases h3
 ·obtain⟨d,q⟩:=h1.sn i r aa ad;exact⟨d,q.same rfl rfl rfl rfl rfl⟩
theorem Inv.AJ(h:Inv M G)(hi:i<9):Inv M (AJ G i):=by
 have hr:=h.G8 hi;unfold R.AJ;simp only;generalize AY G i=r at hr ⊢;have hs:=h.ws.sn i r hr;have ab:=h.wf.cf;unfold BD at ab;split
 ·exact h
 ·rename_i ht;have ht:r.timed=true:=by simpa using ht
  obtain⟨t1,t3,t4⟩:=hs.timed ht;have aa:r.seq≠0:=fun e=>by
   rw[hs.zero e]at t1;cases t1
  have z:∀{r':Sn},r'.seq=r.seq->(r'.seq=0->r'=Cs):=fun e q=>absurd (e ▸ q) aa
  obtain⟨d,q⟩:=h.sn i r hr aa;split
  ·rename_i h1;exact h.AB hr (agt _) ⟨z rfl,hs.seq,hs.some,hs.Ga,hs.wait,hs.ans,fun _=>⟨t1,by simp only;omega,t4⟩⟩ (fun _=>⟨d,q.same rfl rfl rfl rfl rfl⟩)
  ·split
   ·exact h.AB hr (agt _) ⟨z rfl,hs.seq,hs.some,hs.Ga,hs.wait,hs.ans,by simp⟩ (fun _=>⟨d,q.same rfl rfl rfl rfl rfl⟩)
   ·rename_i h1 h2;have h3:=h.AB (r':={r with wait:=G.c.Ay,tries:=r.tries-1}) hr (agt _) ⟨z rfl,hs.seq,hs.some,hs.Ga,hs.wait,hs.ans,fun _=>⟨t1,by simp only;omega,by simp only;omega⟩⟩ (fun _=>⟨d,q.same rfl rfl rfl rfl rfl⟩);exact h3.DR hi (r:={r with wait:=G.c.Ay,tries:=r.tries-1}) (by simp[R.AB,(afG.1 hr).1]) t1
theorem NC(G:Wd)(i k:Int):(AU G i k).c=G.c/\(AU G i k).Ad.length=G.Ad.length:=by
 unfold AU AA Fw;simp only;repeat' split
 all_goals first|exact⟨rfl,rfl⟩|(rw[Kc,Iy];simp[Am];done)|(simp[Am];done)
theorem Inv.tick(h:Inv M G):Inv M (IB G):=by
 have aa:∀(i:Nat) (G:Wd),Inv M G->i<G.Ad.length->∀n:Nat,(n:Int)<=G.c.lines->Inv M ((List.range n).foldl (fun w (k:Nat)=>R.AU w (i:Int) (k:Int)) G)/\((List.range n).foldl (fun w (k:Nat)=>R.AU w (i:Int) (k:Int)) G).c=G.c/\((List.range n).foldl (fun w (k:Nat)=>R.AU w (i:Int) (k:Int)) G).Ad.length=G.Ad.length:=by
  intro i G h hi n;induction n with
  |zero=>exact fun _=>⟨h,rfl,rfl⟩
  |succ n ih=>
   intro hn;obtain⟨q1,q2,q3⟩:=ih (by omega);rw[agx,agU];simp only[ag2,List.foldl_nil];generalize (List.range n).foldl (fun w (k:Nat)=>R.AU w (i:Int) (k:Int)) G=K at q1 q2 q3 ⊢;have ad:i<K.Ad.length:=by omega
   have hc:=afH ad;have hl:=(q1.wf.cl i _ hc).lines;have ae:n<K.Ad[i].lines.length:=by rw[q2]at hl;omega
   obtain⟨s1,s2⟩:=NC K i n;exact⟨q1.AU ⟨hc,afH ae⟩,s1.trans q2,s2.trans q3⟩
 have ac:∀n,n<=G.Ad.length->Inv M ((List.range n).foldl (fun w (i:Nat)=>(List.range w.c.lines.toNat).foldl (fun w (k:Nat)=>R.AU w (i:Int) (k:Int)) w) G)/\((List.range n).foldl (fun w (i:Nat)=>(List.range w.c.lines.toNat).foldl (fun w (k:Nat)=>R.AU w (i:Int) (k:Int)) w) G).Ad.length=G.Ad.length:=by
  intro n;induction n with
  |zero=>exact fun _=>⟨h,rfl⟩
  |succ n ih=>
   intro hn;obtain⟨q1,q2⟩:=ih (by omega);rw[agx,agU];simp only[ag2,List.foldl_nil];generalize (List.range n).foldl (fun w (i:Nat)=>(List.range w.c.lines.toNat).foldl (fun w (k:Nat)=>R.AU w (i:Int) (k:Int)) w) G=K at q1 q2 ⊢;have ab:=q1.wf.cf;unfold BD at ab;obtain⟨s1,s2,s3⟩:=aa n K q1 (by omega) K.c.lines.toNat (by omega);exact⟨s1,s3.trans q2⟩
 have hL:Inv M (EG G):=(ac _ (afI _)).1;have hS:∀n,n<=9->Inv M ((List.range n).foldl R.AJ (EG G)):=by
  intro n;induction n with
  |zero=>exact fun _=>hL
  |succ n ih=>
   intro hn;rw[agx,agU];exact(ih (by omega)).AJ (by omega)
 exact hS 9 (afI _)
theorem Inv.Aj(h:Inv M G)(hr:AR p)(hd:M (D4 p)=some d):Inv M (Dr G p):=by
 unfold Dr;split
 ·rename_i aj;obtain⟨_,i,c,k,l,r1,r2,r3,r4,r5,r6,r7,r8,r9⟩:=h.bk _ d hd;simp only[D4]at r1 r5 r6;obtain⟨_,p2,p3,_⟩:=hr;have ai:i<3:=by omega
  rw[r1,afY]at aj ⊢;have ac:=h.ws.ll;have ak:=h.ws.sl;have hg:∀j,(G.Aj.set i p.Ae).getD j 0=if j=i then p.Ae else G.Aj.getD j 0:=fun j=>by
   simp only[afX,afV];by_cases e:i=j
   ·subst e;simp[ac,ai]
   ·have e2:¬j=i:=fun q=>e q.symm
    simp[e,e2]
  have aa:∀(l:List Sn) (m j:Nat) (r:Sn),(l.set m Cs)[j]?=some r->(m=j/\r=Cs)\/(m≠j/\l[j]?=some r):=fun l m j r hj=>by
   rw[afV]at hj;by_cases e:m=j
   ·rw[if_pos e]at hj;split at hj
    ·exact afJ ⟨e,(Option.some.inj hj).symm⟩
    ·cases hj
   ·rw[if_neg e]at hj;exact afM ⟨e,hj⟩
  have ae:∀(j:Nat) (r:Sn),(((G.seen.set (3*i) Cs).set (3*i+1) Cs).set (3*i+2) Cs)[j]?=some r->(j / 3=i/\r=Cs)\/(j / 3≠i/\G.seen[j]?=some r):=fun j r hj=>by
   rcases aa _ _ j r hj with ⟨e,q⟩|⟨e2,hj⟩
   ·exact afJ ⟨by omega,q⟩
   ·rcases aa _ _ j r hj with ⟨e,q⟩|⟨e1,hj⟩
    ·exact afJ ⟨by omega,q⟩
    ·rcases aa _ _ j r hj with ⟨e,q⟩|⟨e0,hj⟩
     ·exact afJ ⟨by omega,q⟩
     ·exact afM ⟨by omega,hj⟩
  refine⟨⟨h.wf.cf,h.wf.Gt,fun j c hc=>⟨(h.wf.cl j c hc).lines,(h.wf.cl j c hc).Ae,(h.wf.cl j c hc).bound,(h.wf.cl j c hc).line⟩,h.wf.E3,h.wf.Eo,h.wf.sv,h.wf.Kh,h.wf.nm,h.wf.st,h.wf.nd,h.wf.I5⟩,⟨by simpa using ac,fun x hx=>?_,by simpa using ak,fun j r hj=>?_,h.ws.jl,h.ws.jb⟩,h.bk,h.ln,h.fl,fun j r hj ad=>?_,h.lg,fun u s e hs ha he=>?_,h.jb,fun j c' hj=>?_⟩
  ·rcases agc hx with q|q
   ·exact h.ws.lv x q
   ·rw[q];omega
  ·rcases ae j r hj with ⟨_,rfl⟩|⟨q1,q2⟩
   ·exact ZS _
   ·rw[hg,if_neg q1];exact h.ws.sn j r q2
  ·rcases ae j r hj with ⟨_,rfl⟩|⟨q1,q2⟩
   ·exact absurd rfl ad
   ·rw[hg,if_neg q1];exact h.sn j r q2 ad
  ·have ah:=(h.lg u s hs).each e he;obtain⟨de,_,ag,_⟩:=ah.some;obtain⟨_,a,ca,n,x,s1,s2,s3,s4,_⟩:=h.bk _ de ag;simp only[Bl]at s1 s3;have hw:=h.wf.cl a ca s2;have al:=(afG.1 s4).1;have af:=h.wf.cf;unfold BD at af;have am:=hw.lines;unfold Mb;rw[s1,afY];simp only;rw[hg];have hf:=h.R9 u s e hs ha he;unfold Mb at hf;rw[s1,afY]at hf;by_cases ab:a=i
   ·subst ab;rw[if_pos rfl];rcases hf with q|⟨q,_⟩
    ·exact afJ (by omega)
    ·exact afJ (by omega)
   ·rw[if_neg ab];rcases hf with q|⟨q1,q2⟩
    ·exact afJ q
    ·refine afM ⟨q1,?_⟩;unfold Nx at q2 ⊢;have e3:(3*(a:Int).toNat+e.line.toNat) / 3=a:=by rw[s3];omega
     simp only[afV];rw[if_neg (by omega),if_neg (by omega),if_neg (by omega)];exact q2
  ·rw[hg];split
   ·rename_i e;subst e;rw[r2]at hj;cases hj;exact r6
   ·exact h.lv j c' hj
 ·exact h
theorem Inv.Ni(h:Inv M G){js:List Jb}(hl:(js.length:Int)<=G.c.table)(hj:∀j∈js,((0<=j.client/\j.client<=2)/\(0<=j.line/\j.line<=2))/\∃d,M ⟨j.client,j.Ae,j.line,j.seq⟩=some d/\j.uid=d.uid):Inv M {G with jobs:=js}:=
 ⟨⟨h.wf.cf,h.wf.Gt,fun j c hc=>⟨(h.wf.cl j c hc).lines,(h.wf.cl j c hc).Ae,(h.wf.cl j c hc).bound,(h.wf.cl j c hc).line⟩,h.wf.E3,h.wf.Eo,h.wf.sv,h.wf.Kh,h.wf.nm,h.wf.st,h.wf.nd,h.wf.I5⟩,⟨h.ws.ll,h.ws.lv,h.ws.sl,h.ws.sn,hl,fun j q=>(hj j q).1⟩,h.bk,h.ln,h.fl,h.sn,h.lg,h.R9,fun j q=>(hj j q).2,h.lv⟩
structure FY(M:Bk)(G:Wd)(p:Pk)(d:Cd)(i:Nat):Prop where
 right:AR p
 made:M (D4 p)=some d
 uid:p.uid=d.uid
 Ae:p.Ae=G.Aj.getD (i / 3) 0
 i:i=3*p.client.toNat+p.line.toNat
theorem FY.key(h:FY M G p d i):D4 p=⟨((i / 3:Nat):Int),G.Aj.getD (i / 3) 0,((i % 3:Nat):Int),p.seq⟩:=by
 obtain⟨_,p2,_,p4,_⟩:=h.right;have:=h.i;simp only[D4,Key.mk.injEq];exact⟨by omega,h.Ae,by omega,trivial⟩
theorem FY.lt(h:FY M G p d i):i<9:=by
 obtain⟨_,p2,_,p4,_⟩:=h.right;have:=h.i;omega
theorem FY.aaq{G':Wd}(h:FY M G p d i)(e:G'.Aj=G.Aj):FY M G' p d i:=⟨h.right,h.made,h.uid,by rw[e];exact h.Ae,h.i⟩
theorem Inv.Si(h:Inv M G)(ha:FY M G p d i)(ho:p.off=Ag d.msg):Inv M (IX G p):=by
 obtain⟨r1,r2,r3,r4,r5,r6,r7,r8,r9⟩:=ha.right;unfold IX;split
 ·exact h.IP ha.right ha.made ha.uid (by decide) r7 (by omega) (afJ ⟨rfl,ho⟩)
 ·exact h
theorem Inv.gather(h:Inv M G)(ha:FY M G p d i)(ho:p.off=Ag d.msg)(hb:p.body=Be d.msg p.part)(hr:G.seen[i]?=some r)(hs:r.seq=p.seq)(h1:r.state=1):Inv M (CL G i p):=by
 have aa:=h.ws.sn i r hr;obtain⟨_,_,_,_,am,_,ak,al,_⟩:=ha.right;have af:r.seq≠0:=by omega
 obtain⟨d',q⟩:=h.sn i r hr af;have ad:=ha.key;rw[<-hs]at ad;have ah:d'=d:=by
  have:=q.made;rw[<-ad,ha.made]at this;exact(Option.some.inj this).symm
 subst ah;obtain⟨g1,g2⟩:=q.Ga h1;obtain⟨g3,g4,g5⟩:=aa.Ga h1;have aj:=LU (h.bk _ _ q.made).1;obtain⟨n,hn⟩:∃n:Nat,r.pieces=(n:Int):=⟨r.pieces.toNat,by omega⟩;rw[hn,afY]at g1;have hi:=ha.lt;unfold CL;simp only;rw[Bn hr];split
 ·rename_i hf;have ab:r.message++p.body=d'.msg.take (8*(n+1)):=by rw[g1,hb,hf,hn,He]
  split
  ·rename_i ae;have ac:r.message++p.body=d'.msg:=by rw[ab,G5 (by rw[<-ho];omega)]
   split
   ·exact h
   ·rename_i ag;have h2:=h.AB (r':={r with state:=2,message:=r.message++p.body,pieces:=r.pieces+1}) hr (agt _) ⟨fun e=>absurd e af,aa.seq,fun e=>⟨(aa.some e).1,(aa.some e).2.1,by simp⟩,by simp,by simp only[ac];omega,by simp,fun ht=>by have:=(aa.timed ht).1;omega⟩ (fun _=>⟨d',q.made,q.uid,by simp,fun _=>ac,fun _=>q.open' (afJ h1),by simp⟩);have h3:=h2.Ni (js:=G.jobs++[⟨p.client,p.line,p.Ae,p.seq,p.uid⟩]) (by simp only[afS,agA];show _<=G.c.table;omega) (fun j hj=>by
     rcases agb.1 hj with hj|hj
     ·exact⟨h.ws.jb j hj,h.jb j hj⟩
     ·rw[af3.1 hj];obtain⟨_,p2,_,p4,_⟩:=ha.right;exact⟨⟨p2,p4⟩,d',ha.made,ha.uid⟩)
    exact h3.Si (ha.aaq rfl) ho
  ·rename_i ae;have ai:((n+1:Nat):Int)<Ag d'.msg:=by omega
   have h8:=Lj ai;have h2:=h.AB (r':={r with message:=r.message++p.body,pieces:=r.pieces+1}) hr (agt _) ⟨fun e=>absurd e af,aa.seq,aa.some,fun _=>?_,fun e=>by simp only at e;omega,aa.ans,aa.timed⟩ (fun _=>⟨d',q.made,q.uid,fun _=>⟨?_,?_⟩,fun e=>by simp only at e;omega,q.open',q.ans⟩)
   ·exact h2.Si (ha.aaq rfl) ho
   ·simp only;rw[ab,aga,Nat.min_eq_left (by omega)];omega
   ·simp only;rw[ab,hn];congr 1
   ·simp only;omega
 ·exact h.Si ha ho
theorem Inv.known(h:Inv M G)(ha:FY M G p d i)(hk:(p.kind=1/\p.off=Ag d.msg/\p.body=Be d.msg p.part)\/p.kind=3)(hr:G.seen[i]?=some r)(hs:r.seq=p.seq):Inv M (Dq G i p):=by
 obtain⟨r1,r2,r3,r4,r5,r6,r7,r8,r9⟩:=ha.right;unfold Dq;simp only;rw[Bn hr];split
 ·rename_i h1;split
  ·rename_i hx;rcases hk with ⟨_,ho,hb⟩|q
   ·exact h.gather ha ho hb hr hs h1
   ·omega
  ·exact h
 ·split
  ·exact h.IP ha.right ha.made ha.uid (by decide) (by decide) (by decide) (afM (afM ⟨rfl,rfl⟩))
  ·split
   ·exact h
   ·split
    ·rename_i h3;exact h.tell ha.lt hr h3
    ·split
     ·exact h.IP ha.right ha.made ha.uid (by decide) (by decide) (by decide) (afM (afJ rfl))
     ·rcases hk with ⟨_,ho,hb⟩|q
      ·exact h.IP ha.right ha.made ha.uid (by decide) r7 (by omega) (afJ ⟨rfl,ho⟩)
      ·contradiction
theorem Mf{sv:List Sv}{u:Int}(h:DC sv u=true):∃(n:Nat) (s:Sv),u=(n:Int)+1/\sv[n]?=some s/\s.alive=true:=by
 unfold DC at h;rw[Bool.and_eq_true,decide_eq_true_eq]at h;cases ha:sv[(u-1).toNat]? with
 |none=>rw[ha]at h;simp at h
 |some s=>
  rw[ha]at h;exact⟨(u-1).toNat,s,by omega,ha,by simpa using h.2⟩
theorem Inv.ask(h:Inv M G)(ha:FY M G p d i)(hk:(p.kind=1/\p.off=Ag d.msg/\p.body=Be d.msg p.part)\/p.kind=3\/p.kind=6):Inv M (JI G i p):=by
 have hr:=h.G8 ha.lt;unfold JI;simp only;generalize AY G i=r at hr ⊢;have aa:=h.ws.sn i r hr;obtain⟨_,_,_,_,ap,_,an,ao,_⟩:=ha.right;split
 ·split
  ·rename_i hx;obtain⟨x1,x2,x3,x4,x5⟩:=hx;obtain⟨b1,b2,b3,b4⟩:=aa.ans x2;have ag:r.seq≠0:=by omega
   obtain⟨d',q⟩:=h.sn i r hr ag;have h2:=h.AB (r':={r with at':=r.at'+1}) hr (agt _) ⟨fun e=>absurd e ag,aa.seq,aa.some,aa.Ga,aa.wait,fun _=>⟨b1,b2,by simp only;omega,by simp only;omega⟩,aa.timed⟩ (fun _=>⟨d',q.same rfl rfl rfl rfl rfl⟩);exact h2.tell ha.lt (r:={r with at':=r.at'+1}) (by simp[R.AB,(afG.1 hr).1]) x2
  ·exact h
 ·rename_i h6;have af:(p.kind=1/\p.off=Ag d.msg/\p.body=Be d.msg p.part)\/p.kind=3:=by
   rcases hk with q|q|q
   ·exact afJ q
   ·exact afM q
   ·exact absurd q h6
  split
  ·rename_i hs;exact h.known ha af hr hs
  ·split
   ·exact h
   ·split
    ·exact h.IP ha.right ha.made ha.uid (by decide) (by decide) (by decide) (afM (afM ⟨rfl,rfl⟩))
    ·rename_i hs al ac;have ac:DC G.Ab p.uid=true:=by simpa [Ff,DC] using ac
     split
     ·exact h
     ·split
      ·exact h.IP ha.right ha.made ha.uid (by decide) (by decide) (by decide) (afM (afM ⟨rfl,rfl⟩))
      ·have ab:=ha.key;have ai:=(h.bk _ d ha.made).1;have am:=LU ai;have ah:=h.wf.sv;obtain⟨_,_,aj,_,_,ak,_⟩:=ha.right;have h2:=h.AB (r':={Cs with seq:=p.seq,uid:=p.uid,state:=1}) hr (by simp only;omega) ⟨fun e=>by simp only at e;omega,by simp only;omega,fun _=>⟨by rw[<-ha.Ae];exact aj.1,ak,by simp⟩,by simp[Cs],by simp,by simp,by simp[Cs]⟩ (fun _=>⟨d,by rw[<-ab];exact ha.made,ha.uid,fun _=>⟨by simp[Cs],by simp only[Cs];omega⟩,by simp,fun _=>?_,by simp⟩)
       ·exact h2.known (ha.aaq rfl) af (r:={Cs with seq:=p.seq,uid:=p.uid,state:=1}) (by simp[R.AB,(afG.1 hr).1]) rfl
       ·rw[<-ha.uid];refine⟨ac,fun e he ae=>?_⟩;obtain⟨n,s,a1,a2,a3⟩:=Mf ac;rw[a1,J6 a2]at he;have hf:=h.R9 n s e a2 a3 he;rw[<-ab]at ae;simp only[Bl,D4,Key.mk.injEq]at ae;obtain⟨e1,e2,e3,e4⟩:=ae;unfold Mb Nx at hf;rw[e1,e2,e3,e4,<-ha.i,hr]at hf;have hl:=ha.Ae;obtain⟨_,p2,_,p4,_⟩:=ha.right;have ad:i / 3=p.client.toNat:=by have:=ha.i;omega
        rw[ad]at hl;simp only[af2]at hf;omega
theorem QT(h:¬p.Ae<G.Aj.getD p.client.toNat 0)(hl:p.client.toNat<G.Aj.length):(Dr G p).Aj.getD p.client.toNat 0=p.Ae:=by
 unfold Dr;split
 ·simp[hl]
 ·omega
theorem Inv.asked(h:Inv M G)(hr:AR p)(hp:OW M G.Ab (-1) p):Inv M (Er G p):=by
 obtain⟨d,hd,hu,hk⟩:=hp;obtain⟨_,p2,_,p4,_⟩:=id hr;have aa:(-1:Int)≠p.client:=by omega
 have ac:(p.kind=1/\p.off=Ag d.msg/\p.body=Be d.msg p.part)\/p.kind=3\/p.kind=6:=by
  rcases hk with ⟨q1,_,q2,q3⟩|⟨_,q,_⟩|⟨q,_⟩|⟨_,q⟩|⟨_,q,_⟩|⟨q,_⟩|⟨_,q,_⟩
  ·exact afJ ⟨q1,q2,q3⟩
  ·exact absurd q aa
  ·exact afM (afJ q)
  ·exact absurd q aa
  ·exact absurd q aa
  ·exact afM (afM q)
  ·exact absurd q aa
 unfold Er;split
 ·exact h
 ·rename_i hx;have h2:=h.Aj hr hd;refine h2.ask (d:=d) ⟨hr,hd,hu,?_,rfl⟩ ac;have ab:(3*p.client.toNat+p.line.toNat) / 3=p.client.toNat:=by omega
  rw[ab,QT hx (by rw[h.ws.ll];omega)]
theorem Inv.Cr(h:Inv M G)(i:Int):Inv M (Bc G i).2:=by
 unfold Bc;split
 ·exact h
 ·split
  ·exact h
  ·rename_i f hf;have hI:=h.erase i.toNat;have aa:=h.fl f (afU hf);unfold Ma at aa;simp only;split
   ·exact hI
   ·rename_i hb;rw[if_neg hb]at aa;obtain⟨p,q1,q2,q3⟩:=aa;rw[q2,Fx q1];simp only;split
    ·rename_i ht;rw[ht]at q3;exact hI.asked q1 q3
    ·rename_i ht;exact hI.heard q1 ht q3
end Go.Proofs.YtblomippkddgiabGreatDoor.R
