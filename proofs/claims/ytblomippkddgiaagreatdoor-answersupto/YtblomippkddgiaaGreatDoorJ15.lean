import Derived.Test.YtblomippkddgiaaGreatDoorJ14
namespace Go.Proofs.YtblomippkddgiaaGreatDoor
open Go.Proofs.Tryz
open Go.RowKit Go.Maps
variable {E F:D9}{b n:Nat}{l:R.Ln}{G:R.Wd}{k:TypeId}{w w':World}
def Mp{α:Type}(w:Aa)(k:Ag)(b:Nat)(lit:α->Lit)(g:α->Option Int)(n:Nat):Prop:=
 ∃D:DataW Unit,w.ownsMap Tryz.prog k (plainElem Tryz.prog 3) b n D/\Maps.size D=n/\∀a,Maps.has D (lit a)=(g a).isSome/\∀v,g a=some v->D.atKey (lit a) (.lit (.int .i64 0))=.lit (.int .i64 v)
theorem Mp.keep{α:Type}{lit:α->Lit}{g:α->Option Int}(h:Mp w k b lit g n)(hk:DF F w w')(e:¬F b):Mp w' k b lit g n:=by grind [Mp,DF.map]
theorem Mp.lt{α:Type}{lit:α->Lit}{g:α->Option Int}(h:Mp w k b lit g n):b<w.heap.size:=by
 have⟨D,e,_⟩:=h;exact e.lt
theorem Mp.block{α:Type}{lit:α->Lit}{g:α->Option Int}(h:Mp w k b lit g n):∃e cl,w.heap[b]?=some (.map e cl):=by
 have⟨D,⟨e,cl,f,_⟩,_⟩:=h;exact⟨e,cl,f⟩
theorem Mp.congr{α:Type}{lit:α->Lit}{g e:α->Option Int}(h:Mp w k b lit g n)(f:∀a,e a=g a):Mp w k b lit e n:=by grind [Mp]
structure J7 where
 DK:Int
 D4:Int
 rv:Value
 D5:Int
 Eo:Int
 J9:List UInt8
 Ea:Int
 EK:List UInt8
 El:Int
 DW:Int
def J7.cells(x:J7):List Value:=[Z x.DK,Z x.D4,x.rv,Z x.D5,Z x.Eo,.string (str x.J9),Z x.Ea,.string (str x.EK),Z x.El,Z x.DW]
theorem J7.len(x:J7):x.cells.length=10:=rfl
structure VA(l:R.Ln)(x:J7):Prop where
 DK:x.DK=l.DK
 D4:x.D4=l.D4
 Kw:l.DK≠2->l.DU=[]
 one:l.DK=1->x.D5=l.D5/\x.J9=l.DC/\x.Ea=l.Ea/\x.El=l.El/\x.DW=l.DW
 two:l.DK=1->x.EK=l.EK/\(x.Eo=0\/x.Eo=1)/\l.DC.take 2=EU x.Eo
structure MG(ls:List R.Ln)(xs:List J7):Prop where
 len:xs.length=ls.length
 each:∀(k:Nat) (l:R.Ln) (x:J7),ls[k]?=some l->xs[k]?=some x->VA l x
theorem MG.get{f:List R.Ln}{xs:List J7}(h:MG f xs){k:Nat}(hl:f[k]?=some l):∃x,xs[k]?=some x/\VA l x:=by
 have hk:=GG hl;obtain⟨x,e⟩:∃x,xs[k]?=some x:=⟨xs[k]'(by rw[h.len];exact hk),Ah _⟩;exact⟨x,e,h.each k l x hl e⟩
theorem MG.set{e:List R.Ln}{xs:List J7}(h:MG e xs){k:Nat}{x:J7}(f:VA l x):MG (e.set k l) (xs.set k x):=by grind [MG]
def Iq(w:Aa)(F:D9)(ls:List R.Ln)(xs:List J7):Prop:=∀(k:Nat) (l:R.Ln) (x:J7),ls[k]?=some l->xs[k]?=some x->Gg w F x.rv l.DU
theorem Iq.KC{F':D9}{e:List R.Ln}{xs:List J7}(h:Iq w F e xs)(hk:DF E w w')(g:Pp w F E)(f:∀k,F k->F' k):Iq w' F' e xs:=by grind [Iq,Gg.KC]
theorem Iq.set{e:List R.Ln}{xs:List J7}(h:Iq w F e xs){k:Nat}{x:J7}(f:Gg w F x.rv l.DU):Iq w F (e.set k l) (xs.set k x):=by grind [Iq]
def Gp(f:R.Fl):List Value:=[Z f.to,.string (str f.s),.bool f.Ij]
theorem JN(f:R.Fl):(Gp f).length=3:=rfl
structure Pl where
 x:Nat
 n:Nat
 s:Nat
 cs:Nat
 cap:Nat
 nm:Nat
 cb:Nat->Nat
 lb:Nat->Nat
 bm:Nat->Nat
 t:SP
abbrev Si(l:Ac):Lit:=.string l
abbrev Vl(u:Int):Lit:=.int .i64 u
def Fu(G:R.Wd)(s:Ac):Option Int:=(R.Gi G s).map λk=>G.Ec.getD k 0
def GU(G:R.Wd)(u:Int):Int:=((G.Dy[(u-1).toNat]?).map (·.Dz)).getD 0
def GY(G:R.Wd)(c:R.Cl)(u:Int):Option Int:=if u∈c.Ee then some (GU G u) else none
def dd(l:List Int):List Int:=l.foldl (λacc u=>if u∈acc then acc else acc++[u]) []
abbrev aee(p:Pl)(n:Nat):Array Value:=#[ptr p.n,ptr p.s,EJ p.cs n p.cap]
abbrev acS(p:Pl)(G:R.Wd)(i:Nat)(c:R.Cl):Array Value:=#[Z i,Z c.DR,.map (some (p.bm i)),.slice (some ⟨p.lb i,0,none⟩) c.DV.length c.DV.length,Z G.c.Ew,Z G.c.DW,ptr p.n]
structure LW(p:Pl)(F:D9)(G:R.Wd)(w:Aa):Prop where
 wf:R.Wf G
 GQ:R.MX G.c G.DX G.DN G.EF
 bx:w.heap[p.x]?=some (.cells (aee p G.DI.length) 84 (0,0))
 bcs:∃cur:Array Value,w.heap[p.cs]?=some (.cells cur 89 (0,0))/\∀i,i<G.DI.length->cur[i]?=some (ptr (p.cb i))
 bn:∃K,w.heap[p.n]?=some (.cells #[K] 113 (0,0))/\w.ownsRow 0 122 3 K G.Ej.length (tab Gp G.Ej)/\∀j,K.ownBlock=some j->F j
 Hd:G9 p.s p.n p.nm p.t F G.c G.Dy G.DX G.DN G.EF w
 Eu:Mp w 9 p.nm Si (Fu G) G.Eu.length
 cl:∀(i:Nat) (c:R.Cl),G.DI[i]?=some c->w.heap[p.cb i]?=some (.cells (acS p G i c) 134 (0,0))
 ln:∀(i:Nat) (c:R.Cl),G.DI[i]?=some c->∃xs,w.heap[p.lb i]?=some (.cells (tab J7.cells xs).toArray 139 (0,0))/\MG c.DV xs/\Iq w F c.DV xs
 Ee:∀(i:Nat) (c:R.Cl),G.DI[i]?=some c->Mp w 3 (p.bm i) Vl (GY G c) (dd c.Ee).length
 Fw:F p.x/\F p.n/\F p.cs/\F p.nm
 Gs:∀i,i<G.DI.length->F (p.cb i)/\F (p.lb i)/\F (p.bm i)/\p.bm i≠p.nm
 inj:∀i j,i<G.DI.length->j<G.DI.length->i≠j->p.lb i≠p.lb j/\p.bm i≠p.bm j/\p.cb i≠p.cb j
 lt:∀k,F k->k<w.heap.size
theorem LW.FX{p:Pl}(h:LW p F G w)(hk:DF E w w')(f:∀k,F k->¬E k):LW p F G w':=by
 have⟨y,hn,m,j⟩:=h.Fw;have e:=λ(i:Nat) (c:R.Cl) (hc:G.DI[i]?=some c)=>(GG hc)
 have g:Ip w F E:=Ip.apart f;refine⟨h.wf,h.GQ,hk.at h.bx (f _ y),?_,?_,h.Hd.keep hk g (λ_ q=>q),h.Eu.keep hk (f _ j),λi c hc=>hk.at (h.cl i c hc) (f _ (h.Gs i (e i c hc)).1),λi c hc=>?_,λi c hc=>(h.Ee i c hc).keep hk (f _ (h.Gs i (e i c hc)).2.2.1),h.Fw,h.Gs,h.inj,λk u=>Ai (h.lt k u) hk.size⟩;all_goals grind [LW,DF,DF.row,Iq.KC,Ip.sv]
theorem LW.DG{p:Pl}(h:LW p F G w)(e:DY w w'):LW p F G w':=h.FX (DF.D6 e (λ_=>False)) (λ_ _ h=>h)
theorem LW.Sr{p:Pl}(h:LW p F G w){i k:Nat}{c:R.Cl}{xs:List J7}{l':R.Ln}{x':J7}(hc:G.DI[i]?=some c)(D:w.heap[p.lb i]?=some (.cells (tab J7.cells xs).toArray 139 (0,0)))(hr:MG c.DV xs)(ae:Iq w F c.DV xs)
  (hk:DF (λb=>b=p.lb i) w w') (aa:w'.heap[p.lb i]?=some (.cells (tab J7.cells (xs.set k x')).toArray 139 (0,0))) (ab:R.O0 l') (ah:VA l' x') (ak:Gg w F x'.rv l'.DU):LW p F (R.Eh G i k l') w':=by
 have⟨hx,hn,an,aq⟩:=h.Fw;have hi:=GG hc;have y:Ip w F (λb=>b=p.lb i):=Ip.one D Em;have f:(R.Eh G i k l').DI.length=G.DI.length:=by simp[R.Eh]
 have M:∀j m,(R.Eh G i k l').DI[j]?=some m->∃c0,G.DI[j]?=some c0/\m=(if i=j then {c0 with DV:=c0.DV.set k l'} else c0):=λj m B=>by
  grind [R.Ft]
 have at':∀{b:Nat} {o:Obj},w.heap[b]?=some o->b≠p.lb i->w'.heap[b]?=some o:=λhb ac=>hk.at hb ac
 refine⟨h.wf.Eh ab,h.GQ,?_,?_,?_,?_,?_,λj m B=>?_,λj m B=>?_,λj m B=>?_,h.Fw,?_,?_,λk hf=>Ai (h.lt k hf) hk.size⟩
 ·rw[f];exact at' h.bx (ES h.bx D Em)
 ·have⟨X,Q,T⟩:=h.bcs
  grind
 ·have⟨K,Q,T,h3⟩:=h.bn;refine⟨K,at' Q (ES Q D Em),hk.row T (λj B=>?_),h3⟩;rcases T.2 with ⟨rfl,_⟩|⟨g,cap,X,rfl,_,hg,_⟩
  ·cases B
  ·cases B;exact ES hg D Em
 ·exact h.Hd.keep hk y (λ_ q=>q)
 ·have⟨es,q,hq⟩:=h.Eu.block;exact h.Eu.keep hk (On D hq).symm
 ·obtain⟨c0,u,rfl⟩:=M j m B;have:=at' (h.cl j c0 u) (ES (h.cl j c0 u) D Em)
  grind [R.Eh]
 ·obtain⟨c0,u,rfl⟩:=M j m B;by_cases O:i=j
  ·subst O;obtain rfl:=Option.some.inj (hc.symm.trans u);simp only[CQ];exact⟨_,aa,hr.set ah,(ae.KC hk y.sv (λ_ q=>q)).set (ak.KC hk y.sv (λ_ q=>q))⟩
  ·have⟨ys,Q,T,h3⟩:=h.ln j c0 u;simp only[O,if_false];exact⟨ys,at' Q ((h.inj j i (GG u) hi (λe=>O e.symm)).1),T,h3.KC hk y.sv (λ_ q=>q)⟩
 ·obtain⟨c0,u,rfl⟩:=M j m B;have⟨es,q,hq⟩:=(h.Ee j c0 u).block;have:=(h.Ee j c0 u).keep hk (On D hq).symm;split<;>exact this
 ·rw[f];exact h.Gs
 ·rw[f];exact h.inj
end Go.Proofs.YtblomippkddgiaaGreatDoor
namespace Go.Proofs.YtblomippkddgiaaGreatDoor.R
open Go.Proofs.Tryz
variable {M:Bk}{d:Cd}{c:Cl}{DR:Int}{Ee:List Int}{rb:List UInt8}{l l':Ln}{i k n:Nat}{p:Pk}{G:Wd}
theorem vM(DR:Int):Tm DR Ic:=⟨λ_=>rfl,by simp[Ic],by simp[Ic],by simp[Ic],by simp[Ic],by simp[Ic],by simp[Ic]⟩
theorem ws0{c:Cf}(h:GA c):MX c [0,0,0] (List.replicate 9 Ic) []:=by
 refine⟨rfl,Ev,Ev,λi r e=>?_,?_,Ev⟩;all_goals grind [vM,GA]
theorem ada(M:Bk)(sv:List Sv)(i:Nat)(DR:Int)(b:List Int)(k:Nat):JH M sv i DR b k Vm:=⟨by simp[Vm],by simp[Vm],by simp[Vm],by simp[Vm],by simp[Vm]⟩
theorem sS:O0 Vm:=⟨by simp[Vm],by simp[Vm]⟩
theorem Yw{DV:Int}(h:(RF DR DV).DV[k]?=some l):l=Vm:=by grind [RF]
theorem Inv.new{c:Cf}(h:fh c=some G):Inv (λ_=>none) G:=by
 unfold fh at h;split at h
 ·rename_i hc;cases h;have j:∀(i:Nat) (x:Cl),(List.replicate c.DI.toNat (RF 1 c.DV))[i]?=some x->x=RF 1 c.DV:=λi x f=>by
   grind
  have g:=hc;unfold GA at g;refine⟨⟨hc,Fy,λi x f=>?_,Ev,Ev,Ev,Ev,Ev,Ev,Ev,Ev⟩,ws0 hc,Ev,λi x k l f hl=>?_,Ev,λi r e m=>?_,Ev,Ev,Ev,λi x f=>?_⟩
  ·rw[j i x f];exact⟨by simp[RF];omega,by simp[RF],by simp[RF],λk l hl=>by rw[Yw hl];exact sS⟩
  ·grind [Yw,ada]
  ·simp only[Be]at e;split at e
   ·cases e;exact absurd rfl m
   ·cases e
  grind [RF]
 ·cases h
theorem VP(G:Wd)(D5:Int)(u:Nat):(GR G D5).Dy[u]?=(G.Dy[u]?).map λs=>if (D5-1).toNat=u then {s with Fj:=false} else s:=by grind [GR]
theorem Inv.end(h:Inv M G)(D5:Int)(hu:1<=D5):Inv M (GR G D5):=by
 have y:∀(u:Nat) (s:Sv),G.Dy[u]?=some s->∃g,(GR G D5).Dy[u]?=some g/\g.Dz=s.Dz/\g.log=s.log/\(g.Fj=true->s.Fj=true)/\((D5-1).toNat≠u->g=s):=λu s m=>by
  grind [VP]
 have ac:∀u:Nat,G.Dy[u]?=none->(GR G D5).Dy[u]?=none:=λu m=>by rw[VP,m];rfl
 have hg:Gr G.Dy (GR G D5).Dy:=by
  refine⟨by simp[GR],λu s m=>?_⟩;have⟨g,B,D,X,_⟩:=y u s m;exact⟨g,B,D,[],by simp[X]⟩
 have ae:∀(u:Nat) (g:Sv),(GR G D5).Dy[u]?=some g->∃s,G.Dy[u]?=some s/\g.Dz=s.Dz/\g.log=s.log/\(g.Fj=true->s.Fj=true):=λu g m=>by
  grind
 have aa:∀u,Mj (GR G D5).Dy u=Mj G.Dy u:=λu=>by
  unfold Mj;cases j:G.Dy[(u-1).toNat]? with
  |none=>rw[ac _ j]
  |some s=>
   have⟨s2,B,D,X,h4,_⟩:=y _ s j;rw[B];exact X
 have ak:∀u,u≠D5->1<=u->Jt (GR G D5).Dy u=Jt G.Dy u:=λu w B=>by
  unfold Jt;cases j:G.Dy[(u-1).toNat]? with
  |none=>rw[ac _ j]
  |some s=>
   have⟨s2,q1,_,_,_,q5⟩:=y _ s j;rw[q1,q5 U]
 have ad:∀(i:Nat) (T:Sn),(GR G D5).DN[i]?=some T->∃r,G.DN[i]?=some r/\T=(if r.D5=D5/\r.DK<3 then {r with DK:=4} else r):=λi T hr=>by
  grind [GR]
 refine⟨h.wf.ends D5,⟨h.ws.ll,h.ws.lv,by simpa [GR] using h.ws.sl,λi T hr=>?_,h.ws.jl,h.ws.jb⟩,λk d hd=>⟨(h.bk k d hd).1.grow hg,(h.bk k d hd).2⟩,λi c k l hc hl=>(h.ln i c k l hc hl).grow (Le.refl M) hg (λ_ q=>q),λf hf=>(h.fl f hf).grow (Le.refl M) hg,λi T hr w=>?_,λu g m=>?_,λu g e m ha he=>?_,h.jb,h.lv⟩
 ·obtain⟨r,j,rfl⟩:=ad i T hr;have q:=h.ws.sn i r j;by_cases Q:r.D5=D5/\r.DK<3
  ·rw[Ay Q];have O:r.D4≠0:=λe=>by
    have:=q.zero e;rw[this]at Q;have:Ic.D5=0:=rfl;omega
   have ht:r.E1=false:=by
    cases e:r.E1 with
    |false=>rfl
    |true=>have:=(q.E1 e).1;omega
   exact⟨λe=>absurd e O,q.D4,λ_=>⟨(q.some O).1,(q.some O).2.1,Ev⟩,Ev,Ev,Ev,by simp[ht]⟩
  ·rw[Ao Q];exact q
 ·obtain⟨r,j,rfl⟩:=ad i T hr;by_cases Q:r.D5=D5/\r.DK<3
  ·rw[Ay Q]at w ⊢;have⟨d,q⟩:=h.sn i r j w;exact⟨d,q.Gw,q.D5,Ev,Ev,Ev,Ev⟩
  ·rw[Ao Q]at w ⊢;have⟨d,q⟩:=h.sn i r j w;refine⟨d,q.Gw,q.D5,q.Lu,q.El,λm=>?_,λm=>?_⟩
   ·have⟨q1,q2⟩:=q.open' m;have ab:d.D5≠D5:=λe=>Q ⟨by rw[q.D5];exact e,U⟩
    have B:=(h.bk _ d q.Gw).1.D5.1;exact⟨by rw[ak d.D5 ab B];exact q1,by rw[aa];exact q2⟩
   ·have⟨e,he⟩:=q.MY m;exact⟨e,he.grow hg⟩
 ·have⟨s,j,B,D,_⟩:=ae u g m;have q:=h.lg u s j;exact⟨by rw[D];exact q.each,by rw[D];exact q.ord,by rw[B,D];exact q.told⟩
 ·have⟨s,j,B,D,X⟩:=ae u g m;rw[D]at he;have q:=h.jE u s e j (X ha) he;rcases q with q|⟨q1,q2⟩
  ·exact Aj q
  ·refine Am ⟨q1,Dj q2 ?_⟩;unfold Vu
   grind [GR]
theorem Inv.fT(h:Inv M G){nm:List (List UInt8)}{st:List Int}(e:Wf {G with Eu:=nm,Ec:=st}):Inv M {G with Eu:=nm,Ec:=st}:=⟨e,h.ws,h.bk,h.ln,h.fl,h.sn,h.lg,h.jE,h.jb,h.lv⟩
theorem Inv.serve(h:Inv M G){Dz:Int}(T:Wf {G with Dy:=G.Dy++[⟨Dz,true,[]⟩]}):Inv M {G with Dy:=G.Dy++[⟨Dz,true,[]⟩]}:=by
 have y:Gr G.Dy (G.Dy++[⟨Dz,true,[]⟩]):=⟨Ev,λu s g=>⟨s,by rw[A6 (GG g)];exact g,rfl,[],Ev⟩⟩;have m:∀(u:Nat) (j:Sv),(G.Dy++[⟨Dz,true,[]⟩])[u]?=some j->G.Dy[u]?=some j\/j=⟨Dz,true,[]⟩:=λu j g=>by
  grind
 have hk:∀d:Cd,R9 G.Dy d->Mj (G.Dy++[⟨Dz,true,[]⟩]) d.D5=Mj G.Dy d.D5/\Jt (G.Dy++[⟨Dz,true,[]⟩]) d.D5=Jt G.Dy d.D5:=λd hd=>by
  have hu:=hd.D5;have:(d.D5-1).toNat<G.Dy.length:=U;unfold Mj Jt;rw[A6 this];exact⟨rfl,rfl⟩
 refine⟨T,h.ws,λk d hd=>⟨(h.bk k d hd).1.grow y,(h.bk k d hd).2⟩,λi c k l hc hl=>(h.ln i c k l hc hl).grow (Le.refl M) y (λ_ q=>q),λf O=>(h.fl f O).grow (Le.refl M) y,λi r Q B=>?_,λu j g=>?_,λu j e g D w=>?_,h.jb,h.lv⟩
 ·have⟨d,q⟩:=h.sn i r Q B;have⟨X,k2⟩:=hk d (h.bk _ d q.Gw).1;refine⟨d,q.Gw,q.D5,q.Lu,q.El,λg=>?_,λg=>?_⟩
  ·have⟨q1,q2⟩:=q.open' g
   grind
  ·have⟨e,w⟩:=q.MY g;exact⟨e,w.grow y⟩
 ·rcases m u j g with q|rfl
  ·exact h.lg u j q
  ·exact⟨Ev,Ev,by simp[Told]⟩
 ·rcases m u j g with q|rfl
  ·exact h.jE u j e q D w
  ·cases w
theorem aH(h:Wf G){name:Ac}(e:Gi G name=some k):G.Ec.getD k 0∈G.Ec:=by
 have hk:=(Bi.1 (Jp e)).1;have f:k<G.Ec.length:=by rw[h.st];exact hk
 grind
theorem Inv.export(h:Inv M G)(name:Ac)(Dz:Int):Inv M (E4 G name Dz).2:=by
 have e:=h.wf.export name Dz;unfold E4 at e ⊢;split
 ·exact h
 ·rename_i w;rw[Ao w]at e;split
  ·exact h
  ·rename_i y;rw[Ao y]at e;split
   ·rename_i g;simp only[g]at e;split
    ·exact h
    ·rename_i B;rw[Ao B]at e;split
     ·exact h
     ·rename_i j;rw[Ao j]at e;have f:Wf {G with Dy:=G.Dy++[⟨Dz,true,[]⟩]}:=h.wf.serve (nm:=G.Eu) (st:=G.Ec) U (by have:=h.wf.sv;omega) h.wf.nm h.wf.st h.wf.nd (λu hu=>by have:=h.wf.Pn u hu;omega);exact(h.serve f).fT e
   ·rename_i k g;simp only[g]at e;split
    ·exact h
    ·rename_i j;rw[Ao j]at e;have D:=h.wf.Pn _ (aH h.wf g);have m:=h.end (G.Ec.getD k 0) D.1;have hl:(GR G (G.Ec.getD k 0)).Dy.length=G.Dy.length:=by simp[GR]
     have f:=m.wf.serve (Dz:=Dz) (nm:=G.Eu) (st:=G.Ec) U (by have:=h.wf.sv;rw[hl];omega) h.wf.nm h.wf.st h.wf.nd (λu hu=>by have:=h.wf.Pn u hu;rw[hl];omega);exact(m.serve f).fT e
theorem Inv.Iy(h:Inv M G)(name:Ac):Inv M (Fb G name).2:=by
 have f:=h.wf.Iy name;unfold Fb at f ⊢;split
 ·exact h
 ·rename_i k e;simp only[e]at f;have g:=h.wf.Pn _ (aH h.wf e)
  grind [R.Inv.end,R.Inv.fT]
theorem Inv.imports(h:Inv M G)(DJ:Int)(name:Ac):Inv M (FV G DJ name).2:=by
 have g:=h.wf.imports DJ name;unfold FV at g ⊢;split
 ·exact h
 ·rename_i O;rw[Ao O]at g;split
  ·exact h
  ·rename_i k Q;simp only[Q]at g;have f:∀(j:Nat) (e:Cl),(G.DI.modify DJ.toNat λc=>{c with Ee:=c.Ee++[G.Ec.getD k 0]})[j]?=some e->∃c,G.DI[j]?=some c/\e.DR=c.DR/\e.DV=c.DV/\∀u∈c.Ee,u∈e.Ee:=λj e hj=>by
    all_goals grind
   refine⟨g,h.ws,λq d T=>?_,λi e n l hc hl=>?_,h.fl,h.sn,h.lg,h.jE,h.jb,λi e hc=>?_⟩
   ·have⟨g1,a,m,n,x,X,r2,r3,r4,r5,r6,r7,r8,r9⟩:=h.bk q d T;refine⟨g1,a,(if DJ.toNat=a then {m with Ee:=m.Ee++[G.Ec.getD k 0]} else m),n,x,X,?_,r3,?_,r5,?_,r7,r8,?_⟩;all_goals grind
   ·have⟨c,w,y,B,D⟩:=f i e hc;rw[B]at hl;rw[y];exact(h.ln i c n l w hl).grow (Le.refl M) (Gr.refl _) D
   ·have⟨c,w,y,B,D⟩:=f i e hc;rw[y];exact h.lv i c w
theorem Inv.erase(h:Inv M G)(k:Nat):Inv M {G with Ej:=G.Ej.eraseIdx k}:=by
 refine h.JC ⟨h.wf.cf,h.wf.N5,λj c hc=>⟨(h.wf.cl j c hc).DV,(h.wf.cl j c hc).DR,(h.wf.cl j c hc).Ee,(h.wf.cl j c hc).DZ⟩,?_,λf e=>h.wf.JX f (Cj e),h.wf.sv,h.wf.R7,h.wf.nm,h.wf.st,h.wf.nd,h.wf.Pn⟩ (λf e=>h.fl f (Cj e));have:=List.length_eraseIdx_le (l:=G.Ej) (i:=k);have:=h.wf.JC;simp only;omega
theorem Inv.drop(h:Inv M G)(i:Int):Inv M (JM G i).2:=by grind [JM,R.Inv.erase]
theorem Inv.copy(h:Inv M G)(i:Int):Inv M (JA G i).2:=by
 unfold JA;split
 ·exact h
 ·split
  ·exact h
  ·split
   ·exact h
   ·rename_i f m;have u:=Ap m;refine h.JC ⟨h.wf.cf,h.wf.N5,λj c hc=>⟨(h.wf.cl j c hc).DV,(h.wf.cl j c hc).DR,(h.wf.cl j c hc).Ee,(h.wf.cl j c hc).DZ⟩,?_,λg e=>?_,h.wf.sv,h.wf.R7,h.wf.nm,h.wf.st,h.wf.nd,h.wf.Pn⟩ (λg e=>?_)
    ·grind
    ·rcases Bj.1 e with q|q
     ·exact h.wf.JX g q
     ·rw[Bg.1 q];exact h.wf.JX f u
    ·grind [Inv]
theorem aef(a:UInt8){n:Int}(h:1<=n/\n<=255):a ^^^ b8 n≠a:=λe=>by
 have f:b8 n=0:=by
  have:=CG (λx=>a ^^^ x) e;simpa [<-UInt8.xor_assoc] using this
 have:=FP (n:=n) U h.2;rw[f]at this;simp at this;omega
theorem Inv.Sf(h:Inv M G)(i at' m:Int):Inv M (Jz G i at' m).2:=by
 unfold Jz;split
 ·exact h
 ·split
  ·exact h
  ·rename_i f D;have w:=Ap D;split
   ·exact h
   ·rename_i X;split
    ·exact h
    ·rename_i B;have e:=h.fl f w;unfold Sc at e;rw[Ao B]at e;have⟨p,O,Q,T⟩:=e;have y:at'.toNat<f.s.length:=U;refine h.JC ⟨h.wf.cf,h.wf.N5,λj c hc=>⟨(h.wf.cl j c hc).DV,(h.wf.cl j c hc).DR,(h.wf.cl j c hc).Ee,(h.wf.cl j c hc).DZ⟩,?_,λg u=>?_,h.wf.sv,h.wf.R7,h.wf.nm,h.wf.st,h.wf.nd,h.wf.Pn⟩ (λg u=>?_)
     ·rw[BG];exact h.wf.JC
     ·rcases BJ u with q|q
      ·exact h.wf.JX g q
      ·rw[q];simpa using h.wf.JX f w
     grind [Inv,Sc,ag,aef]
structure At(G:Wd)(i k:Nat)(c:Cl)(l:Ln):Prop where
 cl:G.DI[i]?=some c
 ln:c.DV[k]?=some l
theorem Oz(G:Wd)(to:Int)(p:Pk):(E9 G to p).DI=G.DI:=by unfold E9;split<;>rfl
theorem KX(G:Wd)(to:Int)(p:Pk):(E9 G to p).DN=G.DN:=by unfold E9;split<;>rfl
theorem OA(G:Wd)(to:Int)(p:Pk):(E9 G to p).DX=G.DX:=by unfold E9;split<;>rfl
theorem Mb(G:Wd)(to:Int)(p:Pk):(E9 G to p).c=G.c:=by unfold E9;split<;>rfl
theorem At.send(h:At G i k c l)(to:Int)(p:Pk):At (E9 G to p) i k c l:=by grind [At,Pk,E9,Oz]
theorem At.set(h:At G i k c l)(l':Ln):At (Eh G i k l') i k {c with DV:=c.DV.set k l'} l':=by grind [Ln,At,Eh,Ft]
theorem At.DZ(h:At G i k c l):Ia G i k=l:=FH h.cl h.ln
theorem JH.same{sv:List Sv}(h:JH M sv i DR Ee k l)(e1:l'.D4=l.D4)(e2:l'.DK=l.DK)(e3:l'.D5=l.D5)(e4:l'.DC=l.DC)(e5:l'.to=l.to)(e6:l'.DT=l.DT)(f:l'.EK=l.EK)(e:l'.DU=l.DU):JH M sv i DR Ee k l':=by
 refine⟨by rw[e1,e2];exact h.idle,by rw[e1];exact h.Gw,by rw[e1,e2,e3,e4,e5,e6,f];exact h.pX,by rw[e1,e2,e];exact h.done,by rw[e2,e];exact h.none⟩
theorem JH.over{sv:List Sv}(h:JH M sv i DR Ee k l)(f:l.DK=1)(e1:l'.D4=l.D4)(e2:3<=l'.DK)(e:l'.DU=l.DU):JH M sv i DR Ee k l':=by
 refine⟨?_,by rw[e1];exact h.Gw,λq=>by omega,λq=>by omega,λ_=>by rw[e];exact h.none U⟩;rw[e1];have:=h.idle
 grind
theorem O0.over(h:O0 l)(e1:l'.D4=l.D4)(e2:l'.DK≠1):O0 l':=by grind [O0]
theorem Inv.pX(h:Inv M G)(e:At G i k c l)(f:l.DK=1):∃d,M ⟨i,c.DR,k,l.D4⟩=some d/\l.D5=d.D5/\l.DC=d.J9:=by
 have⟨d,g,j,m,_⟩:=(h.ln i c k l e.cl e.ln).pX f;exact⟨d,g,j,m⟩
theorem Inv.piece(h:Inv M G)(e:At G i k c l)(f:l.DK=1)(g:l.Ea<DL l.DC)(Ga:Bool):Inv M (EG G i k Ga):=by
 rw[MK e.DZ];have j:=Pv h.wf e.cl e.ln f g Ga;refine h.E9 j ?_;have⟨d,m,u,w⟩:=h.pX e f;refine⟨d,?_,u,Aj ⟨rfl,rfl,?_,?_⟩⟩
 ·simp only[Ns,JD,GH e.cl];exact m
 all_goals grind [Ns]
theorem Inv.jY(h:Inv M G)(e:At G i k c l)(f:l.DK=1):Inv M (Lq G i k):=by
 rw[V4 e.DZ];refine h.E9 (Ow h.wf e.cl e.ln f) ?_;have⟨d,g,j,m⟩:=h.pX e f;refine⟨d,?_,j,Am (Am (Aj ⟨rfl,rfl⟩))⟩;simp only[Mx,JD,GH e.cl];exact g
def L5(G:Wd)(l:Ln)(d:Cd):Ln:=⟨l.D4+1,1,[],d.D5,d.to,d.J9,0,[],0,G.c.Ew,G.c.DW⟩
inductive acH (G:Wd) (DJ DZ D5 Eo:Int) (arg:List It) (r:(Int×Int)×Wd):Prop
 |no (n:Int) (hn:n≠0) (h:r=((0,n),G))
 |N3 (i k:Nat) (c:Cl) (l:Ln) (d:Cd) (hi:DJ=i) (hk:DZ=k) (hat:At G i k c l) (h1:l.DK≠1) (hs:l.D4≠999) (hb:D5∈c.Ee) (hu:d.D5=D5) (hp:d.Eo=Eo) (ha:d.arg=arg) (hd:R9 G.Dy d) (h:r=((l.D4+1,0),EG (Eh G i k (L5 G l d)) i k false))
theorem jm(h:Wf G)(DJ DZ D5 Eo:Int)(arg:List It):acH G DJ DZ D5 Eo arg (Gc G DJ DZ D5 Eo arg):=by
 generalize hr:Gc G DJ DZ D5 Eo arg=r;unfold Gc at hr;split at hr
 ·exact .no 13 Em hr.symm
 ·rename_i y;split at hr
  ·exact .no 14 Em hr.symm
  ·rename_i B;split at hr
   ·exact .no 15 Em hr.symm
   ·rename_i e;split at hr
    ·exact .no 16 Em hr.symm
    ·rename_i LO to f;split at hr
     ·exact .no 4 Em hr.symm
     ·rename_i bs g;simp only at hr;obtain⟨i,rfl⟩:∃i:Nat,DJ=(i:Int):=⟨DJ.toNat,U⟩;obtain⟨k,rfl⟩:∃k:Nat,DZ=(k:Int):=⟨DZ.toNat,U⟩;have hi:i<G.DI.length:=U;have hc:=Ah hi;have w:=(h.cl i _ hc).DV;have hk:k<G.DI[i].DV.length:=U;have hl:=Ah hk;rw[FH hc hl]at hr;split at hr
      ·exact .no 17 Em hr.symm
      ·rename_i j;split at hr
       ·exact .no 11 Em hr.symm
       ·rename_i m;rw[AY,hc]at e;simp only[Ce,Bw,Decidable.not_not]at e;have u:=(h.cl i _ hc).Ee D5 e;exact .N3 i k G.DI[i] G.DI[i].DV[k] ⟨D5,Eo,arg,LO,to,bs⟩ rfl rfl ⟨hc,hl⟩ j m e rfl rfl rfl ⟨u,f,g⟩ hr.symm
def upd(M:Bk)(k:Key)(d:Cd):Bk:=λq=>if q=k then some d else M q
theorem Inv.called(h:Inv M G)(f:At G i k c l)(hs:l.D4≠999)(T:d.D5∈c.Ee)(hd:R9 G.Dy d):Inv (upd M ⟨i,c.DR,k,l.D4+1⟩ d) (EG (R.Eh G i k (L5 G l d)) i k false)/\M ⟨i,c.DR,k,l.D4+1⟩=none:=by
 have g:M ⟨i,c.DR,k,l.D4+1⟩=none:=by
  cases j:M ⟨i,c.DR,k,l.D4+1⟩ with
  |none=>rfl
  |some d'=>
   have⟨_,a,ca,n,x,r1,O,r3,r4,r5,r6,r7,r8,r9⟩:=h.bk _ d' j;obtain rfl:i=a:=by simp only at r1;omega
   obtain rfl:k=n:=by simp only at r3;omega
   rw[f.cl]at O;cases O;rw[f.ln]at r4;all_goals grind
 refine⟨?_,g⟩;have B:=(h.wf.cl i c f.cl).DZ k l f.ln;have hm:=SX hd;have u:=h.wf.cf;unfold GA at u;have aa:=B.D4;have hu:=hd.D5;have Lp:=h.wf.sv;have X:1<=DL d.J9:=ID U;have D:O0 (L5 G l d):=⟨by simp only[L5];omega,λ_=>⟨by simp only[L5];omega,by simp only[L5];omega,by simp only[L5];omega,by simp only[L5];omega,by simp only[L5];omega,by simp only[L5];omega⟩⟩;have m:upd M ⟨i,c.DR,k,l.D4+1⟩ d ⟨i,c.DR,k,l.D4+1⟩=some d:=by simp[upd]
 have y:JH (upd M ⟨i,c.DR,k,l.D4+1⟩ d) G.Dy i c.DR c.Ee k (L5 G l d):=by
  refine⟨?_,λ_=>⟨d,m⟩,λ_=>⟨d,m,rfl,rfl,rfl,T,?_,?_⟩,?_,λ_=>rfl⟩;all_goals grind [L5]
 have w:Le M (upd M ⟨i,c.DR,k,l.D4+1⟩ d):=λq x j=>by
  all_goals grind [upd]
 have Q:=h.aB (N:=upd M ⟨i,c.DR,k,l.D4+1⟩ d) f.cl f.ln D (by simp only[L5];omega) w (λq x j=>by
  unfold upd at j;split at j
  ·rename_i e;cases j;exact Am ⟨e,hd,by simp only[L5];omega⟩
  ·exact Aj j) y
 exact Q.piece (f.set _) rfl (by simp only[L5];omega) false
theorem Inv.call(h:Inv M G)(DJ DZ D5 Eo:Int)(arg:List It):∃N,Le M N/\Inv N (Gc G DJ DZ D5 Eo arg).2:=by
 rcases jm h.wf DJ DZ D5 Eo arg with ⟨n,hn,e⟩|⟨i,k,c,l,d,hi,hk,f,u,j,g,hu,y,w,hd,e⟩
 ·rw[e];exact⟨M,Le.refl M,h⟩
 ·rw[e];have⟨m,D⟩:=h.called f j (hu ▸ g) hd;refine⟨_,λq x B=>?_,m⟩;unfold upd
  grind
theorem Inv.EM(h:Inv M G)(e:At G i k c l):Inv M (EM G i k):=by
 unfold R.EM;simp only;rw[e.DZ];have f:=(h.wf.cl i c e.cl).DZ k l e.ln;have g:=h.ln i c k l e.cl e.ln;split
 ·exact h
 ·rename_i j;have j:l.DK=1:=Decidable.not_not.1 j;obtain⟨w,y,B,D,z5,T⟩:=f.one j;have m:=h.wf.cf;unfold GA at m;split
  ·rename_i O;exact h.Eh e.cl e.ln ⟨f.D4,λ_=>⟨w,y,B,D,by simp only;omega,T⟩⟩ (BK _) (g.same rfl rfl rfl rfl rfl rfl rfl rfl)
  ·split
   ·exact h.Eh e.cl e.ln (f.over rfl Ev) (BK _) (g.over j rfl Ev rfl)
   ·rename_i O X;have u:=h.Eh (l':={l with El:=G.c.Ew,DW:=l.DW-1}) e.cl e.ln ⟨f.D4,λ_=>⟨w,y,B,D,by simp only;omega,by simp only;omega⟩⟩ (BK _) (g.same rfl rfl rfl rfl rfl rfl rfl rfl);split
    ·rename_i Q;exact u.piece (e.set _) j (LF.1 Q) true
    ·exact u.jY (e.set _) j
theorem Inv.rest(h:Inv M G)(e:At G i k c l):Inv M (JS G i k):=by
 unfold JS;rw[e.DZ];have f:=(h.wf.cl i c e.cl).DZ k l e.ln;have j:=h.ln i c k l e.cl e.ln;have g:=h.wf.cf;unfold GA at g;refine h.Eh e.cl e.ln ⟨f.D4,λm=>?_⟩ (BK _) (j.same rfl rfl rfl rfl rfl rfl rfl rfl);have⟨u,w,y,B,D,O⟩:=f.one m
 grind
theorem Inv.got(h:Inv M G)(e:At G i k c l)(m:l.DK=1)(y:EC p)(hk:p.DZ=k):Inv M (LP G i p):=by
 unfold LP;simp only;rw[hk,e.DZ,GH e.cl];have⟨d,B,D,q3⟩:=h.pX e m;have hi:=GG e.cl;have u:=GG e.ln;have f:=h.wf.cl i c e.cl;have⟨z1,T,z3,z4,z5,z6⟩:=(f.DZ k l e.ln).one m;have X:=(f.DZ k l e.ln).D4;have hn:=h.wf.N5;have g:=h.wf.cf;have w:=f.DV;have j:=f.DR;unfold GA at g;have⟨r1,r2,r3,r4,r5,r6,O,Q,r9⟩:=y;refine h.E9 ⟨Ev,by simp only;omega,j,by simp only;omega,by simp only;omega,T,O,Q,by simp[Ju]⟩ ⟨d,B,D,Am (Am (Am (Am (Am (Aj ⟨rfl,rfl⟩)))))⟩
theorem Md(rb:Ac)(n:Nat):rb.take (8*n)++EY rb (n:Int)=rb.take (8*(n+1)):=by grind [EY]
theorem L6(h:(n:Int)=DL rb):rb.take (8*n)=rb:=by grind [List.take_of_length_le,DL]
theorem RO(h:(n:Int)<DL rb):8*n<rb.length:=by unfold DL at h;omega
theorem Inv.DU(h:Inv M G){c:Cl}{l:Ln}(f:At G i k c l)(O:l.DK=1)(X:EC p)(hk:p.DZ=k){e:En}(hd:M ⟨i,c.DR,k,l.D4⟩=some d)(y:Kz G.Dy ⟨i,c.DR,k,l.D4⟩ d e rb)(ho:p.off=DL rb)(hb:p.Ef=EY rb p.Ez):Inv M (IL G i p):=by
 have B:=(h.wf.cl i c f.cl).DZ k l f.ln;have g:=h.ln i c k l f.cl f.ln;have⟨z1,z2,z3,z4,z5,z6⟩:=B.one O;have⟨d',w1,w2,w3,w4,w5,w6,w7⟩:=g.pX O;rw[hd]at w1;cases w1;unfold IL;simp only;rw[hk,f.DZ];split
 ·exact h
 ·rename_i hx;split
  ·rename_i hf;obtain⟨n,hn⟩:∃n:Nat,l.DT=(n:Int):=⟨l.DT.toNat,U⟩;have w:l.EK=rb.take (8*n):=by all_goals grind [List.length_eq_zero_iff,R.Inv.unique,Int.toNat_natCast]
   have D:l.EK++p.Ef=rb.take (8*(n+1)):=by rw[w,hb,hf,hn,Md]
   split
   ·rename_i m;have j:l.EK++p.Ef=rb:=by rw[D,L6 (by rw[<-ho,<-m,hn];rfl)]
    refine h.Eh f.cl f.ln (B.over rfl Ev) (BK _) ⟨?_,g.Gw,Ev,λ_=>⟨d,e,rb,hd,y,?_⟩,Ev⟩
    ·have:=g.idle;simp only;omega
    ·simp only;rw[j,w4,Kq y.bytes]
   ·rename_i m;have T:((n+1:Nat):Int)<DL rb:=by
     have:=X.2.2.2.2.2.2.2.1;omega
    have h8:=RO T;have hI:=h.Eh (l':={l with EK:=l.EK++p.Ef,DT:=l.DT+1,Ea:=DL l.DC}) f.cl f.ln ⟨B.D4,λ_=>⟨z1,z2,z3,by have:=ID z3.1;simp only;omega,z5,z6⟩⟩ (BK _) ⟨g.idle,g.Gw,λ_=>⟨d,hd,w2,w3,w4,w5,?_,λ_=>⟨e,rb,y,?_,?_⟩⟩,g.done,g.none⟩
    ·have u:=f.set {l with EK:=l.EK++p.Ef,DT:=l.DT+1,Ea:=DL l.DC};have Q:=hI.got u O X hk;refine Q.rest (c:={c with DV:=c.DV.set k {l with EK:=l.EK++p.Ef,DT:=l.DT+1,Ea:=DL l.DC}}) (l:={l with EK:=l.EK++p.Ef,DT:=l.DT+1,Ea:=DL l.DC}) ?_;unfold LP;exact u.send _ _
    all_goals grind
  ·exact h.got f O X hk
theorem Inv.heard(h:Inv M G)(hr:EC p){to:Int}(ah:to≠-1)(hp:Tj M G.Dy to p):Inv M (Kl G to p):=by
 have⟨d,hd,hu,hk⟩:=hp;have⟨aa,i,c,k,l,O,r2,B,r4,r5,r6,r7,r8,r9⟩:=h.bk _ d hd;simp only[JD]at O B r5 r6 r7 r8 r9;have e:At G i k c l:=⟨r2,r4⟩;have y:to=(i:Int):=by grind
 subst y;unfold Kl;simp only;rw[B,e.DZ,GH e.cl];split
 ·exact h
 ·rename_i hx;obtain⟨u,T,X⟩:l.DK=1/\p.DR=c.DR/\p.D4=l.D4:=by
   refine⟨?_,?_,?_⟩<;>omega
  have g:JD p=⟨i,c.DR,k,l.D4⟩:=by simp[JD,O,T,B,X]
  rw[g]at hd hk;have m:=(h.wf.cl i c e.cl).DZ k l e.ln;have j:=h.ln i c k l e.cl e.ln;have⟨z1,z2,z3,z4,z5,z6⟩:=m.one u;have⟨d',Q,w2,w3,w4,w5,w6,w7⟩:=j.pX u;rw[hd]at Q;cases Q;split
  ·rename_i ab;split
   ·rename_i ha;have ho:p.off=DL d.J9:=by grind
    have w:=hr.2.2.2.2.2.2.2.1;rw[<-w3]at ho;have D:=h.Eh (l':={l with Ea:=l.Ea+1}) e.cl e.ln ⟨m.D4,λ_=>⟨z1,z2,z3,by simp only;omega,z5,z6⟩⟩ (BK _) (j.same rfl rfl rfl rfl rfl rfl rfl rfl);have f:=e.set {l with Ea:=l.Ea+1};split
    ·rename_i hm;refine(D.piece f u hm false).rest (c:={c with DV:=c.DV.set k {l with Ea:=l.Ea+1}}) (l:={l with Ea:=l.Ea+1}) ?_;unfold EG;exact f.send _ _
    ·exact D.rest f
   ·exact h
  grind [EC,R.Inv.Eh,R.Inv.rest,R.Inv.DU,R.O0.over,R.JH.over]
theorem F7{r:Sn}(h:G.DN[i]?=some r):EZ G i=r:=by simp[EZ,h]
theorem Inv.K6(h:Inv M G)(hi:i<9):G.DN[i]?=some (EZ G i):=by
 have hl:i<G.DN.length:=by rw[h.ws.sl];exact hi
 grind [F7]
theorem Inv.XH(h:Inv M G)(j:EC p)(hd:M (JD p)=some d)(hu:p.D5=d.D5){Dz k e:Int}(hk:1<=Dz/\Dz<=7)(f:1<=e/\e<=9)(D:0<=k/\k<e)(g:(Dz=2/\e=DL d.J9)\/Dz=4\/(Dz=7/\e=2)):Inv M (G8 G p Dz k e):=by
 have⟨O,m,u,w,y,B,Q,T,X⟩:=j;unfold G8;refine h.E9 ⟨hk,m,u,w,y,B,f,by simp only;omega,?_⟩ ⟨d,hd,hu,?_⟩;all_goals grind [Ju]
theorem Uv{s:Ac}{k:Int}:8*k+8<(s.length:Int)↔k<DL s-1:=by unfold DL;omega
theorem Inv.Jg(h:Inv M G)(hi:i<9){r:Sn}(w:G.DN[i]?=some r)(g:r.DK=3):
  EC ⟨5,((i / 3:Nat):Int),(G.DX[i / 3]?).getD 0,((i % 3:Nat):Int),r.D4,r.D5,r.at',DL r.DU,false,EY r.DU r.at'⟩:=by
 have f:=h.ws.sn i r w;have j:r.D4≠0:=λe=>by
  rw[f.zero e]at g;cases g
 have⟨a1,a2,a3⟩:=f.some j;have⟨y,B,m,D⟩:=f.MY g;have O:=f.D4;have u:=h.ws.lv;have:=NB (s:=r.DU) m
 grind [EC,List.getElem_mem,List.getElem?_eq_getElem,ID,IV,Ju]
theorem Inv.JU(h:Inv M G)(hi:i<9){r:Sn}(g:G.DN[i]?=some r)(f:r.DK=3):Inv M (Ex G i):=by
 have m:=h.Jg hi g f;have y:=h.ws.sn i r g;have j:r.D4≠0:=λe=>by
  rw[y.zero e]at f;cases f
 unfold Ex;simp only;rw[F7 g];refine h.E9 m ?_;have⟨d,q⟩:=h.sn i r g j;have⟨e,u⟩:=q.MY f;have w:=q.Gw;rw[Bu]at w u;exact⟨d,w,q.D5,Am (Am (Am (Am (Aj ⟨rfl,rfl,e,r.DU,u,rfl,rfl⟩))))⟩
theorem LK.same{sv:List Sv}{k:Key}{r r':Sn}(h:LK M sv k r d)(e1:r'.D5=r.D5)(e2:r'.DK=r.DK)(e3:r'.DC=r.DC)(e4:r'.DT=r.DT)(e5:r'.DU=r.DU):LK M sv k r' d:=by grind [LK]
theorem Inv.tell(h:Inv M G)(hi:i<9){r:Sn}(y:G.DN[i]?=some r)(j:r.DK=3):Inv M (JF G i):=by
 have B:=h.JU hi y j;have g:=h.ws.sn i r y;have f:(Ex G i).DN[i]?=some r:=by unfold Ex;rw[KX];exact y
 have D:(Ex G i).c=G.c:=by unfold Ex;rw[Mb]
 have u:(Ex G i).DX=G.DX:=by unfold Ex;rw[OA]
 unfold JF;simp only;rw[F7 f];have m:=h.wf.cf;unfold GA at m;refine B.EA f (BK _) ?_ (λw=>?_)
 ·rw[u];refine⟨λe=>?_,g.D4,g.some,g.Lu,g.El,g.MY,λ_=>⟨j,by simp only;omega,by simp only;omega⟩⟩;have:=g.zero e;rw[this]at j;cases j
 ·have⟨d,q⟩:=B.sn i r f w;exact⟨d,q.same rfl rfl rfl rfl rfl⟩
theorem Inv.EH(h:Inv M G)(hi:i<9):Inv M (EH G i):=by
 have g:=h.K6 hi;unfold R.EH;simp only;generalize EZ G i=r at g ⊢;have f:=h.ws.sn i r g;have u:=h.wf.cf;unfold GA at u;split
 ·exact h
 ·rename_i w;have w:r.E1=true:=by simpa using w
  obtain⟨m,Q,D⟩:=f.E1 w;have j:r.D4≠0:=λe=>by
   rw[f.zero e]at m;cases m
  have z:∀{r':Sn},r'.D4=r.D4->(r'.D4=0->r'=Ic):=λe q=>absurd (e ▸ q) j
  obtain⟨d,q⟩:=h.sn i r g j;split
  ·rename_i y;exact h.EA g (BK _) ⟨z rfl,f.D4,f.some,f.Lu,f.El,f.MY,λ_=>⟨m,by simp only;omega,D⟩⟩ (λ_=>⟨d,q.same rfl rfl rfl rfl rfl⟩)
  ·split
   ·exact h.EA g (BK _) ⟨z rfl,f.D4,f.some,f.Lu,f.El,f.MY,Ev⟩ (λ_=>⟨d,q.same rfl rfl rfl rfl rfl⟩)
   ·rename_i y O;have B:=h.EA (r':={r with El:=G.c.Ew,DW:=r.DW-1}) g (BK _) ⟨z rfl,f.D4,f.some,f.Lu,f.El,f.MY,λ_=>⟨m,by simp only;omega,by simp only;omega⟩⟩ (λ_=>⟨d,q.same rfl rfl rfl rfl rfl⟩);exact B.JU hi (r:={r with El:=G.c.Ew,DW:=r.DW-1}) (by simp[R.EA,(GG g)]) m
theorem U1{i k:Int}:(EM G i k).c=G.c/\(EM G i k).DI.length=G.DI.length:=by grind [EM,EG,Lq,Mb,Oz,Eh]
theorem Inv.tick(h:Inv M G):Inv M (Ni G):=by
 have e:∀(i:Nat) (G:Wd),Inv M G->i<G.DI.length->∀n:Nat,(n:Int)<=G.c.DV->Inv M ((List.range n).foldl (λw (k:Nat)=>R.EM w (i:Int) (k:Int)) G)/\((List.range n).foldl (λw (k:Nat)=>R.EM w (i:Int) (k:Int)) G).c=G.c/\((List.range n).foldl (λw (k:Nat)=>R.EM w (i:Int) (k:Int)) G).DI.length=G.DI.length:=by
  intro i G h hi n;induction n with
  |zero=>exact λ_=>⟨h,rfl,rfl⟩
  |succ n ih=>
   intro hn;have⟨f,g,y⟩:=ih U;rw[Cu,CV];simp only[C9,List.foldl_nil];generalize (List.range n).foldl (λw (k:Nat)=>R.EM w (i:Int) (k:Int)) G=K at f g y ⊢;have m:i<K.DI.length:=U;have hc:=Ah m;have hl:=(f.wf.cl i _ hc).DV;have u:n<K.DI[i].DV.length:=by rw[g]at hl;omega
   obtain⟨s1,s2⟩:=U1;exact⟨f.EM ⟨hc,Ah u⟩,s1.trans g,s2.trans y⟩
 have j:∀n,n<=G.DI.length->Inv M ((List.range n).foldl (λw (i:Nat)=>(List.range w.c.DV.toNat).foldl (λw (k:Nat)=>R.EM w (i:Int) (k:Int)) w) G)/\((List.range n).foldl (λw (i:Nat)=>(List.range w.c.DV.toNat).foldl (λw (k:Nat)=>R.EM w (i:Int) (k:Int)) w) G).DI.length=G.DI.length:=by
  intro n;induction n with
  |zero=>exact λ_=>⟨h,rfl⟩
  |succ n ih=>
   intro hn;have⟨f,g⟩:=ih U;rw[Cu,CV]
   grind
 have B:=(j _ (Ar _)).1;have D:∀n,n<=9->Inv M ((List.range n).foldl R.EH (Nh G)):=by
  intro n;induction n with
  |zero=>exact λ_=>B
  |succ n ih=>
   intro hn;rw[Cu,CV];exact(ih U).EH U
 exact D 9 (Ar _)
theorem Inv.DX(h:Inv M G)(hr:EC p)(hd:M (JD p)=some d):Inv M (Ib G p):=by
 unfold Ib;split
 ·rename_i T;have⟨_,i,c,k,l,r1,r2,r3,r4,r5,r6,r7,r8,r9⟩:=h.bk _ d hd;simp only[JD]at r1 r5 r6;have⟨_,p2,p3,_⟩:=hr;have ak:i<3:=U;rw[r1,AY]at T ⊢;have Q:=h.ws.ll;have X:=h.ws.sl;have y:∀j,(G.DX.set i p.DR).getD j 0=if j=i then p.DR else G.DX.getD j 0:=λj=>by
   all_goals grind
  have aa:∀(l:List Sn) (m j:Nat) (r:Sn),(l.set m Ic)[j]?=some r->(m=j/\r=Ic)\/(m≠j/\l[j]?=some r):=λl m j r f=>by
   all_goals grind
  have w:∀(j:Nat) (r:Sn),(((G.DN.set (3*i) Ic).set (3*i+1) Ic).set (3*i+2) Ic)[j]?=some r->(j / 3=i/\r=Ic)\/(j / 3≠i/\G.DN[j]?=some r):=λj r f=>by
   all_goals grind
  refine⟨⟨h.wf.cf,h.wf.N5,λj c hc=>⟨(h.wf.cl j c hc).DV,(h.wf.cl j c hc).DR,(h.wf.cl j c hc).Ee,(h.wf.cl j c hc).DZ⟩,h.wf.JC,h.wf.JX,h.wf.sv,h.wf.R7,h.wf.nm,h.wf.st,h.wf.nd,h.wf.Pn⟩,⟨by simpa using Q,λx hx=>?_,by simpa using X,λj r f=>?_,h.ws.jl,h.ws.jb⟩,h.bk,h.ln,h.fl,λj r f g=>?_,h.lg,λu s e hs ha he=>?_,h.jb,λj c' f=>?_⟩
  ·rcases BJ hx with q|q
   ·exact h.ws.lv x q
   ·rw[q];omega
  ·rcases w j r f with ⟨_,rfl⟩|⟨q1,q2⟩
   ·exact vM _
   ·rw[y,Ao q1];exact h.ws.sn j r q2
  ·rcases w j r f with ⟨_,rfl⟩|⟨q1,q2⟩
   ·exact absurd rfl g
   ·rw[y,Ao q1];exact h.sn j r q2 g
  ·have O:=(h.lg u s hs).each e he;have⟨de,_,D,_⟩:=O.some;have⟨_,a,ca,n,x,s1,s2,s3,s4,_⟩:=h.bk _ de D;simp only[Oc]at s1 s3;have hw:=h.wf.cl a ca s2;have al:=GG s4;have B:=h.wf.cf;unfold GA at B;have am:=hw.DV;unfold Vy;rw[s1,AY];simp only;rw[y];have hf:=h.jE u s e hs ha he;unfold Vy at hf;rw[s1,AY]at hf;by_cases ah:a=i;all_goals grind [Vu]
  ·rw[y];split
   ·all_goals grind
   ·exact h.lv j c' f
 ·exact h
end Go.Proofs.YtblomippkddgiaaGreatDoor.R
