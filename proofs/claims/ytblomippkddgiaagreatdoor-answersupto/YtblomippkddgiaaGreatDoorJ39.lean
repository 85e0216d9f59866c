import Derived.Test.YtblomippkddgiaaGreatDoorJ38
set_option maxRecDepth 100000
set_option maxHeartbeats 40000000
namespace Go.Proofs.YtblomippkddgiaaGreatDoor
open Go.Proofs.Tryz
open Go.RowKit
variable {al:Bool}{F:D9}{k DR n tb:Int}{L ci i li sn t x:Nat}{P p:Pk}{M:R.Bk}{c:R.Cl}{l:R.Ln}{G K:R.Wd}{v:RV}{u:Value}{w wr:World}
def TI(x:Nat)(F:D9)(w:Aa)(G:R.Wd)(wr:Aa):Prop:=∃v F',RW x v F' G wr/\D8 F F' w wr
structure iY(x:Nat)(F:D9)(w:Aa)(G:R.Wd)(i k:Nat)(wr:Aa)(g cap lb N NL:Nat)(l:R.Ln):Prop where
 x1:wr.cell? (Y x 1)=some (Z NL)
 x2:wr.cell? (Y x 2)=some (Z G.c.Ew)
 x9:wr.cell? (Y x 9)=some (EJ g N cap)
 c2:wr.cell? (Y g (i*3+2))=some (EJ lb NL NL)
 ln:xX wr lb k l
 z:∀o,wr.frozen? (Y lb o)=false
 ok:R.O0 l
 rt:1<=G.c.Ew/\G.c.Ew<=8
 idle:¬l.DK=1->TI x F w (R.EM G i k) wr
 less:l.DK=1->1<l.El->TI x F w (R.EM G i k) (wr.setCell (Y lb (k*11+9)) (Z (l.El-1)))
 over:l.DK=1->¬1<l.El->l.DW=0->TI x F w (R.EM G i k) ((wr.setCell (Y lb (k*11+9)) (Z (l.El-1))).setCell (Y lb (k*11+1)) (Z 3))
 piece:l.DK=1->¬1<l.El->¬l.DW=0->8*l.Ea<(l.DC.length:Int)->∀W,Below wr.heap.size (((wr.setCell (Y lb (k*11+9)) (Z (l.El-1))).setCell (Y lb (k*11+10)) (Z (l.DW-1))).setCell (Y lb (k*11+9)) (Z G.c.Ew)) W->Calls prog 165 #[Ey x,Z i,Z k,.bool true] W λe w'=>e=.returned Ep/\TI x F w (R.EM G i k) w'
 jY:l.DK=1->¬1<l.El->¬l.DW=0->¬8*l.Ea<(l.DC.length:Int)->∃DR,(∀W,Below wr.heap.size (((wr.setCell (Y lb (k*11+9)) (Z (l.El-1))).setCell (Y lb (k*11+10)) (Z (l.DW-1))).setCell (Y lb (k*11+9)) (Z G.c.Ew)) W->Calls prog 166 #[Ey x,Z i,Z k,Z 3] W λe w'=>e=.returned (.agg #[Z 3,Z i,Z DR,Z k,Z l.D4,Z l.D5,Z 0,Z 1,.bool false,.string ⟨#[]⟩])/\Below W.heap.size W w')/\∀W,Below wr.heap.size (((wr.setCell (Y lb (k*11+9)) (Z (l.El-1))).setCell (Y lb (k*11+10)) (Z (l.DW-1))).setCell (Y lb (k*11+9)) (Z G.c.Ew)) W->Calls prog 167 #[Ey x,Z (-1),.agg #[Z 3,Z i,Z DR,Z k,Z l.D4,Z l.D5,Z 0,Z 1,.bool true,.string ⟨#[]⟩]] W λe w'=>e=.returned Ep/\TI x F w (R.EM G i k) w'
theorem NH{a b c:Addr}{v y:Ad}:(((wr.setCell a u).setCell b v).setCell c y).heap.size=wr.heap.size:=by simp[World.setCell]
theorem vh{k N NL:Nat}(h:TI x F w G wr)(hN:G.DI.length=N)(ak:G.c.DV=(NL:Int))(hi:i<N)(hk:k<NL):∃g cap lb l,iY x F w G i k wr g cap lb N NL l:=by
 have⟨v,F',m,X⟩:=h;obtain⟨c,hc⟩:∃c,G.DI[i]?=some c:=⟨_,Ah U⟩;have av:=(m.wf.cl i c hc).DV;obtain⟨l,hl⟩:∃l,c.DV[k]?=some l:=⟨_,Ah U⟩;have⟨g,cap,z,zl,D⟩:=m.at hc;have am:=(m.wf.cl i c hc).DZ k l hl;have ab:=m.wf.cf;unfold R.GA at ab;have ac:=D.x9;have aa:=D.c2;rw[hN]at ac;rw[show c.DV.length=NL by omega]at aa;refine⟨g,cap,z.2.lb,l,⟨ED m.bx 1 _ (by rw[<-ak];rfl),EI m.bx 2,ac,aa,D.cells hl,λo=>Eb D.lb,am,ab.2.2.1,λB=>?_,λB T=>?_,λB T Q=>?_,λB T Q hm W hb=>?_,λB T Q hm=>?_⟩⟩
 ·rw[Po (R.FH hc hl) B];exact⟨v,F',m,X⟩
 ·have⟨v2,O,a1,a2⟩:=m.sP hc D hl B T;exact⟨v2,O,a1,X.trans a2⟩
 ·have⟨v2,O,a1,a2⟩:=m.timeout hc D hl B T Q;exact⟨v2,O,a1,X.trans a2⟩
 ·have⟨v2,O,a1,a2⟩:=m.Ga hc D hl B Q rfl;have j:(R.Eh G i k {l with El:=G.c.Ew,DW:=l.DW-1}).DI[i]?=some {c with DV:=c.DV.set k {l with El:=G.c.Ew,DW:=l.DW-1}}:=by rw[R.Ft,hc];simp
  have y:(c.DV.set k {l with El:=G.c.Ew,DW:=l.DW-1})[k]?=some {l with El:=G.c.Ew,DW:=l.DW-1}:=AO (GG hl);have f:Below (((wr.setCell (Y z.2.lb (k*11+9)) (Z (l.El-1))).setCell (Y z.2.lb (k*11+10)) (Z (l.DW-1))).setCell (Y z.2.lb (k*11+9)) (Z G.c.Ew)).heap.size (((wr.setCell (Y z.2.lb (k*11+9)) (Z (l.El-1))).setCell (Y z.2.lb (k*11+10)) (Z (l.DW-1))).setCell (Y z.2.lb (k*11+9)) (Z G.c.Ew)) W:=by rw[NH];exact hb
  refine((a1.DG f).Wh j y B (by unfold R.DL;simp only;omega) true).mono ?_;rintro e w' ⟨rfl,v3,F3,b1,b2⟩;refine⟨rfl,v3,F3,?_,X.trans (a2.trans ((D8.D6 O f).trans b2))⟩;have eT:R.EM G i k=R.EG (R.Eh G i k {l with El:=G.c.Ew,DW:=l.DW-1}) i k true:=by
   unfold R.EM;simp only[R.FH hc hl]
   grind
  rw[eT];exact b1
 ·have⟨v2,O,a1,a2⟩:=m.Ga hc D hl B Q rfl;have j:(R.Eh G i k {l with El:=G.c.Ew,DW:=l.DW-1}).DI[i]?=some {c with DV:=c.DV.set k {l with El:=G.c.Ew,DW:=l.DW-1}}:=by rw[R.Ft,hc];simp
  have y:(c.DV.set k {l with El:=G.c.Ew,DW:=l.DW-1})[k]?=some {l with El:=G.c.Ew,DW:=l.DW-1}:=AO (GG hl);refine⟨c.DR,λW hb=>?_,λW hb=>?_⟩
  ·have f:Below (((wr.setCell (Y z.2.lb (k*11+9)) (Z (l.El-1))).setCell (Y z.2.lb (k*11+10)) (Z (l.DW-1))).setCell (Y z.2.lb (k*11+9)) (Z G.c.Ew)).heap.size (((wr.setCell (Y z.2.lb (k*11+9)) (Z (l.El-1))).setCell (Y z.2.lb (k*11+10)) (Z (l.DW-1))).setCell (Y z.2.lb (k*11+9)) (Z G.c.Ew)) W:=by rw[NH];exact hb
   exact(a1.DG f).Xz j y 3
  ·have f:Below (((wr.setCell (Y z.2.lb (k*11+9)) (Z (l.El-1))).setCell (Y z.2.lb (k*11+10)) (Z (l.DW-1))).setCell (Y z.2.lb (k*11+9)) (Z G.c.Ew)).heap.size (((wr.setCell (Y z.2.lb (k*11+9)) (Z (l.El-1))).setCell (Y z.2.lb (k*11+10)) (Z (l.DW-1))).setCell (Y z.2.lb (k*11+9)) (Z G.c.Ew)) W:=by rw[NH];exact hb
   have an:=R.Ow (a1.wf) j y B;have ao:pv (R.Mx (R.Eh G i k {l with El:=G.c.Ew,DW:=l.DW-1}) i k {l with El:=G.c.Ew,DW:=l.DW-1})=.agg #[Z 3,Z i,Z c.DR,Z k,Z l.D4,Z l.D5,Z 0,Z 1,.bool true,.string ⟨#[]⟩]:=by
    rw[show c.DR=R.Qj (R.Eh G i k {l with El:=G.c.Ew,DW:=l.DW-1}) i from (R.GH j).symm];rfl
   rw[<-ao];refine cm ((a1.DG f).send (-1) _ an) ?_;rintro w' ⟨v3,F3,b1,b2⟩;refine⟨rfl,v3,F3,?_,X.trans (a2.trans ((D8.D6 O f).trans b2))⟩;have eT:R.EM G i k=R.E9 (R.Eh G i k {l with El:=G.c.Ew,DW:=l.DW-1}) (-1) (R.Mx (R.Eh G i k {l with El:=G.c.Ew,DW:=l.DW-1}) i k {l with El:=G.c.Ew,DW:=l.DW-1}):=by
    unfold R.EM;simp only[R.FH hc hl];rw[Ao U,Ao T,Ao Q,Ao hm];unfold R.Lq;rw[R.FH j y];rfl
   rw[eT];exact b1
theorem RW.vP{w':Aa}(h:RW x v F G w){r':R.Sn}(e:R.Tm (G.DX.getD (i / 3) 0) r')(hk:DF (λk=>k=v.Sn) w w')(f:w'.heap[v.Sn]?=some (.cells (tab Rk (G.DN.set i r')).toArray 264 (0,0))):RW x v F (R.EA G i r') w'/\D8 F F w w':=by grind [RW,tab,Rk,R.EA,D8,RM.JE,RW.JE,PN,NF]
theorem RW.aak(h:RW x v F G w){r:R.Sn}(g:G.DN[i]?=some r)(y:r.DK=3):D7 168 #[Ey x,Z i] w Ep λm=>∃j f,RW x j f (R.Ex G i) m/\D8 F f w m:=by
 have hi:i<9:=by rw[<-h.GQ.sl];exact(GG g)
 have⟨X,D,O,Q⟩:=(h.GQ.sn i r g).MY y;have e:=Jg h.GQ g y;refine cm (h.toRM.JU h.wf.JC h.GQ.ll g hi ⟨O,Q⟩ D e) ?_;rintro m ⟨j,f,B,T⟩;have e1:R.Ex G i=R.E9 G ((i / 3:Nat):Int) ⟨5,((i / 3:Nat):Int),(G.DX[i / 3]?).getD 0,((i % 3:Nat):Int),r.D4,r.D5,r.at',R.DL r.DU,false,R.EY r.DU r.at'⟩:=by grind [R.Ex,R.EZ]
 rw[e1]at B ⊢;refine⟨rfl,j,f,⟨B,h.wf.E9 e,?_⟩,T⟩
 grind [RW,R.Inv.JC,R.E9,R.DL,R.Inv.DU,R.EY,R.EZ,R.Wf.E9,R.Inv.E9,ai]
def NT(G:R.Wd)(n:Nat):R.Wd:=(List.range n).foldl R.EH G
theorem iz(G:R.Wd)(n:Nat):NT G (n+1)=R.EH (NT G n) n:=by simp[NT,List.range_succ]
structure qe(x:Nat)(F:D9)(w:Aa)(G:R.Wd)(i:Nat)(wr:Aa)(sn:Nat)(r:R.Sn):Prop where
 MU:wr.cell? (Y x 11)=some (EJ sn 9 9)
 x2:wr.cell? (Y x 2)=some (Z G.c.Ew)
 ne:sn≠x
 cs:iZ wr sn i r
 z:∀o,wr.frozen? (Y sn o)=false
 num:r.E1=true->(1<=r.El/\r.El<=8)/\0<=r.DW/\r.DW<=6
 idle:r.E1=false->TI x F w (R.EH G i) wr
 less:r.E1=true->1<r.El->TI x F w (R.EH G i) (wr.setCell (Y sn (i*10+8)) (Z (r.El-1)))
 over:r.E1=true->¬1<r.El->r.DW=0->TI x F w (R.EH G i) ((wr.setCell (Y sn (i*10+8)) (Z (r.El-1))).setCell (Y sn (i*10+7)) (.bool false))
 Ga:r.E1=true->¬1<r.El->¬r.DW=0->Calls prog 168 #[Ey x,Z i] (((wr.setCell (Y sn (i*10+8)) (Z (r.El-1))).setCell (Y sn (i*10+9)) (Z (r.DW-1))).setCell (Y sn (i*10+8)) (Z G.c.Ew)) λe w'=>e=.returned Ep/\TI x F w (R.EH G i) w'
theorem oO(h:TI x F w G wr)(hi:i<9):∃sn r,qe x F w G i wr sn r:=by
 have⟨v,T,g,Q⟩:=h;obtain⟨r,B⟩:∃r,G.DN[i]?=some r:=⟨_,Ah (by rw[g.GQ.sl];exact hi)⟩;have f:=g.GQ.sn i r B;have y:=GG B;have hp:R.EZ G i=r:=by unfold R.EZ;rw[B];rfl
 have X:=g.wf.cf;unfold R.GA at X;have ak:r.E1=true->r.D4≠0:=λm e=>by
  rw[f.zero e]at m;cases m
 have z0:∀{r':R.Sn},r.E1=true->r'.D4=r.D4->(r'.D4=0->r'=R.Ic):=by grind
 refine⟨v.Sn,r,⟨EI g.bx 11,EI g.bx 2,λe=>ES g.DN (e ▸ g.bx) Em rfl,Kg g.DN B,λo=>Eb g.DN,λm=>(f.E1 m).2,λm=>?_,λm hw=>?_,λm hw aa=>?_,λm hw aa=>?_⟩⟩
 ·unfold R.EH;simp only[hp];rw[Ay m];exact⟨v,T,g,Q⟩
 ·have⟨O,t2,t3⟩:=f.E1 m;have D:R.EH G i=R.EA G i {r with El:=r.El-1}:=by grind [R.EH]
  rw[D];have⟨a1,a2⟩:=g.vP (i:=i) (r':={r with El:=r.El-1}) ⟨z0 m rfl,f.D4,f.some,f.Lu,f.El,f.MY,λ_=>⟨O,by simp only;omega,t3⟩⟩ (EV _) (Fz g.DN B (j:=8) U rfl);exact⟨v,T,a1,Q.trans a2⟩
 ·have⟨O,t2,t3⟩:=f.E1 m;have D:R.EH G i=R.EA G i {r with El:=r.El-1,E1:=false}:=by grind [R.EH]
  rw[D];have s1:=Fz (r1:={r with El:=r.El-1}) g.DN B (j:=8) (u:=Z (r.El-1)) U rfl;have s2:=Fz (r:={r with El:=r.El-1}) (r1:={r with El:=r.El-1,E1:=false}) s1 (AO y) (j:=7) (u:=.bool false) U rfl;rw[A5]at s2;have⟨a1,a2⟩:=g.vP (i:=i) (r':={r with El:=r.El-1,E1:=false}) ⟨z0 m rfl,f.D4,f.some,f.Lu,f.El,f.MY,Ev⟩ ((EV _).trans (EV _)) s2;exact⟨v,T,a1,Q.trans a2⟩
 ·have⟨O,t2,t3⟩:=f.E1 m;have D:R.EH G i=R.Ex (R.EA G i {r with El:=G.c.Ew,DW:=r.DW-1}) i:=by grind [R.EH]
  rw[D];have s1:=Fz (r1:={r with El:=r.El-1}) g.DN B (j:=8) (u:=Z (r.El-1)) U rfl;have s2:=Fz (r:={r with El:=r.El-1}) (r1:={r with El:=r.El-1,DW:=r.DW-1}) s1 (AO y) (j:=9) (u:=Z (r.DW-1)) U rfl;rw[A5]at s2;have s3:=Fz (r:={r with El:=r.El-1,DW:=r.DW-1}) (r1:={r with El:=G.c.Ew,DW:=r.DW-1}) s2 (AO y) (j:=8) (u:=Z G.c.Ew) U rfl;rw[A5]at s3;have⟨a1,a2⟩:=g.vP (i:=i) (r':={r with El:=G.c.Ew,DW:=r.DW-1}) ⟨z0 m rfl,f.D4,f.some,f.Lu,f.El,f.MY,λ_=>⟨O,by simp only;omega,by simp only;omega⟩⟩ (((EV _).trans (EV _)).trans (EV _)) s3;refine cm (a1.aak (r:={r with El:=G.c.Ew,DW:=r.DW-1}) (by simp[R.EA,y]) O) ?_;rintro w' ⟨v2,F2,b1,b2⟩;exact⟨rfl,v2,F2,b1,Q.trans (a2.trans b2)⟩
theorem jd{r:R.Sn}:∃t k,Ak r p al n tb t k:=by
 by_cases g:p.Dz=6
 ·by_cases e:r.D4=p.D4
  ·by_cases f:r.DK=3
   ·by_cases h:p.off=R.DL r.DU
    ·by_cases j:p.Ez=r.at'
     ·by_cases m:r.at'<R.DL r.DU-1
      ·exact⟨_,_,.got g e f h j m⟩
      ·exact⟨_,_,.ul g e f h j m⟩
     ·exact⟨_,_,.um g e f h j⟩
    ·exact⟨_,_,.aeY g e f h⟩
   ·exact⟨_,_,.jT g e f⟩
  ·exact⟨_,_,.aa7 g e⟩
 ·by_cases e:r.D4=p.D4
  ·exact⟨_,_,.known g e⟩
  ·by_cases f:p.D4<r.D4
   ·exact⟨_,_,.old g e f⟩
   ·cases al with
    |false=>exact⟨_,_,.dead g e f rfl⟩
    |true=>
     by_cases h:p.Dz=3
     ·exact⟨_,_,.three h e f rfl⟩
     ·by_cases j:p.Ez=0
      ·by_cases m:r.D4=0
       ·by_cases y:tb<=n
        ·exact⟨_,_,.full g e f rfl h j m y⟩
        ·exact⟨_,_,.room g e f rfl h j m y⟩
       ·exact⟨_,_,.over g e f rfl h j m⟩
      ·exact⟨_,_,.Ez g e f rfl h j⟩
structure AkE(K:R.Wd)(i:Nat)(r:R.Sn)(P:Pk)(t:Nat)(k:Int):Prop where
 e0:t=0->R.N0 K i P=K
 e1:t=1->R.N0 K i P=R.Hl K i P/\r.D4=P.D4
 e2:t=2->R.N0 K i P=R.G8 K P 7 k 2/\(k=0\/k=1)
 e3:t=3->R.N0 K i P=R.JF (R.EA K i {r with at':=r.at'+1}) i/\r.DK=3/\r.at'<R.DL r.DU-1
 e4:t=4->R.N0 K i P=R.Hl (R.EA K i (Oo P)) i P/\¬r.D4=P.D4/\¬P.D4<r.D4/\R.Js K P.D5=true
theorem ael{r:R.Sn}(m:K.DN[i]?=some r)(h:Ak r P (R.Js K P.D5) (R.FE K:Int) K.c.FF t k):AkE K i r P t k:=by
 have e:=SI m P;unfold Zm Ks at e;cases h with
 |aa7 a b=>exact⟨λ_=>by rw[e,Ay a,Ao (λq=>b q.1)],U,U,U,U⟩
 |jT a b c=>exact⟨λ_=>by rw[e,Ay a,Ao (λq=>c q.2.1)],U,U,U,U⟩
 |aeY a b c d=>exact⟨λ_=>by rw[e,Ay a,Ao (λq=>d q.2.2.1)],U,U,U,U⟩
 |um a b c d f=>exact⟨λ_=>by rw[e,Ay a,Ao (λq=>f q.2.2.2.1)],U,U,U,U⟩
 |ul a b c d f g=>exact⟨λ_=>by rw[e,Ay a,Ao (λq=>g q.2.2.2.2)],U,U,U,U⟩
 |got a b c d f g=>exact⟨U,U,U,λ_=>⟨by rw[e,Ay a,Ay ⟨b,c,d,f,g⟩],c,g⟩,U⟩
 |known a b=>exact⟨U,λ_=>⟨by rw[e,Ao a,Ay b],b⟩,U,U,U⟩
 |old a b c=>exact⟨λ_=>by rw[e,Ao a,Ao b,Ay c],U,U,U,U⟩
 |dead a b c d=>exact⟨U,U,λ_=>⟨by rw[e,Ao a,Ao b,Ao c,Ay d],Aj rfl⟩,U,U⟩
 |three a b c d=>exact⟨λ_=>by rw[e,Ao U,Ao b,Ao c,Ao (by rw[d];decide),Ay (Aj a)],U,U,U,U⟩
 |Ez a b c d f g=>exact⟨λ_=>by rw[e,Ao a,Ao b,Ao c,Ao (by rw[d];decide),Ay (Am g)],U,U,U,U⟩
 |full a b c d f g j l=>exact⟨U,U,λ_=>⟨by rw[e,Ao a,Ao b,Ao c,Ao (by rw[d];decide),Ao (λq=>q.elim f (λq=>q g)),Ay ⟨j,l⟩],Am rfl⟩,U,U⟩
 |room a b c d f g j l=>exact⟨U,U,U,U,λ_=>⟨by rw[e,Ao a,Ao b,Ao c,Ao (by rw[d];decide),Ao (λq=>q.elim f (λq=>q g)),Ao (λq=>l q.2)],b,c,d⟩⟩
 |over a b c d f g j=>exact⟨U,U,U,U,λ_=>⟨by rw[e,Ao a,Ao b,Ao c,Ao (by rw[d];decide),Ao (λq=>q.elim f (λq=>q g)),Ao (λq=>j q.1)],b,c,d⟩⟩
theorem RM.akT{F0:D9}{w0 W:Aa}(h:RM x v F K W)(y:R.Inv M K){r:R.Sn}(hr:K.DN[i]?=some r){d:R.Cd}(aa:R.Lm M K P d i){B:Nat}(an:W.heap[B]?=some (.cells (Je P) 41 (0,0)))(av:x<B/\v.Sn<B)(hw:D8 F0 F w0 W)(hA:Ak r P (R.Js K P.D5) (R.FE K:Int) K.c.FF t k):
  AkT x v.Sn i B K.c.FF r P (R.Js K P.D5) (R.FE K:Int) t k (λw'=>∃v' F',RM x v' F' (R.N0 K i P) w'/\D8 F0 F' w0 w') W:=by
 have hE:=ael hr hA;have Q:=aa.right;have aq:=aa.lt;have D:=y.wf.JC;have aN:=Q.2.2.2.2.1;have ao:=y.wf.cf;unfold R.GA at ao;have ae:K.EF.length<=100:=by have:=y.ws.jl;omega
 have f:=y.ws.sn i r hr;have m:=GG hr;have ac:∃(pb:Ab) (pn:Int),(r.DK=3->pn=R.DL r.DU)/\∀g,D7 220 #[.string (str r.DU),Z 0] g (.tuple #[.string pb,Z pn]) λw'=>w'=g:=by
  by_cases X:r.DK=3
  ·have:=(f.MY X).2.1;exact⟨_,_,λ_=>rfl,λg=>Ma r.DU 0 U U g⟩
  ·have⟨pb,pn,hc⟩:=XM (str r.DU);exact⟨pb,pn,λq=>absurd q X,hc⟩
 refine⟨EI h.bx 4,EI h.bx 11,Kg h.DN hr,λo=>Eb h.DN,an,λe=>ES h.DN (e ▸ h.bx) Em rfl,av,λg hb=>(h.DG hb).Fj y.wf.sv P.D5,λg hb=>(h.DG hb).fU y.ws.sl,ac,λT g hb=>?_,λT g hb=>?_,λT g hb=>?_,λT g hb=>?_,λT g hb=>?_⟩
 ·rw[hE.e0 T];exact⟨v,F,h.DG hb,hw.trans (D8.D6 F hb)⟩
 ·have⟨e,hs⟩:=hE.e1 T;rw[e];refine cm ((h.DG hb).known D y.ws hr ae U Q) ?_;exact aci
 ·have⟨e,hk⟩:=hE.e2 T;rw[e];refine cm ((h.DG hb).KN D P 7 k 2 (Lf Q U U)) ?_;exact aci
 ·have⟨e,X,ar⟩:=hE.e3 T;rw[e];have⟨a1,a2,a3,a4⟩:=f.MY X;have aw:r.D4≠0:=λq=>by
   rw[f.zero q]at X;cases X
  have⟨r1,r2⟩:=h.JE (sn:=K.DN.set i {r with at':=r.at'+1}) (EV _) (Fz h.DN hr (j:=6) (u:=Z (r.at'+1)) U rfl);have az:=NF y.ws (i:=i) (r:={r with at':=r.at'+1}) ⟨λq=>absurd q aw,f.D4,f.some,f.Lu,f.El,λ_=>⟨a1,a2,by simp only;omega,by simp only;omega⟩,f.E1⟩;have O:(K.DN.set i {r with at':=r.at'+1})[i]?=some {r with at':=r.at'+1}:=AO m;have hb':Below (W.setCell (Y v.Sn (i*10+6)) (Z (r.at'+1))).heap.size (W.setCell (Y v.Sn (i*10+6)) (Z (r.at'+1))) g:=by
   rw[show (W.setCell (Y v.Sn (i*10+6)) (Z (r.at'+1))).heap.size=W.heap.size by simp];exact hb
  refine((r1.DG hb').tell D y.ws.ll (r:={r with at':=r.at'+1}) O aq ⟨by simp only;omega,by simp only;omega⟩ a2 (Jg (G:={K with DN:=K.DN.set i {r with at':=r.at'+1}}) az O X)).mono ?_;exact ab0
 ·have⟨e,hs,ah,am⟩:=hE.e4 T;rw[e];have ak:=y.S7 aa hr hs ah (by simpa [R.Js,R.Jt] using am);have⟨r1,r2⟩:=h.vO m (Oo P);have O:(R.EA K i (Oo P)).DN[i]?=some (Oo P):=AO m;have hb':Below (Ie W v.Sn i (Oo P)).heap.size (Ie W v.Sn i (Oo P)) g:=by
   rw[OC];exact hb
  refine((r1.DG hb').known (by exact D) ak.ws O (by exact ae) (by show P.D4≠0;omega) Q).mono ?_;exact ab0
theorem nh{r:R.Sn}(g:World->Prop)(h:p.DJ=(ci:Int))(m:p.DZ=(li:Int))(hc:ci<3)(hl:li<3)(hi:i=3*ci+li)(Tf:w.cell? (Y x 10)=some (EJ L 3 3))(c0:w.cell? (Y L ci)=some (Z DR))(j:p.DR=DR)(T:r.DK=3->(0<=r.at'/\r.at'<=9)/\r.DU.length<=1000)(X:Ak r p al n tb t k)
  (y:Hid (∀W,E3 w w (.cells (Je p) 41) W->AkT x sn i w.heap.size tb r p al n t k g W)):
  D7 225 #[Ey x,pv p] w Ep λw'=>g w':=by
 obtain⟨kd,cl,lf,ln,sq,ud,pt,off,pl,bd⟩:=p;simp only at h m j y;subst h;subst m;subst j;have q0:0<=(ci:Int):=U;have q1:(ci:Int)<3:=U;have i0:0<=(i:Int):=U;have i9:(i:Int)<9:=U;have e1:IntKind.i64.wrap (3*(ci:Int))=3*(ci:Int):=Iz;have e2:IntKind.i64.wrap (3*(ci:Int)+(li:Int))=(i:Int):=Iz;obtain⟨hx,hL⟩:=KM Tf c0;clear hi hl;have g0:¬lf<lf:=U;go_enter func225,ntmps225;go_wp2_with fail
 go_quiet (fail);go_wp2_with fail
 go_quiet (fail);refine EE (E3 w w _) ((JJ).drewN _) ?_;intro W Q;obtain⟨x4,MU,⟨s0,s1,s2,s3,s4,s5,s6,s7,s8,s9⟩,z,f,ne,⟨lx,O⟩,lh,lm,⟨pb,pn,B,kZ⟩,d0,d1,d2,d3,d4⟩:=y W Q;obtain⟨b0,b1,b2,b3,b4,b5,b6,b7,b8,b9⟩:=Yy f;have aa:=Dv f;have ah:x<W.heap.size:=U;have ae:sn<W.heap.size:=U;obtain⟨C253,C254,C220,HBX⟩:=bE lh lm kZ f;have z0:=z (i*10);have z1:=z (i*10+1);have z2:=z (i*10+2);have z3:=z (i*10+3);have z4:=z (i*10+4);have z5:=z (i*10+5);have z6:=z (i*10+6);have z7:=z (i*10+7);have z8:=z (i*10+8);have z9:=z (i*10+9);have n1:=ne;have n2:¬x=sn:=λe=>ne e.symm
 have m1:¬sn=w.heap.size:=U;have m2:¬w.heap.size=sn:=U;clear Q f lh lm kZ y ne z lx O hx hL Tf c0;generalize w.heap.size=bq at *;cases X;all_goals
  first|have D:=Dx (d0 rfl)|have D:=Dx (d1 rfl)|have D:=Dx (d2 rfl)|have D:=Dx (d3 rfl)|have D:=Dx (d4 rfl)
  clear d0 d1 d2 d3 d4;try simp only at *
  subst_vars
  try (obtain rfl:=B (by assumption);have hq:=T (by assumption);have e4:IntKind.i64.wrap (R.DL r.DU-1)=R.DL r.DU-1:=(by unfold R.DL;rw[BS];omega);have e5:IntKind.i64.wrap (r.at'+1)=r.at'+1:=Iz;clear hq)
  try have kn:(pt != 0)=true:=by simpa using (by assumption:¬pt=0)
  clear T;exact afg
theorem ng{r:R.Sn}(y:World->Prop)(h:p.DJ=(ci:Int))(T:p.DZ=(li:Int))(hc:ci<3)(hl:li<3)(hi:i=3*ci+li)(Tf:w.cell? (Y x 10)=some (EJ L 3 3))(c0:w.cell? (Y L ci)=some (Z DR))(aS:DR<p.DR)(zl:w.frozen? (Y L ci)=false)(ba:sn<w.heap.size)(B:L≠x)(aw:Hid (sn≠x))(HK:Hid (∀k W,k<3->E3 w (JY w L sn ci p.DR k) (.cells (Je p) 41) W->W.cell? (Y x 11)=some (EJ sn 9 9)/\∀o,W.frozen? (Y sn o)=false/\(o<90->∃u,W.cell? (Y sn o)=some u)))(O:r=R.Ic)(j:1<=p.D4)(hA:Ak r p al n tb t k)
  (HT:Hid (∀W,E3 w (JY w L sn ci p.DR 3) (.cells (Je p) 41) W->AkT x sn i w.heap.size tb r p al n t k y W)):
  D7 225 #[Ey x,pv p] w Ep λw'=>y w':=by
 obtain⟨kd,cl,lf,ln,sq,ud,pt,off,pl,bd⟩:=p;simp only at h T aS HT HK j;subst h;subst T;have q0:0<=(ci:Int):=U;have q1:(ci:Int)<3:=U;have i0:0<=(i:Int):=U;have i9:(i:Int)<9:=U;have e1:IntKind.i64.wrap (3*(ci:Int))=3*(ci:Int):=Iz;have e2:IntKind.i64.wrap (3*(ci:Int)+(li:Int))=(i:Int):=Iz;obtain⟨hx,hL⟩:=KM Tf c0;have g0:¬lf<DR:=U;have av:=Dx hc;have c7:=B;have c8:¬x=L:=λe=>B e.symm
 have ca:¬L=w.heap.size:=U;have cc:¬w.heap.size=L:=U;have h0:r.D4=0:=by rw[O];rfl
 go_enter func225,ntmps225;go_wp2_with fail
 go_quiet (fail);go_wp2_with fail
 go_quiet (fail);refine EE (E3 w w _) ((JJ).drewN _) ?_;intro W0 f;obtain⟨b1,b2⟩:=VL f.2 1 2;have bi:=(f.1.cell (p:=Y x _) hx).trans Tf;have yc:=(f.1.cell (p:=Y L _) hL).trans c0;have yz:=(f.1.frozen (p:=Y L _) hL).trans zl;have lB:=Dv f.2;have bg:x<W0.heap.size:=U;have be:L<W0.heap.size:=U;have H0:Hid (E3 w (JY w L sn ci lf 0) (.cells (Je ⟨kd,(ci:Int),lf,(li:Int),sq,ud,pt,off,pl,bd⟩) 41) (W0.setCell (Y L ci) (Z lf))):=f.set hL (Z lf);obtain⟨HA,az,aN⟩:=Ll hA O j;clear f Tf c0 zl B hc hA hi hl O j h0;go_wp2_with fail
 go_region_held3 (λw'=>w'.cell? (Y x 10)=some (EJ L 3 3)/\w'.cell? (EN w 1)=some (Z ci)/\w'.cell? (EN w 2)=some (Z lf)) (go_keep) (fail)
 refine EE (E3 w (JY w L sn ci lf 0) (.cells (Je ⟨kd,(ci:Int),lf,(li:Int),sq,ud,pt,off,pl,bd⟩) 41)) H0.drew ?_;intro W1 Q;have H1:=Dx Q;clear Q H0 b1 b2 bi yc yz lB bg be;go_wp2_with fail
 go_loopw [4] (λkv wr=>∃k:Nat,k<=3/\kv=Z k/\E3 w (JY w L sn ci lf k) (.cells (Je ⟨kd,(ci:Int),lf,(li:Int),sq,ud,pt,off,pl,bd⟩) 41) wr) (λkv _=>3-(intOf kv).toNat)
 case atStart=>exact⟨0,U,rfl,H1⟩
 case round=>
  obtain⟨k,hk,rfl,hB⟩:=hrel;by_cases aV:k<3
  ·have h:=Dw av;obtain⟨m,hm⟩:∃m:Nat,m=3*ci+k:=⟨_,rfl⟩;obtain⟨MU,hz⟩:=HK k _ aV hB;have b1:=EI hB.2 1;have lB:=Dv hB.2;have kk:(k:Int)<3:=U;have m0:0<=(m:Int):=U;have m9:(m:Int)<9:=U;have e3:IntKind.i64.wrap (3*(ci:Int)+(k:Int))=(m:Int):=Iz;have bX:x<wr.heap.size:=U;have bU:sn<wr.heap.size:=U;have ce:¬sn=w.heap.size:=U;have cg:¬w.heap.size=sn:=U;obtain⟨z0,X⟩:=hz (m*10);obtain⟨u0,y0⟩:=X U;clear X;obtain⟨z1,aa⟩:=hz (m*10+1);obtain⟨u1,y1⟩:=aa U;clear aa;obtain⟨z2,ab⟩:=hz (m*10+2);obtain⟨u2,y2⟩:=ab U;clear ab;obtain⟨z3,ac⟩:=hz (m*10+3);obtain⟨u3,y3⟩:=ac U;clear ac;obtain⟨z4,ad⟩:=hz (m*10+4);obtain⟨u4,y4⟩:=ad U;clear ad;obtain⟨z5,ae⟩:=hz (m*10+5);obtain⟨u5,y5⟩:=ae U;clear ae;obtain⟨z6,ah⟩:=hz (m*10+6);obtain⟨u6,y6⟩:=ah U;clear ah;obtain⟨z7,ak⟩:=hz (m*10+7);obtain⟨u7,y7⟩:=ak U;clear ak;obtain⟨z8,am⟩:=hz (m*10+8);obtain⟨u8,y8⟩:=am U;clear am;obtain⟨z9,an⟩:=hz (m*10+9);obtain⟨u9,y9⟩:=an U;clear an;have HB:Hid (E3 w (JY w L sn ci lf (k+1)) (.cells (Je ⟨kd,(ci:Int),lf,(li:Int),sq,ud,pt,off,pl,bd⟩) 41) (Ie wr sn m R.Ic)):=by
    subst hm;exact hB.Ie ba R.Ic
   have ex:=Dw aw;have bz:¬x=sn:=λe=>ex e.symm
   clear hB hz h hm HK HT;go_wp2_with fail
   go_region_held3 (λw'=>w'.cell? (Y x 11)=some (EJ sn 9 9)/\w'.cell? (EN w 1)=some (Z ci)) (go_keep) (fail)
   go_wp2_with fail
   go_roundw
   case rel=>exact⟨k+1,U,Kc,HB.drew⟩
   case measure=>exact Kt
  ·obtain rfl:k=3:=U;refine EE (E3 w (JY w L sn ci lf 3) (.cells (Je ⟨kd,(ci:Int),lf,(li:Int),sq,ud,pt,off,pl,bd⟩) 41)) hB ?_;clear hB HK H1;have hA:=Dw HA;have h0:r.D4=0:=by rw[Dw az];rfl
   have j:=Dw aN;intro W hW;obtain⟨x4,MU,⟨s0,s1,s2,s3,s4,s5,s6,s7,s8,s9⟩,z,g,ne,⟨lx,bf⟩,lh,lm,⟨pb,pn,bS,kZ⟩,d0,d1,d2,d3,d4⟩:=HT W hW;obtain⟨b0,b1,b2,b3,b4,b5,b6,b7,b8,b9⟩:=Yy g;have bL:=Dv g;have bW:x<W.heap.size:=U;have bT:sn<W.heap.size:=U;obtain⟨C253,C254,C220,HBX⟩:=bE lh lm kZ g;have z0:=z (i*10);have z1:=z (i*10+1);have z2:=z (i*10+2);have z3:=z (i*10+3);have z4:=z (i*10+4);have z5:=z (i*10+5);have z6:=z (i*10+6);have z7:=z (i*10+7);have z8:=z (i*10+8);have z9:=z (i*10+9);have n1:=ne;have n2:¬x=sn:=λe=>ne e.symm
   have m1:¬sn=w.heap.size:=U;have m2:¬w.heap.size=sn:=U;clear hW g lh lm kZ HT ne z lx bf hx hL;generalize w.heap.size=bq at *;cases hA;all_goals try (exfalso;(try simp only at *);omega)
   all_goals
    first|have D:=Dx (d0 rfl)|have D:=Dx (d1 rfl)|have D:=Dx (d2 rfl)|have D:=Dx (d3 rfl)|have D:=Dx (d4 rfl)
    clear d0 d1 d2 d3 d4;try simp only at *
    subst_vars
    try have kn:(pt != 0)=true:=by simpa using (by assumption:¬pt=0)
    exact afg
theorem RM.YW(h:RM x v F G w)(f:R.MX G.c G.DX G.DN G.EF)(hc:ci<3)(e:Int):∀k,k<=3->∃sn,RM x v F {G with DX:=G.DX.set ci e,DN:=sn} (JY w v.L v.Sn ci e k)/\sn.length=9/\D8 F F w (JY w v.L v.Sn ci e k)/\(JY w v.L v.Sn ci e k).heap.size=w.heap.size
 |0,_=>by
  have e0:(w.setCell (Y v.L ci) (Z e)).heap[v.L]?=some (.cells (GK (G.DX.set ci e)).toArray 3 (0,0)):=by
   have:=Ek (off:=ci) h.DX (Z e);rw[this];simp[GK,List.map_set]
  have⟨a1,a2⟩:=h.Zf (EV _) e0;exact⟨G.DN,a1,f.sl,a2,by show (w.setCell _ _).heap.size=_;simp⟩
 |k+1,hk=>by
  have⟨sn,a1,a2,a3,a4⟩:=h.YW f hc e k U;have⟨g,j⟩:=a1.vO (i:=3*ci+k) (by show 3*ci+k<sn.length;omega) R.Ic;exact⟨sn.set (3*ci+k) R.Ic,g,by simpa using a2,a3.trans j,(OC _ _ _ _).trans a4⟩
theorem RM.Gn{G:R.Wd}(h:RM x v F G w)(B:R.Inv M G){P:Pk}(g:EC P)(hp:R.Tj M G.Dy (-1) P):
  D7 225 #[Ey x,pv P] w Ep λw'=>∃v' F',RM x v' F' (R.KB G P) w'/\D8 F F' w w':=by
 have⟨d,hd,hu,hk⟩:=hp;have⟨_,av,az,aw,ak,_⟩:=id g;generalize hci:P.DJ.toNat=ci;generalize hni:P.DZ.toNat=ni;obtain⟨y,Q,ab,m⟩:P.DJ=(ci:Int)/\P.DZ=(ni:Int)/\3*ci+ni<9/\(3*ci+ni) / 3=ci:=U;have aN:=B.ws.ll;have Tf:=EI h.bx 10;have c0:EB w v.L ci (Z (G.DX.getD ci 0)):=by
  refine E7 h.DX ?_;unfold GK
  grind
 have ad:=Dv h.bx;have O:=Dv h.DN;have eA:R.KB G P=if P.DR<G.DX.getD ci 0 then G else R.N0 (R.Ib G P) (3*ci+ni) P:=by
  unfold R.KB;rw[hci,hni]
 have ah:∀{K:R.Wd},R.Inv M K->∀{i:Nat} {r:R.Sn},K.DN[i]?=some r->r.DK=3->(0<=r.at'/\r.at'<=9)/\r.DU.length<=1000:=λhK _ _ hr h3=>by
  have⟨a1,a2,a3,a4⟩:=(hK.ws.sn _ _ hr).MY h3;have:=R.IV a2;omega
 rw[eA];rcases Int.lt_trichotomy P.DR (G.DX.getD ci 0) with hc|hc|hc
 ·rw[Ay hc];refine cm (uG y U Tf c0 hc) λw' f=>?_
  exact⟨rfl,v,F,h.DG f,D8.D6 F f⟩
 ·rw[Ao U];have eL:R.Ib G P=G:=by grind [R.Ib]
  rw[eL];have D:R.Lm M G P d (3*ci+ni):=⟨g,hd,hu,by rw[m];exact hc,by rw[hci,hni]⟩;have hr:=B.K6 ab;obtain⟨t,k,T⟩:=jd;exact nh _ y Q U U rfl Tf c0 hc (ah B hr) T (Dx λW j=>(h.DG j.1).akT B hr D j.2 ⟨ad,O⟩ (D8.D6 F j.1) T)
 ·rw[Ao U];have X:=B.DX g hd;have⟨f1,f2⟩:=h.forget (P:=P) B.ws hci U hc;have aa:Xh w v.L v.Sn ci P.DR=JY w v.L v.Sn ci P.DR 3:=rfl;rw[aa]at f1 f2;have am:(JY w v.L v.Sn ci P.DR 3).heap.size=w.heap.size:=by rw[<-aa];simp[World.setCell]
  have hr2:=X.K6 ab;have ac:R.EZ (R.Ib G P) (3*ci+ni)=R.Ic:=by
   have e:=OL (G:=G) (P:=P) (by rw[hci];exact hc);rw[e,hci]at hr2 ⊢;exact acp
  have D:R.Lm M (R.Ib G P) P d (3*ci+ni):=⟨g,hd,hu,by
   rw[m,OL (by rw[hci];exact hc),hci];show P.DR=(G.DX.set ci P.DR).getD ci 0;rw[Bu,Bf,Ay rfl,Ay U];rfl,by rw[hci,hni]⟩
  obtain⟨t,k,T⟩:=jd;refine ng _ y Q U U rfl Tf c0 hc (Eb h.DX) O (λe=>ES h.DX (e ▸ h.bx) Em rfl) (Dx λe=>ES h.DN (e ▸ h.bx) Em rfl) (Dx λk W hk j=>?_) ac ak.1 T (Dx λW j=>?_)
  ·have⟨sn,a1,a2,_,a4⟩:=h.YW B.ws (show ci<3 by omega) P.DR k U;have f:=j.1;rw[<-a4]at f;have hm:=a1.DG f;refine⟨EI hm.bx 11,λo=>⟨Eb hm.DN,λho=>?_⟩⟩;have hl:(tab Rk sn).length=90:=by rw[F8 XT,a2]
   obtain⟨u,hu⟩:∃u,(tab Rk sn)[o]?=some u:=⟨_,Ah U⟩;exact⟨u,E7 hm.DN hu⟩
  ·have f:=j.1;rw[<-am]at f;exact(f1.DG f).akT X hr2 D j.2 ⟨ad,O⟩ (f2.trans (D8.D6 F f)) T
structure kC(w:Aa)(x ci li g n cap lb nl:Nat)(DR:Int)(l:R.Ln):Prop where
 x9:w.cell? (Y x 9)=some (EJ g n cap)
 c0:w.cell? (Y g (ci*3))=some (Z DR)
 c2:w.cell? (Y g (ci*3+2))=some (EJ lb nl nl)
 ln:xX w lb li l
 hc:ci<n
 hl:li<nl
theorem nT(w:Aa)(x ci li g n cap lb B:Nat)(DR:Int)(l:R.Ln)(p:Pk)(y:p.DZ=(li:Int))(h:kC w x ci li g n cap lb B DR l)(f:l.DK≠1\/(l.DK=1/\p.DR≠DR)\/(l.DK=1/\p.DR=DR/\p.D4≠l.D4)):
  D7 226 #[Ey x,Z ci,pv p] w Ep λT=>DY w T:=by
 have⟨x9,c0,c2,⟨l0,l1,_,_,_,_,_,_,_,_,_⟩,hc,hl⟩:=h;have⟨kd,cl,O,ln,Q,ud,pt,off,pl,bd⟩:=p;simp only at y f;subst y;obtain⟨q0,q1,q2,q3⟩:0<=(ci:Int)/\(ci:Int)<n/\0<=(li:Int)/\(li:Int)<B:=U;have⟨hx,X,D⟩:=Va x9 c0 l0;clear hc hl;rcases f with e|⟨e,j⟩|⟨e,j,m⟩
 ·have k1:(l.DK != 1)=true:=by simpa using e
  clear e;exact adP
 ·rw[e]at l1;have k2:(O != DR)=true:=by simpa using j
  clear e j;exact adP
 ·rw[e]at l1;subst j;have k3:(Q != l.D4)=true:=by simpa using m
  clear e m;exact adP
theorem RM.acE{F':D9}(h:RM x v F G w)(e:∀k,F k->F' k)(g:∀k,F' k->k<w.heap.size):RM x v F' G w:=by
 have⟨m,B,D⟩:=h.Fw;refine⟨h.bx,h.Eu,h.Ec,h.zs,h.Iw,h.I4.sG (DF.refl (λ_=>False) w) (λ_ _ _ q=>q) e,h.JC,h.zc,h.cl,h.Ee,λi z hz=>?_,h.DX,h.DN,⟨e _ m,e _ B,e _ D⟩,λj f=>e j (h.rows j f),λi z hz=>⟨e _ (h.Gs i z hz).1,λj f=>⟨e _ ((h.Gs i z hz).2 j f).1,((h.Gs i z hz).2 j f).2⟩⟩,h.sL,h.inj,g⟩;have⟨Q,a,b,c⟩:=h.ln i z hz;exact⟨Q,a,b,λy O=>(c y O).keep (DF.refl (λ_=>False) w) (λ_ _ _ _ q=>q) e⟩
theorem Tk.M3{g cap:Nat}{z:R.Cl×CE}{e:List (R.Ln×Value)}(h:Tk x v F G w i c g cap z e):v.M3[i]?=some z.2.lb:=by
 unfold RV.M3;rw[BP,h.hz];rfl
abbrev Qo(w:Aa)(lb k:Nat)(rt tr:Int):World:=(w.setCell (Y lb (k*11+9)) (Z rt)).setCell (Y lb (k*11+10)) (Z tr)
theorem RM.rest(h:RM x v F G w){k:Nat}{l:R.Ln}(hc:G.DI[i]?=some c)(hl:c.DV[k]?=some l)(X:l.DK≠2){lb:Nat}(Q:v.M3[i]?=some lb):∃D y,RM x D y (R.JS G i k) (Qo w lb k G.c.Ew G.c.DW)/\D8 F y w (Qo w lb k G.c.Ew G.c.DW)/\D.M3=v.M3:=by
 have⟨g,cap,z,zl,f⟩:=h.at hc;have e:z.2.lb=lb:=by grind [Tk.M3]
 subst e;have⟨B,T,_⟩:=f.DZ hl X;have m:=GG B;have O:R.JS G i k=R.Eh G i k {l with El:=G.c.Ew,DW:=G.c.DW}:=by grind [R.JS,R.FH]
 rw[O];refine h.M5 hc f (l':={l with El:=G.c.Ew,DW:=G.c.DW}) (V':=.slice none 0 0) (Rs.nil w F T) ((FK).trans (FK)) ?_;have s1:=FL (l1:={l with El:=G.c.Ew}) f.lb B (j:=9) (u:=Z G.c.Ew) U rfl;have s2:=FL (l:={l with El:=G.c.Ew}) (l1:={l with El:=G.c.Ew,DW:=G.c.DW}) s1 (AO m) (j:=10) (u:=Z G.c.DW) U rfl;rw[A5]at s2;exact s2
structure RsC(w:Aa)(x lb:Nat)(rt tr:Int):Prop where
 x2:w.cell? (Y x 2)=some (Z rt)
 x3:w.cell? (Y x 3)=some (Z tr)
 ne:lb≠x
 z:∀o,w.frozen? (Y lb o)=false
 lt:lb<w.heap.size
theorem RM.rsc(h:RM x v F G w)(hc:G.DI[i]?=some c){lb:Nat}(j:v.M3[i]?=some lb):RsC w x lb G.c.Ew G.c.DW:=by
 have⟨g,cap,z,m,f⟩:=h.at hc;have e:z.2.lb=lb:=by grind [Tk.M3]
 subst e;exact⟨EI h.bx 2,EI h.bx 3,λe=>ES f.lb (e ▸ h.bx) Em rfl,λo=>Eb f.lb,Dv f.lb⟩
theorem RM.abb(h:RM x v F G w){k:Nat}{l':R.Ln}(hc:G.DI[i]?=some c)(hl:c.DV[k]?=some l)(T:l.DK≠2){lb:Nat}(Q:v.M3[i]?=some lb){j:Nat}(O:j<11)(e:Ui (l',.slice none 0 0)=(Ui (l,.slice none 0 0)).set j u)(m:l'.DU=[]):∃B y,RM x B y (R.Eh G i k l') (w.setCell (Y lb (k*11+j)) u)/\D8 F y w (w.setCell (Y lb (k*11+j)) u)/\B.M3=v.M3:=by
 have⟨g,cap,z,zl,f⟩:=h.at hc;have D:z.2.lb=lb:=by grind [Tk.M3]
 subst D;have⟨X,hr,_⟩:=f.DZ hl T;exact h.M5 hc f (l':=l') (V':=.slice none 0 0) (Rs.nil w F m) (FK) (FL f.lb X O e)
end Go.Proofs.YtblomippkddgiaaGreatDoor
