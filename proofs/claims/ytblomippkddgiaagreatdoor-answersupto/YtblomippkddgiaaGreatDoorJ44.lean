import Derived.Test.YtblomippkddgiaaGreatDoorJ43
import Derived.Test.YtblomippkddgiaaGreatDoorJ39
set_option maxRecDepth 100000
set_option maxHeartbeats 8000000
namespace Go.Proofs.YtblomippkddgiaaGreatDoor
open Go.Proofs.Tryz
open Go.RowKit
variable {F:D9}{N cap n x:Nat}{o:LD}{G:R.Wd}{v:RV}{t:Tw}{w:World}
theorem Xr(h:Ii N t w)(hk:o.Dz=8)(_hs:o.s.length<=1000000000000000)(_hN:N<=9000000000000):
  D7 95 #[t.val,o.val] w (.bool true) λw'=>KA (N+1) t (R.E4 t.G o.s o.a).2 w w':=by
 obtain⟨Q,g,j,f,M,m⟩:=Jc h o;have D:=Dx g;have X:=Dv f.t;have aa:=Dv f.o;have c0:=EI f.t 0;have k8:(o.Dz==8)=true:=by rw[hk];rfl
 obtain⟨d2,d6⟩:=VL f.o 2 6;have O:Hid (D7 60 #[ptr t.p.x,.string (str o.s),Z o.a] Q (.tuple #[Z (R.E4 t.G o.s o.a).1.1,Z (R.E4 t.G o.s o.a).1.2]) λy=>Mid N t (R.E4 t.G o.s o.a).2 Q y):=by
  refine cm (M.l.export o.s o.a) λy e=>?_
  exact⟨rfl,M.mid e⟩
 clear h g hk;obtain⟨T,B⟩:=FU f j;clear f j;go_enter func95,ntmps95;go_wp2_with fail
 rw[Dw D];refine cm O λy e=>?_
 have u:=T.stays e m;have l1:=Dv u.t;have l2:=Dv u.o;have e1:=EI u.t 1;obtain⟨e2,e6⟩:=VL u.o 2 6;have H2:Hid (D7 159 #[Ey t.x,.string (str o.s),Z o.a] y (.tuple #[Z (R.E4 t.G o.s o.a).1.1,Z (R.E4 t.G o.s o.a).1.2]) λw3=>KA (N+1) t (R.E4 t.G o.s o.a).2 w w3):=by
  refine cm (e.r.export o.s o.a) λw3 h3=>?_
  exact⟨rfl,KA.ahead B (e.done h3 ((Bd.export e.MP.bd _ _).le U))⟩
 clear e u O M c0;exact yd
theorem Un(h:Ii N t w)(hk:o.Dz=9)(_hs:o.s.length<=1000000000000000)(_hN:N<=9000000000000):
  D7 95 #[t.val,o.val] w (.bool true) λw'=>KA (N+1) t (R.Fb t.G o.s).2 w w':=by
 have⟨Q,g,j,f,M,m⟩:=Jc h o;have D:=Dx g;have X:=Dv f.t;have aa:=Dv f.o;have c0:=EI f.t 0;have k8:(o.Dz==8)=false:=by rw[hk];rfl
 have k9:(o.Dz==9)=true:=by rw[hk];rfl
 have d6:=EI f.o 6;have O:Hid (D7 160 #[ptr t.p.x,.string (str o.s)] Q (Z (R.Fb t.G o.s).1) λy=>Mid N t (R.Fb t.G o.s).2 Q y):=by
  refine cm (M.l.Iy o.s JG) λy e=>?_
  exact⟨rfl,M.mid e⟩
 clear h g hk;have⟨T,B⟩:=FU f j;clear f j;go_enter func95,ntmps95;go_wp2_with fail
 rw[Dw D];refine cm O λy e=>?_
 have u:=T.stays e m;have l1:=Dv u.t;have l2:=Dv u.o;have e1:=EI u.t 1;have e6:=EI u.o 6;have H2:Hid (D7 161 #[Ey t.x,.string (str o.s)] y (Z (R.Fb t.G o.s).1) λw3=>KA (N+1) t (R.Fb t.G o.s).2 w w3):=by
  refine cm (e.r.Iy o.s) λw3 h3=>?_
  exact⟨rfl,KA.ahead B (e.done h3 ((Bd.Iy e.MP.bd _).le U))⟩
 clear e u O M c0;exact yd
theorem Xt(h:Ii N t w)(hk:o.Dz=10)(hs:o.s.length<=1000000000000000)(X:N<=9000000000000):
  D7 95 #[t.val,o.val] w (.bool true) λw'=>KA (N+1) t (R.FV t.G o.a o.s).2 w w':=by
 obtain⟨Q,g,j,f,M,m⟩:=Jc h o;have D:=Dx g;have aa:=Dv f.t;have ab:=Dv f.o;have c0:=EI f.t 0;have k8:(o.Dz==8)=false:=by rw[hk];rfl
 have k9:(o.Dz==9)=false:=by rw[hk];rfl
 obtain⟨d2,d6⟩:=VL f.o 2 6;have O:Hid (D7 62 #[ptr t.p.x,Z o.a,.string (str o.s)] Q (.tuple #[Z (R.FV t.G o.a o.s).1.1,Z (R.FV t.G o.a o.s).1.2.1,Z (R.FV t.G o.a o.s).1.2.2]) λy=>Mid N t (R.FV t.G o.a o.s).2 Q y):=by
  refine cm (M.l.imports o.a o.s hs) λy e=>?_
  exact⟨rfl,M.tH e.1 e.2⟩
 clear h g hk;obtain⟨T,B⟩:=FU f j;clear f j;go_enter func95,ntmps95;go_wp2_with fail
 rw[Dw D];refine cm O λy e=>?_
 have u:=T.stays e m;have l1:=Dv u.t;have l2:=Dv u.o;have e1:=EI u.t 1;obtain⟨e2,e6⟩:=VL u.o 2 6;have H2:Hid (D7 162 #[Ey t.x,Z o.a,.string (str o.s)] y (.tuple #[Z (R.FV t.G o.a o.s).1.1,Z (R.FV t.G o.a o.s).1.2.1,Z (R.FV t.G o.a o.s).1.2.2]) λw3=>KA (N+1) t (R.FV t.G o.a o.s).2 w w3):=by
  refine cm (e.r.imports o.a o.s (λc hc=>Br (e.MP.bd.b c hc) X)) λw3 h3=>?_
  exact⟨rfl,KA.ahead B (e.done h3 (Bd.import e.MP.bd _ _))⟩
 clear e u O M c0;exact yd
theorem TI.facts{wr:Aa}(h:TI x F w G wr):(∃a cap,EB wr x 9 (.slice a G.DI.length cap))/\EB wr x 1 (Z G.c.DV):=by
 have⟨v,g,f,_⟩:=h;have⟨a,cap,hC⟩:=E8 f.cl;have e:v.zc.length=G.DI.length:=by rw[<-f.zc,AX]
 rw[e]at hC;exact⟨⟨a,cap,ED f.bx 9 _ (by rw[<-hC];rfl)⟩,EI f.bx 1⟩
theorem KS{b o e:Nat}{v:Ad}(h:o≠e):(w.setCell (Y b o) v).cell? (Y b e)=w.cell? (Y b e):=by grind [World.cell?_setCell_other]
theorem gJ(w:Aa)(x:Nat)(F:D9)(G:R.Wd)(N M:Nat)(hN:G.DI.length=N)(an:G.c.DV=(M:Int))(ca:N<=3)(bS:M<=3)(h:TI x F w G w):
  D7 97 #[Ey x] w Ep λw'=>TI x F w (NT (II G N) 9) w':=by
 have H0:=Dx h;have b5:Hid (∀(i k:Nat) (wr:Aa),TI x F w (Jo (II G i) i k) wr->i<N->k<M->∃g cap lb l,iY x F w (Jo (II G i) i k) i k wr g cap lb N M l):=λi k wr m hi hk=>vh m (by rw[Rn,Wt,hN]) (by rw[Qz,Te];exact an) hi hk
 have aq:Hid (∀(i k:Nat) (wr:Aa),TI x F w (Jo (II G i) i k) wr->(∃a cap,wr.cell? (Y x 9)=some (.slice a N cap))/\wr.cell? (Y x 1)=some (Z M)):=λi k wr m=>by
  have:=m.facts;rw[Rn,Wt,hN,Qz,Te,an]at this;exact this
 have b6:Hid (∀(j:Nat) (wr:Aa),TI x F w (NT (II G N) j) wr->j<9->∃sn r,qe x F w (NT (II G N) j) j wr sn r):=λj wr m hj=>oO m hj
 have b9:Hid (∀(j:Nat) (wr:Aa),TI x F w (NT (II G N) j) wr->∃sn,wr.cell? (Y x 11)=some (EJ sn 9 9)):=λj wr m=>by
  have⟨v,F',hR,_⟩:=m;exact⟨v.Sn,EI hR.bx 11⟩
 have y:Hid (∀(j:Nat) (wr:Aa),TI x F w (R.EH (NT (II G N) j) j) wr->TI x F w (NT (II G N) (j+1)) wr):=λj wr m=>by
  rw[iz];exact m
 have aa:Hid (∀(i k:Nat) (wr:Aa),TI x F w (R.EM (Jo (II G i) i k) i k) wr->TI x F w (Jo (II G i) i (k+1)) wr):=λi k wr m=>by
  rw[Me];exact m
 have b7:Hid (∀(i:Nat) (wr:Aa),TI x F w (Jo (II G i) i M) wr->TI x F w (Jo (II G (i+1)) (i+1) 0) wr):=λi wr m=>by
  have e:(II G i).c.DV.toNat=M:=by rw[Te,an];omega
  show TI x F w (II G (i+1)) wr;rw[NJ,e];exact m
 clear h hN an;have⟨⟨a0,bz,y9⟩,y1⟩:=aq 0 0 w (Dw H0);go_enter func97,ntmps97;go_wp2_with fail
 go_loopw [2] (λiv wr=>∃i:Nat,i<=N/\iv=Z i/\TI x F w (Jo (II G i) i 0) wr) (λiv _=>N-(intOf iv).toNat)
 case atStart=>exact⟨0,AV _,rfl,H0⟩
 case round=>
  obtain⟨i,hi,rfl,hT⟩:=hrel;have⟨⟨a1,bL,z9⟩,z1⟩:=aq i 0 _ hT;have hx:=Gv z9;by_cases bi:i<N
  ·have HT:=Dx hT;clear hT y9 y1;go_wp2_with fail
   go_loopw [3] (λkv wr=>∃k:Nat,k<=M/\kv=Z k/\TI x F w (Jo (II G i) i k) wr) (λkv _=>M-(intOf kv).toNat)
   case atStart=>exact⟨0,AV _,rfl,HT⟩
   case round=>
    obtain⟨k,hk,rfl,ab⟩:=hrel;clear z9 z1;by_cases bg:k<M
    ·have⟨g,cap,lb,l,hR⟩:=b5 i k _ ab bi bg;have⟨x1,x2,x9,c2,hL,hz,ae,ch,r1,r2,r3,r4,r5⟩:=hR;have⟨O,Q,T,X,R5⟩:=hd5 r1 r2 r3 r4 r5;have⟨l0,l1,l2,l3,l4,l5,l6,l7,l8,l9,l10⟩:=hL;have cp:=hz (k*11+1);have cq:=hz (k*11+9);have bW:=hz (k*11+10);have⟨co,cc,ce⟩:=Va x9 c2 l0;obtain⟨q0,q1,q2,q3⟩:0<=(i:Int)/\(i:Int)<N/\0<=(k:Int)/\(k:Int)<M:=U;clear ab hz r1 r2 r3 r4 r5 l2 l4 l7 l8;by_cases hs:l.DK=1
     ·have⟨o1,o2,o3,o4,o5,o6⟩:=ae.one hs;have ew:IntKind.i64.wrap (l.El-1)=l.El-1:=Iz;have et:IntKind.i64.wrap (l.DW-1)=l.DW-1:=Iz;by_cases hw:1<l.El
      ·have HE:=Dx (aa i k _ (Q hs hw));have bp:0<l.El-1:=U;clear O Q T X R5 ae;exact xq
      ·have bp:¬0<l.El-1:=U;by_cases m:l.DW=0
       ·have HE:=Dx (aa i k _ (T hs hw m));clear O Q T X R5 ae;exact xq
       ·have aS:=Dw X;have aV:=Dw R5;have e8:IntKind.i64.wrap (8*l.Ea)=8*l.Ea:=by
         have:=o4.2;unfold R.DL at this;rw[BS];omega
        have cg:((str l.DC).size:Int)=(l.DC.length:Int):=by rw[Er]
        have ci:(l.DW==0)=false:=by simpa using m
        have⟨ak,al⟩:=FU (aS hs hw m) (aV hs hw m);clear O Q T X R5 aS aV ae;generalize (Jo (II G i) i k).c.Ew=rt at *;obtain⟨W3,B⟩:∃W3,((wr.setCell (Y lb (k*11+9)) (Z (l.El-1))).setCell (Y lb (k*11+10)) (Z (l.DW-1))).setCell (Y lb (k*11+9)) (Z rt)=W3:=⟨_,rfl⟩;rw[B]at ak al;have m5:W3.cell? (Y lb (k*11+5))=some (.string (str l.DC)):=by
         rw[<-B,KS U,KS U,KS U];exact l5
        have m6:W3.cell? (Y lb (k*11+6))=some (Z l.Ea):=by
         rw[<-B,KS U,KS U,KS U];exact l6
        have b2:W3.heap.size=wr.heap.size:=by rw[<-B];exact NH
        have⟨az,ah⟩:=FU B b2;clear B b2;by_cases hm:8*l.Ea<(l.DC.length:Int)
        ·have ao:=Dx (ak hm);clear ak al;go_wp2_with fail
         rw[Dw az];go_region_held3 (λw'=>w'.cell? (Y lb (k*11+6))=some (Z l.Ea)/\w'.cell? (Y lb (k*11+5))=some (.string (str l.DC))) (go_keep) (fail)
         go_wp2_with fail
         refine(ao W3.drew (by rw[<-Dw ah];exact(AA _ _).drew)).mono ?_;rintro e w4 ⟨rfl,u⟩;have HE:=Dx (aa i k _ u);clear u ao;exact xq
        ·have⟨DR,p1,p2⟩:=al hm;have⟨P1,P2⟩:=FU p1 p2;clear ak al p1 p2;go_wp2_with fail
         rw[Dw az];go_region_held3 (λw'=>w'.cell? (Y lb (k*11+6))=some (Z l.Ea)/\w'.cell? (Y lb (k*11+5))=some (.string (str l.DC))) (go_keep) (fail)
         go_wp2_with fail
         have ar:Below wr.heap.size W3 W3.drew:=by rw[<-Dw ah];exact(AA _ _).drew
         refine cm (P1 W3.drew ar) λw4 b1=>?_
         have ad:=ar.trans (b1.mono (by simp;rw[Dw ah];exact Ar _));have aN:=Dx (λ(o:Obj)=>P2 (w4.alloc o) (ad.alloc (by have:=ad.size;rw[Dw ah]at this;exact this) o));clear P1 P2 ar b1 ad;go_wp2_with fail
         refine cm (aN _) λw5 u=>?_
         have HE:=Dx (aa i k _ u);clear u aN;exact xq
     ·have HE:=Dx (aa i k _ (O hs));clear O Q T X R5 ae;exact xq
    ·obtain rfl:k=M:=U;have HE:=Dx (b7 i _ ab);have x1:=(aq i k _ ab).2;clear ab;go_wp2_with fail
     exact aaN
  ·obtain rfl:i=N:=U;have HT:=hT;clear hT y9 y1;go_wp2_with fail
   go_loopw [6] (λjv wq=>∃j:Nat,j<=9/\jv=Z j/\TI x F w (NT (II G i) j) wq) (λjv _=>9-(intOf jv).toNat)
   case atStart=>exact⟨0,U,rfl,HT⟩
   case round=>
    obtain⟨j,hj,rfl,ac⟩:=hrel;by_cases bf:j<9
    ·have⟨sn,r,⟨MU,x2,av,⟨s0,s1,s2,s3,s4,s5,s6,s7,s8,s9⟩,hz,f,O,Q,T,X⟩⟩:=b6 j _ ac bf;have p0:0<=(j:Int):=U;have p1:(j:Int)<9:=U;have⟨b4,bV⟩:=KM MU s0;have z7:=hz (j*10+7);have z8:=hz (j*10+8);have z9:=hz (j*10+9);have n1:=av;have n2:¬x=sn:=λe=>av e.symm
     obtain⟨tm,b3⟩:∃tm,r.E1=tm:=⟨_,rfl⟩;rw[b3]at s7 f O Q T X;clear ac hz av b3;cases tm with
     |false=>
      have HE:=Dx (y j _ (O rfl));clear O Q T X f;exact aaI
     |true=>
      have⟨⟨w1,w2⟩,t1,t2⟩:=f rfl;have ew:IntKind.i64.wrap (r.El-1)=r.El-1:=Iz;have et:IntKind.i64.wrap (r.DW-1)=r.DW-1:=Iz;by_cases hw:1<r.El
      ·have HE:=Dx (y j _ (Q rfl hw));have bj:0<r.El-1:=U;clear O Q T X f;exact aaI
      ·have bj:¬0<r.El-1:=U;by_cases D:r.DW=0
       ·have HE:=Dx (y j _ (T rfl hw D));have be:(r.DW==0)=true:=by simp[D]
        clear O Q T X f D;exact aaI
       ·have HR:=Dx (X rfl hw D);have be:(r.DW==0)=false:=by simp[D]
        clear O Q T X f D;go_wp2_with fail
        refine cm HR λw5 u=>?_
        have HE:=Dx (y j _ u);clear u HR;exact aaI
    ·obtain rfl:j=9:=U;have⟨sn,MU⟩:=b9 9 _ ac;have b4:=Gv MU;have bb:=Dx ac;clear ac;go_wp2_with fail
     go_returns;exact⟨rfl,bb⟩
theorem RW.tick(h:RW x v F G w):D7 97 #[Ey x] w Ep λj=>∃g e,RW x g e (R.Ni G) j/\D8 F e w j:=by
 have f:=h.wf.cf;have hn:=h.wf.N5;unfold R.GA at f;refine cm (gJ w x F G G.DI.length G.c.DV.toNat rfl U U U ⟨v,F,h,D8.refl F w⟩) ?_;rintro j ⟨g,e,m,u⟩;exact⟨rfl,g,e,m,u⟩
theorem RM.aa5(h:RM x v F G w){k:Nat}{s:R.Sv}(D:G.Dy[k]?=some s):∃g cap a cl,EB w x 7 (EJ g G.Dy.length cap)/\EB w g (k*3+2) (.slice a s.log.length cl)/\Lg w F (.slice a s.log.length cl) s.log/\EB w g (k*3) (Z s.Dz):=by
 obtain⟨z,hz,rfl⟩:=K4 h.zs D;have hzl:v.zs.length=G.Dy.length:=by rw[<-h.zs,AX]
 have⟨g,cap,y,B,e,_⟩:=Jx MD U h.Iw hz;have f:=h.I4.I4 z (Ap hz);have⟨u,e1,e2,e3⟩:=f.row;have⟨a,cl,m⟩:=E8 e2;have j:u.length=z.1.log.length:=by rw[<-e1,AX]
 rw[j]at m;refine⟨g,cap,a,cl,ED h.bx 7 _ (by rw[<-hzl,<-y];rfl),?_,?_,e 0 _ U rfl⟩
 ·rw[<-m];exact e 2 _ U rfl
 ·rw[<-m];exact f
theorem zZ{a:Af}{u:Int}(x7:EB w x 7 (.slice a n cap))(h:u<1\/(n:Int)<u):D7 170 #[Ey x,Z u] w (.tuple #[Z 0,Z 9]) λe=>e=w:=by
 have j:=Gv x7;by_cases f:u<1
 ·clear h;exact wW
 ·have g:(n:Int)<u:=U;clear h;exact wW
theorem ve(w:Aa)(x n g cap k m cl:Nat)(a:Af)(x7:EB w x 7 (EJ g n cap))(hk:k<n)(hn:n<=255)(hc:EB w g (k*3+2) (.slice a m cl)):D7 170 #[Ey x,Z ((k:Int)+1)] w (.tuple #[Z m,Z 0]) λe=>e=w:=by
 have⟨h,f⟩:=KM x7 hc;have j:¬(k:Int)+1<1:=U;have k2:¬(n:Int)<k+1:=U;have e1:IntKind.i64.wrap ((k:Int)+1-1)=(k:Int):=Iz;have e2:IntKind.i64.wrap (k:Int)=k:=Iz;have u:0<=(k:Int):=U;have y:(k:Int)<n:=U;exact wW
theorem RM.log(h:RM x v F G w)(y:G.Dy.length<=255)(u:Int):D7 170 #[Ey x,Z u] w (.tuple #[Z (R.MJ G u).1,Z (R.MJ G u).2]) λB=>B=w:=by
 have hzl:v.zs.length=G.Dy.length:=by rw[<-h.zs,AX]
 unfold R.MJ;by_cases f:R.LY G u
 ·rw[Ay f];unfold R.LY at f;obtain⟨k,rfl⟩:∃k:Nat,u=(k:Int)+1:=⟨(u-1).toNat,U⟩;obtain⟨s,m⟩:∃s,G.Dy[k]?=some s:=⟨_,Ah U⟩;have⟨g,cap,a,cl,x7,hc,_,_⟩:=h.aa5 m;have e:R.Ol G ((k:Int)+1)=s.log:=by grind [R.Ol]
  grind [ve]
 ·rw[Ao f];unfold R.LY at f;have⟨a,cap,j⟩:=E8 h.Iw;rw[hzl]at j;exact zZ (ED h.bx 7 _ (by rw[<-j];rfl)) U
abbrev aeD:Value:=.agg #[Z 0,Z 0,Z 0,Z 0,Z 0,.slice none 0 0,.slice none 0 0]
theorem Ta(w:Aa)(x n:Nat)(a:Af)(cap:Nat)(u k:Int)(hn:n<=255)(x7:EB w x 7 (.slice a n cap))(h:u<1\/(¬u<1/\(n:Int)<u)\/(¬u<1/\¬(n:Int)<u/\k<0)\/(∃(j g m cl:Nat) (b:Af),u=(j:Int)+1/\j<n/\a=some (Y g 0)/\EB w g (j*3+2) (.slice b m cl)/\¬k<0/\(m:Int)<=k)):
  D7 171 #[Ey x,Z u,Z k] w (.tuple #[aeD,Z 9]) λB=>DY w B:=by
 have Q:=Gv x7;rcases h with e|⟨e,f⟩|⟨e,f,y⟩|⟨j,g,m,cl,b,rfl,O,rfl,hc,y,D⟩
 ·exact xu
 ·exact xu
 ·exact xu
 ·have M:=Gv hc;have T:¬(j:Int)+1<1:=U;have k2:¬(n:Int)<j+1:=U;have e1:IntKind.i64.wrap ((j:Int)+1-1)=(j:Int):=Iz;have e2:IntKind.i64.wrap (j:Int)=j:=Iz;have X:0<=(j:Int):=U;have k4:(j:Int)<n:=U;exact xu
theorem uW{g j m cl q l:Nat}{e:R.En}{f y:Af}{u h D B:Nat}(hn:n<=255)(X:j<n)(hq:q<m)(x7:EB w x 7 (EJ g n cap))(hc:EB w g (j*3+2) (EJ l m cl))
  (e0:EB w l (q*7) (Z e.DJ)) (e1:EB w l (q*7+1) (Z e.DR)) (e2:EB w l (q*7+2) (Z e.DZ)) (e3:EB w l (q*7+3) (Z e.D4)) (e4:EB w l (q*7+4) (Z e.Eo)) (e5:EB w l (q*7+5) (.slice f u h)) (e6:EB w l (q*7+6) (.slice y D B)):
  D7 171 #[Ey x,Z ((j:Int)+1),Z q] w (.tuple #[.agg #[Z e.DJ,Z e.DR,Z e.DZ,Z e.D4,Z e.Eo,.slice f u h,.slice y D B],Z 0]) λM=>DY w M:=by
 have⟨hx,T,hl⟩:=Va x7 hc e0;have k1:¬(j:Int)+1<1:=U;have k2:¬(n:Int)<j+1:=U;have O:IntKind.i64.wrap ((j:Int)+1-1)=(j:Int):=Iz;have Q:IntKind.i64.wrap (j:Int)=j:=Iz;obtain⟨k3,k4,k5,k6,k7,k8⟩:0<=(j:Int)/\(j:Int)<n/\¬(q:Int)<0/\¬(m:Int)<=q/\0<=(q:Int)/\(q:Int)<m:=U;exact xu
def en0:R.En:=⟨0,0,0,0,0,[],[]⟩
abbrev aeE(e:R.En)(A B:Ad):Value:=.agg #[Z e.DJ,Z e.DR,Z e.DZ,Z e.D4,Z e.Eo,A,B]
theorem RM.acX(h:RM x v F G w)(ad:G.Dy.length<=255)(u k:Int):∃D an M T rn X,Gg w F (.slice D an M) ((R.Fq G u k).getD en0).arg/\Gg w F (.slice T rn X) ((R.Fq G u k).getD en0).DU/\∀f,DY w f->D7 171 #[Ey x,Z u,Z k] f (.tuple #[aeE ((R.Fq G u k).getD en0) (.slice D an M) (.slice T rn X),Z (if (R.Fq G u k).isSome then 0 else 9)]) λm=>DY f m:=by
 have hzl:v.zs.length=G.Dy.length:=by rw[<-h.zs,AX]
 have no:R.Fq G u k=none->(∀f,DY w f->D7 171 #[Ey x,Z u,Z k] f (.tuple #[aeD,Z 9]) λm=>DY f m)->_:=λhe hc=>(by
  rw[he];exact⟨none,0,0,none,0,0,Gg.nil w F,Gg.nil w F,hc⟩:∃D an M T rn X,Gg w F (.slice D an M) ((R.Fq G u k).getD en0).arg/\Gg w F (.slice T rn X) ((R.Fq G u k).getD en0).DU/\∀f,DY w f->D7 171 #[Ey x,Z u,Z k] f (.tuple #[aeE ((R.Fq G u k).getD en0) (.slice D an M) (.slice T rn X),Z (if (R.Fq G u k).isSome then 0 else 9)]) λm=>DY f m)
 have x7:∀f,DY w f->∃a cap,EB f x 7 (.slice a G.Dy.length cap):=λf B=>by
  have⟨a,cap,hV⟩:=E8 h.Iw;rw[hzl]at hV;exact⟨a,cap,ED (h.DG B).bx 7 _ (by rw[<-hV];rfl)⟩
 by_cases h1:u<1
 ·grind [R.Fq,R.LY,Ta]
 by_cases h2:(G.Dy.length:Int)<u
 ·grind [R.Fq,R.LY,Ta]
 by_cases h3:k<0
 ·grind [R.Fq,Ta]
 obtain⟨j,rfl⟩:∃j:Nat,u=(j:Int)+1:=⟨(u-1).toNat,U⟩;obtain⟨q,rfl⟩:∃q:Nat,k=(q:Int):=⟨k.toNat,U⟩;obtain⟨s,hs⟩:∃s,G.Dy[j]?=some s:=⟨_,Ah U⟩;have⟨g,cap,a,cl,ah,hc,al,_⟩:=h.aa5 hs;have ab:=Gv hc;have eE:R.Fq G ((j:Int)+1) (q:Int)=s.log[q]?:=by grind [R.Fq,R.LY,R.Ol]
 by_cases h4:q<s.log.length
 ·have⟨es,f1,f2,f3⟩:=al.row;obtain⟨e,he⟩:∃e,s.log[q]?=some e:=⟨_,Ah h4⟩;obtain⟨y,hy,rfl⟩:=K4 f1 he;have⟨l,lc,hv,am,Q,_⟩:=Jx Pz U f2 hy;have ak:es.length=s.log.length:=by rw[<-f1,AX]
  rw[ak]at hv;cases hv;have⟨i1,i2⟩:=f3 y (Ap hy);have⟨D,M,ea,_⟩:=i1.Gz;have⟨T,X,er,_⟩:=i2.Gz;rw[eE,he];refine⟨D,_,M,T,_,X,by rw[<-ea];exact i1,by rw[<-er];exact i2,λf B=>?_⟩;have O:∀o v,o<7->(IQ y)[o]?=some v->EB f l (q*7+o) v:=λo v ho hv=>(B.cell (p:=Y l _) am).trans (Q o v ho hv)
  have c5:=O 5 y.2.1 U rfl;have c6:=O 6 y.2.2 U rfl;rw[ea]at c5;rw[er]at c6;exact uW ad U h4 ((B.cell (p:=Y x 7) (Dv h.bx)).trans ah) ((B.cell (p:=Y g _) ab).trans hc) (O 0 _ U rfl) (O 1 _ U rfl) (O 2 _ U rfl) (O 3 _ U rfl) (O 4 _ U rfl) c5 c6
 ·refine no (by rw[eE];exact BM U) (λf B=>?_);exact Ta f x _ _ cap _ _ ad ((B.cell (p:=Y x 7) (Dv h.bx)).trans ah) (Am (Am (Am ⟨j,g,s.log.length,cl,a,rfl,U,rfl,(B.cell (p:=Y g _) ab).trans hc,h3,U⟩)))
end Go.Proofs.YtblomippkddgiaaGreatDoor
namespace Go.Proofs.YtblomippkddgiaaGreatDoor.V
open Go.Proofs.Tryz
open Go.RowKit
theorem kY(w0 w:Aa)(b:Nat)(L:List Kp)(lv K O:Ad)(v:List It)(hBk:Bo b L lv K w)(hb0:DY w0 w)(hR:w.ownsRow w0.heap.size 106 2 O v.length (flat v))(hL:L.length<=1000000000000)(hv:v.length<=100000)
  (f:∀j,O.ownBlock=some j->¬OY b L K j):
  D7 154 #[.pointer (some (Y b 1)),O] w Ep λh=>∃e k,Bo b (L++[k]) lv e h/\D8 (λj=>OY b L K j\/O.ownBlock=some j) (OY b (L++[k]) e) w h:=by
 exact aff
end Go.Proofs.YtblomippkddgiaaGreatDoor.V
namespace Go.Proofs.YtblomippkddgiaaGreatDoor
open Go.Proofs.Tryz
open Go.RowKit
variable {N b:Nat}{o:LD}{t:Tw}{w:World}
theorem eZ(h:Ii N t w)(hk:o.Dz=21):
  D7 99 #[ptr b,t.val,o.val] w (.bool true) λw'=>KA N t t.G w w':=by
 have⟨Q,g,j,f,M,m⟩:=Jc h o;have D:=Dx g;have aa:=Dv f.t;have ab:=Dv f.o;have c0:=EI f.t 0;have X:(o.Dz==21)=true:=by rw[hk];rfl
 have d2:=EI f.o 2;have O:Hid (D7 44 #[ptr t.p.x,Z o.a] Q (.tuple #[Z (R.MJ t.G o.a).1,Z (R.MJ t.G o.a).2]) λy=>Mid N t (t.G) Q y):=by
  refine cm (M.l.log o.a) λy e=>?_
  exact⟨rfl,M.adh e⟩
 clear h g hk;have⟨T,B⟩:=FU f j;clear f j;go_enter func99,ntmps99;go_wp2_with fail
 rw[Dw D];refine cm O λy e=>?_
 have u:=T.stays e m;have l1:=Dv u.t;have l2:=Dv u.o;have e1:=EI u.t 1;have e2:=EI u.o 2;have H2:Hid (D7 170 #[Ey t.x,Z o.a] y (.tuple #[Z (R.MJ t.G o.a).1,Z (R.MJ t.G o.a).2]) λw3=>KA N t (t.G) w w3):=by
  refine cs (e.r.toRM.log e.r.wf.sv o.a) ?_;exact⟨rfl,KA.ahead B (e.rD (AA _ _))⟩
 clear e u O M c0;exact yd
theorem dH(w W1:Aa)(b:Nat)(t:Tw)(o:LD)(hk:o.Dz=22)(en:R.En)(er:Int)(ua va:Af)(un uc vn vc:Nat)(Q1:Option Addr->Nat->Nat->Option Addr->Nat->Nat->World->Prop)(Q4:World->Prop)(b5:(w.alloc (.cells #[ptr t.p.x,Ey t.x] 109)).alloc (.cells o.cells 72)=W1)(hx:Bx w.heap.size t o W1)(c7:b<w.heap.size)
  (H1:Hid (ET 45 #[ptr t.p.x,Z o.a,Z o.b] W1 λe f=>∃g j h m y u,e=.returned (.tuple #[.agg #[Z en.DJ,Z en.DR,Z en.DZ,Z en.D4,Z en.Eo,.slice g j h,.slice m y u],Z er])/\DY W1 f/\Q1 g j h m y u f))
  (H2:Hid (∀g j h m y u M f,Q1 g j h m y u M->DY M f->D7 171 #[Ey t.x,Z o.a,Z o.b] f (.tuple #[.agg #[Z en.DJ,Z en.DR,Z en.DZ,Z en.D4,Z en.Eo,.slice ua un uc,.slice va vn vc],Z er]) λB=>DY f B))
  (H3:Hid (∀g j h m y u M f,Q1 g j h m y u M->DY M f->D7 153 #[.slice g j h,.slice ua un uc] f (.bool true) λB=>DY f B))
  (aw:Hid (∀g j h m y u M f,Q1 g j h m y u M->DY M f->D7 153 #[.slice m y u,.slice va vn vc] f (.bool true) λB=>DY f B))
  (H4:Hid (∀g j h m y u M f,Q1 g j h m y u M->DY M f->D7 154 #[.pointer (some (Y b 1)),.slice g j h] f Ep λB=>(∀k,M.heap.size<=k->k<f.heap.size->B.heap[k]?=f.heap[k]?)/\f.heap.size<=B.heap.size/\∀w3,DY B w3->D7 154 #[.pointer (some (Y b 1)),.slice m y u] w3 Ep λw4=>(∀k,M.heap.size<=k->k<f.heap.size->w4.heap[k]?=f.heap[k]?)/\Q4 w4)):
  D7 99 #[ptr b,t.val,o.val] w (.bool true) λf=>Q4 f:=by
 have bq:=Dx b5;have ch:=Dv hx.t;have ci:=Dv hx.o;have c0:=EI hx.t 0;have ca:(o.Dz==21)=false:=by rw[hk];rfl
 obtain⟨d2,d3⟩:=VL hx.o 2 3;have HX:=Dx hx;clear b5 hx hk;go_enter func99,ntmps99;go_wp2_with fail
 rw[Dw bq];refine H1.mono ?_;rintro e O ⟨g,j,h,m,y,u,rfl,an,q1⟩;have hy:Bx w.heap.size t o O:=⟨(an.block _ (Dv HX.t)).trans HX.t,(an.block _ (Dv HX.o)).trans HX.o⟩;have l1:=Dv hy.t;have l2:=Dv hy.o;have e1:=EI hy.t 1;obtain⟨e2,e3⟩:=VL hy.o 2 3;have bz:b<O.heap.size:=U;obtain⟨G2,G3,av,G4,Q⟩:=hd5 (H2 g j h m y u O) (H3 g j h m y u O) (aw g j h m y u O) (H4 g j h m y u O) q1;clear hy q1 an H1 H2 H3 aw H4 c0 d2 d3 HX;go_wp2_with fail
 have bS:DY O (O.alloc (.cells #[Z en.DJ,Z en.DR,Z en.DZ,Z en.D4,Z en.Eo,.slice g j h,.slice m y u] 98)):=F9;have hS:=AF O (.cells #[Z en.DJ,Z en.DR,Z en.DZ,Z en.D4,Z en.Eo,.slice g j h,.slice m y u] 98);obtain⟨W3,b6⟩:∃W3,O.alloc (.cells #[Z en.DJ,Z en.DR,Z en.DZ,Z en.D4,Z en.Eo,.slice g j h,.slice m y u] 98)=W3:=⟨_,rfl⟩;rw[b6]at bS hS ⊢;refine cm (G2 W3 Q bS) λw4 ao=>?_
 have aa:=(ao.block _ (Dv hS)).trans hS;have bT:=bS.trans (ao.mono bS.size);have ls:=Dv aa;have co:=EI aa 5;obtain⟨aN,BT⟩:=FU aa bT;clear b6 bS hS ao aa bT e1 e2 e3 l1 l2 G2;go_wp2_with fail
 have bU:DY w4 (w4.alloc (.cells #[Z en.DJ,Z en.DR,Z en.DZ,Z en.D4,Z en.Eo,.slice ua un uc,.slice va vn vc] 98)):=F9;have hU:=AF w4 (.cells #[Z en.DJ,Z en.DR,Z en.DZ,Z en.D4,Z en.Eo,.slice ua un uc,.slice va vn vc] 98);obtain⟨W5,b7⟩:∃W5,w4.alloc (.cells #[Z en.DJ,Z en.DR,Z en.DZ,Z en.D4,Z en.Eo,.slice ua un uc,.slice va vn vc] 98)=W5:=⟨_,rfl⟩;rw[b7]at bU hU ⊢;have bV:=BT.trans (bU.mono BT.size);refine cm (G3 W5 Q bV) λw6 ae=>?_
 have ab:=(ae.block _ (Ai ls bU.size)).trans ((bU.block _ ls).trans aN);have ad:=(ae.block _ (Dv hU)).trans hU;have bW:=bV.trans (ae.mono bV.size);have s6:=EI ab 6;have t6:=EI ad 6;have l6:=Dv ab;have l7:=Dv ad;obtain⟨aS,aV,BW⟩:=Ll ab ad bW;have b9:=BT.size;clear b7 bU hU bV ae ab ad bW G3 aN BT;go_wp2_with fail
 refine cm (av w6 Q BW) λw7 ah=>?_
 have ac:=(ah.block _ l6).trans (Dw aS);have am:=(ah.block _ l7).trans (Dw aV);have bX:=BW.trans (ah.mono BW.size);have s5:=EI ac 5;have m6:=Dv ac;have m7:=Dv am;have cg:=Ai bz bX.size;obtain⟨T,X,G5⟩:=Ll ac am (G4 w7.drew Q bX.drew);clear s6 t6 l6 l7 aS aV BW ah ac am bX av G4 Q;go_wp2_with fail
 go_region_law (refine FG rfl 154 #[.tmp 78,.tmp 80] #[67,44] rfl qU #[.pointer (some (Y b 1)),.slice g j h] rfl _ G5 ?_;rintro e w8 ⟨rfl,D,ak,G6⟩;have t0:=(D O.heap.size (Ar _) m6).trans (Dw T);have t1:=(D w4.heap.size b9 m7).trans (Dw X);have G7:=Dx (G6 w8.drew (AA _ _).drew);have c8:w7.heap.size<=w8.heap.size:=ak;clear D G6 ak;refine⟨_,rfl,?_⟩)
 have s6:=EI t0 6;have n0:=Dv t0;have n1:=Dv t1;have ce:b<w8.heap.size:=U;clear t0 t1 s5 m6 m7 G5;go_wp2_with fail
 go_region_law (refine FG rfl 154 #[.tmp 84,.tmp 86] #[67,44] rfl qU #[.pointer (some (Y b 1)),.slice m y u] rfl _ G7 ?_;rintro e w9 ⟨rfl,D,q4⟩;have t0:=(D O.heap.size (Ar _) (Dv T)).trans (Dw T);have t1:=(D w4.heap.size b9 (Dv X)).trans (Dw X);have bp:=Dx q4;clear D q4;refine⟨_,rfl,?_⟩)
 obtain⟨a0,a1,a2,a3,a4⟩:=bC t0 0 1 2 3 4;obtain⟨b0,b1,b2,b3,b4⟩:=bC t1 0 1 2 3 4;have la:=Dv t0;have cc:=Dv t1;have az:=Dx OM;clear t0 t1 s6 n0 n1 G7 T X;go_wp2_with fail
 refine cm (az _ _) λbL al=>?_
 rw[al];clear al bL;go_wp2;go_returns;exact⟨rfl,bp⟩
theorem YG{G:R.Wd}{u k:Int}{y:R.En}(h:R.Fq G u k=some y):∃(n:Nat) (s:R.Sv),G.Dy[n]?=some s/\y∈s.log:=by
 unfold R.Fq at h;split at h
 ·unfold R.Ol at h;cases hs:G.Dy[(u-1).toNat]? with
  |none=>
   rw[hs]at h;simp at h
  |some s=>
   rw[hs]at h;exact⟨_,s,hs,Ap h⟩
 ·cases h
theorem Xp{w0:Aa}{z:Nat->Option Obj}{Ts:List Tw}{L:List V.Kp}{lv K:Ad}(h:Hn w0 z b N Ts L lv K w){i:Nat}(hi:Ts[i]?=some t)(hk:o.Dz=22)(hL:L.length+1<=1000000000000):
  D7 99 #[ptr b,t.val,o.val] w (.bool true) λO=>∃L' K',Hn w0 z b N Ts L' lv K' O/\L'.length=L.length+2:=by
 have hm:=Ap hi;have⟨W1,bb,bi,hx,hT,bt⟩:=Jc (h.tw t hm) o;have h1:=h.DG bi;have⟨M,hI⟩:=hT.bd.iv;have⟨ua,un,uc,va,vn,vc,iA,iR,av⟩:=hT.r.toRM.acX hT.r.wf.sv o.a o.b;have ak:∀j,V.OY b L K j->j<W1.heap.size:=λj D=>h1.lt j (Aj D)
 obtain⟨T,B⟩:∃T,T=(R.Fq t.G o.a o.b).getD en0:=⟨_,rfl⟩;obtain⟨er,u⟩:∃er:Int,er=if (R.Fq t.G o.a o.b).isSome then 0 else 9:=⟨_,rfl⟩
 rw[<-B]at iA iR av;rw[<-u]at av;have bp:T.arg.length<=1000/\T.DU.length<=1000:=by
  rw[B];cases he:R.Fq t.G o.a o.b with
  |none=>simp[en0]
  |some y=>
   have⟨n,s,hs,hy⟩:=YG he;have⟨d,rb,d1,d2,d3,d4,d5,d6⟩:=((hI.lg n s hs).each y hy).some;have f1:=KQ (hI.bk _ _ d1).1.bs;have f2:=KQ d5;rw[<-d4]at f1;exact⟨by simp only[Bw];omega,by simp only[Bw];omega⟩
 have hE:=hT.l.entry hI o.a o.b;refine(dH w W1 b t o hk T er ua va un uc vn vc (λxa xn xc ya yn yc w2=>DY W1 w2/\V.Row w2 W1.heap.size (.slice xa xn xc) T.arg/\V.Row w2 W1.heap.size (.slice ya yn yc) T.DU/\∀j,(Value.slice xa xn xc).ownBlock=some j->(Value.slice ya yn yc).ownBlock≠some j)
  (λO=>∃L' K',Hn w0 z b N Ts L' lv K' O/\L'.length=L.length+2) bb hx (Dv h.bo.cell) (Dx ?_) (Dx ?_) (Dx ?_) (Dx ?_) (Dx ?_))
 ·cases he:R.Fq t.G o.a o.b with
  |none=>
   rw[he]at hE B u;refine cm hE λw2 m=>?_
   subst B;subst u;exact⟨none,0,0,none,0,0,rfl,m,m,AZ _ _ _ _,AZ _ _ _ _,λj q=>by cases q⟩
  |some y=>
   rw[he]at hE B u;refine hE.mono ?_;rintro e w2 ⟨⟨X,Yq,rfl,r1,r2,r3⟩,m⟩;obtain⟨xa,xn,xc,rfl⟩:=Ei r1;obtain⟨ya,yn,yc,rfl⟩:=Ei r2;subst B;subst u;exact⟨xa,xn,xc,ya,yn,yc,rfl,m,m,r1,r2,r3⟩
 ·rintro xa xn xc ya yn yc w1 O ⟨m,_⟩ Q;exact av O (m.trans (Q.mono m.size))
 ·rintro xa xn xc ya yn yc w1 O ⟨m,r1,_⟩ Q;exact V.UI O _ _ T.arg (V.KW (ER r1 Q)) (iA.Gz.DG (m.trans (Q.mono m.size))) U
 ·rintro xa xn xc ya yn yc w1 O ⟨m,_,r2,_⟩ Q;exact V.UI O _ _ T.DU (V.KW (ER r2 Q)) (iR.Gz.DG (m.trans (Q.mono m.size))) U
 ·rintro xa xn xc ya yn yc w1 O ⟨m,r1,r2,r3⟩ Q;have aw:=m.trans (Q.mono m.size);have hX:=ER r1 Q;have hY:=ER r2 Q;have lX:=Ba r1;have lY:=Ba r2;have bL:=Q.size;have bS:=m.size;refine cm (V.VG W1 O b L lv K _ T.arg (h1.bo.DG aw) aw hX U U ak) ?_;rintro b1 ⟨K',k,hB,hw⟩;have hH:Hn w0 z b N Ts (L++[k]) lv K' b1:=(h1.DG aw).Sq (λj D=>by
   have h2:=(lX j D).1;exact⟨Br h1.U9.size h2,h1.free j h2,λe=>by have:=h1.lt j (Am (Aj e));omega,λs hs f=>by have:=h1.lt j (Am (Am ⟨s,hs,f⟩));omega⟩) hB hw
  have ab:∀q,w1.heap.size<=q->q<O.heap.size->b1.heap[q]?=O.heap[q]?:=λq aS az=>hw.E0.block q az (λf=>by
   rcases f with f|f
   ·have:=ak q f;omega
   ·have:=(lX q f).2;omega)
  have aa:∀j,(Value.slice ya yn yc).ownBlock=some j->¬(V.OY b L K j\/(Value.slice xa xn xc).ownBlock=some j):=λj D f=>by
   rcases f with f|f
   ·have:=ak j f;have:=(lY j D).1;omega
   ·exact r3 j f D
  have be:=hw.E0.row hY (λj D=>aa j D);refine⟨rfl,ab,hw.E0.size,λw3 ah=>?_⟩;have aN:=hH.DG ah;have bf:=ER be ah;have bT:=ah.size;have bz:=hw.E0.size;have bg:∀j,(Value.slice ya yn yc).ownBlock=some j->¬V.OY b (L++[k]) K' j:=λj D f=>by
   rcases hw.fresh j f with q|q
   ·exact aa j D q
   ·have:=(lY j D).2;omega
  obtain⟨wc,ac⟩:∃wc:World,wc={w3 with heap:=w3.heap.extract 0 W1.heap.size}:=⟨_,rfl⟩;have aq:wc.heap.size=W1.heap.size:=by
   rw[ac];simp;omega
  have bj:DY wc w3:=by
   refine⟨by rw[ac],by rw[ac],by rw[ac],U,λq hq=>?_⟩;rw[ac];rw[aq]at hq;simp only[Array.getElem?_extract];rw[Ay U];simp
  refine(V.kY wc w3 b (L++[k]) lv K' _ T.DU aN.bo bj (by rw[aq];exact bf) Fy U bg).mono ?_;rintro e w4 ⟨rfl,K2,k2,b9,aV⟩;refine⟨rfl,λq aS az=>?_,L++[k]++[k2],K2,aN.Sq (λj D=>?_) b9 aV,Ev⟩
  ·rw[<-ab q aS az,<-ah.block q U];refine aV.E0.block q U (λf=>?_);rcases f with f|f
   ·rcases hw.fresh q f with (g|g)|g
    ·have:=ak q g;omega
    ·have:=(lX q g).2;omega
    ·omega
   ·have:=(lY q f).2;omega
  ·have h2:=(lY j D).1;exact abr
theorem Yb.first{F:D9}{V:Ad}{j:R.Jb}{js:List R.Jb}(h:Yb w F V (j :: js)):∃g o cap,V=.slice (some (Y g o)) (js.length+1) cap/\F g/\js.length+1<=cap/\cap<=maxLen/\(∀(k:Nat) (u:Ad),(IA j)[k]?=some u->w.cell? (Y g (o+k))=some u)/\(cap=1->Yb w F (.slice (some (Y g o)) 0 0) js)/\(cap≠1->Yb w F (.slice (some (Y g (o+4))) js.length (cap-1)) js):=by
 rcases h with ⟨f,_⟩|⟨g,off,cap,e,rfl,m,y,hl,M,D,hc⟩
 ·cases f
 ·simp only[A4]at hl;refine⟨g,off*4,cap,rfl,m,hl,D,λk u hu=>?_,λf=>?_,λf=>?_⟩
  ·have:=hc 0 j rfl k u hu
   grind [World.cell?]
  ·have:js=[]:=B6.1 U;subst this;exact Am ⟨g,off,0,e,rfl,m,y,Ar _,U,JG,λk B hk=>by simp at hk⟩
  ·refine Am ⟨g,off+1,cap-1,e,by rw[show (off+1)*4=off*4+4 by omega],m,y,U,U,U,λk B hk o u hu=>?_⟩;have:=hc (k+1) B (by simpa using hk) o u hu
   grind
end Go.Proofs.YtblomippkddgiaaGreatDoor
