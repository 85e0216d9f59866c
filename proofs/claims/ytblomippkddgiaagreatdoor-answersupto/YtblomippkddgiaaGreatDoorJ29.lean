import Derived.Test.YtblomippkddgiaaGreatDoorJ28
set_option maxRecDepth 100000
set_option maxHeartbeats 4000000
namespace Go.Proofs.YtblomippkddgiaaGreatDoor
open Go.Proofs.Tryz
open Go.RowKit
variable {N:Nat}{t:Tw}
theorem KA.afb{G:Nat}{m:R.Wd}{f j B D:Aa}(hb:DY f j)(h:KA N t m j B)(T:f.heap.size<=G)(X:G<j.heap.size)(hn:¬t.Fw G)(hk:DF (λk=>k=G) B D):KA N t m f D:=by
 have⟨y,M,u,O,Q⟩:=h;have g:¬y.Fw G:=λq=>by
  rcases u.fresh G q with q|q
  ·exact hn q
  ·omega
 refine⟨y,M.FX hk (λk q e=>g (e ▸ q)),?_,O,Q⟩;have w:=(D8.D6 t.Fw hb).trans u;exact⟨w.E0.andThen hk (λi hi e=>by omega),w.fresh⟩
theorem RE(w D:Aa)(bp X:Ad)(t:Tw)(o:LD)(hk:o.Dz=11)(A B:Int)(Q1 Q2 Q3 Q4:World->Prop)(h:(w.alloc (.cells #[ptr t.p.x,Ey t.x] 109)).alloc (.cells o.cells 72)=D)(m:Bx w.heap.size t o D)
  (M:Hid (D7 148 #[o.L] D X λe=>Bx w.heap.size t o e/\Q1 e))
  (O:Hid (∀e,Q1 e->D7 31 #[ptr t.p.x,Z o.a,Z o.b,Z o.c,Z o.d,X] e (.tuple #[Z A,Z B]) λe=>Bx w.heap.size t o e/\Q2 e))
  (Q:Hid (∀e,Q2 e->D7 163 #[Ey t.x,Z o.a,Z o.b,Z o.c,Z o.d,o.L] e (.tuple #[Z A,Z B]) λe=>Bx w.heap.size t o e/\Q3 e))
  (T:Hid (∀e,Q3 e->D7 150 #[X,o.L] e (.bool true) λe=>Q4 e)):
  D7 96 #[bp,t.val,o.val] w (.bool true) λe=>Q4 e:=by
 have y:=Dx h;have al:=Dv m.t;have am:=Dv m.o;have ak:(o.Dz==11)=true:=by rw[hk];rfl
 have d8:=EI m.o 8;clear h m hk;go_enter func96,ntmps96;go_wp2_with fail
 rw[Dw y];refine cm M ?_;rintro w2 ⟨f,q1⟩;have l1:=Dv f.t;have l2:=Dv f.o;have e0:=EI f.t 0;obtain⟨e2,e3,e4⟩:=TH f.o 2 3 4;have e5:=EI f.o 5;have HQ:=Dx (O _ q1);clear f q1 M O d8;go_wp2_with fail
 refine cm HQ ?_;rintro w3 ⟨f,q2⟩;have l1:=Dv f.t;have l2:=Dv f.o;have f1:=EI f.t 1;obtain⟨f2,f3,f4,f5,f8⟩:=bC f.o 2 3 4 5 8;have HR:=Dx (Q _ q2);clear f q2 HQ Q e0 e2 e3 e4 e5;go_wp2_with fail
 refine cm HR ?_;rintro w4 ⟨f,q3⟩;have l1:=Dv f.t;have l2:=Dv f.o;have g8:=EI f.o 8;have HS:=Dx (T _ q3);clear f q3 HR T f1 f2 f3 f4 f5 f8;go_wp2_with fail
 refine cm HS λw5 q4=>?_
 have u:=Dx q4;clear q4 HS g8;have g:=Dx OM;go_wp2_with fail
 refine cm (g _ _) λw6 j=>?_
 rw[j];clear j w6;go_wp2;go_returns;exact⟨rfl,u⟩
theorem Ys{w:Aa}(h:Ii N t w){bp:Ad}{o:LD}(hk:o.Dz=11){v:List V.It}(hI:V.Ff w o.L v)(aa:v≠[]->∀b off n c,o.L=.slice (some (Y b off)) n c->¬t.Fw b)(hn:v.length<=9000000000000)(ht:JI w)(hN:N<=9000000000000)(hc:Ya o.c):
  D7 96 #[bp,t.val,o.val] w (.bool true) λf=>KA N t (R.Gc t.G o.a o.b o.c o.d v).2 w f:=by
 have⟨m,ah,ak,y,hT,j⟩:=Jc h o;have M:=hI.DG ak;have an:=ht.DG ak;have al:Bd N (R.Gc t.G o.a o.b o.c o.d v).2:=Bd.call h.bd _ _ _ _ _;have⟨la,lc,hL,az,_⟩:=id hI;cases la with
 |none=>
  have T:v=[]:=by grind
  subst T;have hX:∀W,V.Ff W (.slice none 0 0) []:=λW=>⟨none,0,rfl,Ar _,Aj rfl⟩
  refine(RE w m bp (.slice none 0 0) t o hk (R.Gc t.G o.a o.b o.c o.d []).1.1 (R.Gc t.G o.a o.b o.c o.d []).1.2 (λf=>f=m) (λf=>Mid N t (R.Gc t.G o.a o.b o.c o.d []).2 m f) (λf=>KA N t (R.Gc t.G o.a o.b o.c o.d []).2 m f) (λf=>KA N t (R.Gc t.G o.a o.b o.c o.d []).2 m f) ah y ?_ ?_ ?_ ?_).mono ?_
  ·rw[hL];refine cs (V.sO _ _ m) ?_;exact⟨rfl,y,rfl⟩
  ·rintro f rfl;refine cm (hT.l.call an o.a o.b o.c o.d hc (hX _) hn) ?_;rintro B ⟨F',l,g⟩
   grind [Ii.tH,Bx.stays]
  ·intro f D;have ar:V.Ff f o.L []:=by
    rw[hL];exact⟨none,lc,rfl,az,Aj rfl⟩
   have Q:=y.stays D j;refine cm (D.r.call o.a o.b o.c o.d o.L [] ar hn (λc hc=>Br (h.bd.b c hc) hN)) λw3 X=>?_
   refine⟨rfl,?_,D.done X al⟩;have⟨v',E',_,g2⟩:=X;exact⟨g2.E0.at Q.t (λq=>j _ (Ar _) (Am q)),g2.E0.at Q.o (λq=>j _ U (Am q))⟩
  ·intro f hS;rw[hL];refine cs (V.pM _ _ _ f) ?_;exact⟨rfl,hS⟩
  grind [KA.ahead]
 |some ad=>
  have am:∀W,DY m W->V.Ff W o.L v:=λW u=>M.DG u
  have av:v≠[]->∀b off n c,o.L=.slice (some (Y b off)) n c->¬t.F b:=λT b off n c e q=>aa T b off n c e (Aj q)
  have aq:v≠[]->ad.block≠m.heap.size:=λT e=>by
   have⟨a,c,e1,_,q⟩:=M
   grind
  refine(RE w m bp (EJ m.heap.size v.length (v.length+6)) t o hk (R.Gc t.G o.a o.b o.c o.d v).1.1 (R.Gc t.G o.a o.b o.c o.d v).1.2
   (λf=>DY m f/\V.I9 f m.heap.size (v.length+6) 0 (v++List.replicate 6 V.Iu))
   (λf=>∃B,DY m B/\m.heap.size<B.heap.size/\Mid N t (R.Gc t.G o.a o.b o.c o.d v).2 B f/\V.I9 f m.heap.size (v.length+6) 0 (v++List.replicate 6 V.Iu)/\V.Ff f o.L v)
   (λf=>∃B,DY m B/\m.heap.size<B.heap.size/\KA N t (R.Gc t.G o.a o.b o.c o.d v).2 B f/\V.I9 f m.heap.size (v.length+6) 0 (v++List.replicate 6 V.Iu)/\V.Ff f o.L v)
   (λf=>KA N t (R.Gc t.G o.a o.b o.c o.d v).2 m f) ah y ?_ ?_ ?_ ?_).mono ?_
  ·rw[hL]at M ⊢;refine cm (V.sN m ad lc v M hn) ?_;rintro f ⟨hl,u⟩;exact⟨rfl,⟨(u.block _ (Dv y.t)).trans y.t,(u.block _ (Dv y.o)).trans y.o⟩,u,hl⟩
  ·rintro f ⟨u,hl⟩;have ae:=hT.DG u;have Q:Bx w.heap.size t o f:=⟨(u.block _ (Dv y.t)).trans y.t,(u.block _ (Dv y.o)).trans y.o⟩;refine cm (ae.l.call (an.DG u) o.a o.b o.c o.d hc (hl.Gz rfl U) hn) ?_;rintro B ⟨F',l,g⟩;have D:=ae.tH l g;exact⟨rfl,Q.stays D j,f,u,hl.lt,D,hl.keep g.E0 (λq=>hT.off (Ar _) (Aj q)),(am _ u).keep g.E0 av⟩
  ·rintro f ⟨B,u,O,D,hl,hi⟩;have aN:Bx w.heap.size t o B:=⟨(u.block _ (Dv y.t)).trans y.t,(u.block _ (Dv y.o)).trans y.o⟩;have Q:=aN.stays D j;refine cm (D.r.call o.a o.b o.c o.d o.L v hi hn (λc hc=>Br (h.bd.b c hc) hN)) λw3 X=>?_
   have hS:=D.done X al;have⟨v',E',_,g2⟩:=X;exact⟨rfl,⟨g2.E0.at Q.t (λq=>j _ (Ar _) (Am q)),g2.E0.at Q.o (λq=>j _ U (Am q))⟩,B,u,O,hS,hl.keep g2.E0 (λq=>hT.off (Ar _) (Am q)),hi.keep g2.E0 (λT b off n c e q=>aa T b off n c e (Am q))⟩
  ·rintro f ⟨B,u,O,hS,hl,hi⟩;rw[hL]at hi ⊢;refine cm (V.dW f ad lc m.heap.size v hn hi aq hl) λw3 aw=>?_
   exact⟨rfl,KA.afb u hS (Ar _) O (hT.off (Ar _)) aw⟩
  grind [KA.ahead]
end Go.Proofs.YtblomippkddgiaaGreatDoor
namespace Go.Proofs.YtblomippkddgiaaGreatDoor.V
open Go.Proofs.Tryz
open Go.RowKit
variable {x:It}{B n:Nat}{T:Value}{w wr:World}
theorem FM{P:Program}{ops:Array Oper}{o:Oper}{a:Act}{K:Act->World->Prop}{Q:Exit->Act->World->Prop}{E:Prop}
  (hgd:o.guard=none) (sl x:Operand) (t:Ag) (ho:o.op=.call {callee:=.builtin .append,args:=#[sl,x],argTypes:=#[t,t]})
  (base:Nat) (e:Ag) (i:TypeInfo) (z:Ad) (size bytes:Nat) (ht:P.underlying t=some (.slice e)) (hi:P.info? e=some i) (hz:i.zero=some z)
  (hsize:i.size=size) (hby:i.bytes=bytes) (hzs:z.cells.size=size) (hsz:0<size)
  (v:Ad) (n:Nat) (xs:Ae) (hs:a.eval sl=v) (hown:w.ownsRow base e size v n xs)
  (ad:Addr) (m c:Nat) (news:Ae) (hx:a.eval x=.slice (some ad) m c) (hl:news.length=m*size) (hnews:∀j u,news[j]?=some u->w.cell? (ad.add j)=some u) (h1:∀u∈news,u.oneCell'=true)
  (h63:n+m<=maxLen) (hbytes:(n+m)*bytes<=140737488355328) (hbase:base<=w.heap.size)
  (h:∀v' w',w'.ownsRow base e size v' (n+m) (xs++news)->w.grownBy w' v.ownBlock->(v'.ownBlock=v.ownBlock\/v'.ownBlock=some w.heap.size)->K (a.put o.dst v') w'):
  if Region.wanted o (yielded ops a.tmps)=true then Oper.wp P o a w K Q else E:=by
 exact afu
theorem Yu(w:Aa)(k:Kp):∀(j:Nat) (u:Ad),k.cells[j]?=some u->(w.alloc (.cells #[k.l,k.g1,k.g2,k.g3,Z k.n,Z k.x.1,.string k.x.2] 178)).cell? (((EN w 0):Addr).add j)=some u:=by
 intro j u e;rw[Bc,Cr,Bb w _ _ j];rw[<-e,<-CO];rfl
theorem ac9(e a1 a2 a3:Af)(n0 n1 n2 n3 c0 c1 c2 c3 i:Nat)(x:It):∀u∈(Kp.mk (.slice e n0 c0) (.slice a1 n1 c1) (.slice a2 n2 c2) (.slice a3 n3 c3) i x).cells,u.oneCell'=true:=by
 intro u hu;simp only[Kp.cells,CX,List.not_mem_nil,or_false]at hu;rcases hu with rfl|rfl|rfl|rfl|rfl|rfl|rfl<;>rfl
theorem qi.drew{w0:Aa}{O:Ad}{e:List (Value×Nat)}(h:qi w0 w O x B e wr):qi w0 w O x B e wr.drew:=⟨h.size,h.box,h.keep,h.DG.drew,h.marks⟩
theorem cZ(w0 w:Aa)(b B:Nat)(L:List Kp)(lv:Ad)(X D:Af)(kc on M:Nat)(x:It)(hx:x=(-1000-(L.length:Int),Xq))(be:L.length<=1000000000000)(bW:on<=100000)
  (O:Bo b L lv (.slice X L.length kc) w) (az:DY w0 w) (hB:B<=w.heap.size) (aq:∀j,(Value.slice D on M).ownBlock=some j->B<=j)
  (hO:∀j,(Value.slice D on M).ownBlock=some j->(j<w.heap.size/\w0.heap.size<=j)/\j≠b/\(Value.slice X L.length kc).ownBlock≠some j/\∀k∈L,∀t∈k.lists,t.1.ownBlock≠some j)
  (ao:TkI w0 w (.slice D on M) on x 0 (w.alloc (.cells #[Z x.1,.string x.2] 106))):
  D7 154 #[.pointer (some (Y b 1)),.slice D on M] w Ep λw'=>∃K' k,Bo b (L++[k]) lv K' w'/\D8 (λj=>OY b L (.slice X L.length kc) j\/(Value.slice D on M).ownBlock=some j) (OY b (L++[k]) K') w w':=by
 have⟨HI,ac,aS,HO,aV⟩:=hd5 ao O az hO aq;have b9:=Dv O.cell;have hb:w.cell? (Y b 1)=some (.slice X L.length kc):=by simp[World.cell?,O.cell]
 have⟨x0,x1⟩:=x;have br:=(Prod.mk.inj hx).1.symm;have aN:=(Prod.mk.inj hx).2;have b3:=Dx aN;clear ao O hO aq hx aN az;simp only at HI;have bV:(⟨#[109,97,114,107]⟩:Ab)=x1:=b3.symm;obtain⟨kn,ak⟩:∃kn,kn=L.length:=⟨_,rfl⟩;rw[<-ak]at hb br be;have u:=Dx ak;clear ak;go_enter func154,ntmps154;go_wp2;go_loopw [5] (λiv wr=>∃i:Nat,i<=on/\iv=Z i/\TkI w0 w (.slice D on M) on (x0,x1) i wr) (λiv _=>on-(intOf iv).toNat)
 case atStart=>exact⟨0,AV _,rfl,HI⟩
 case round=>
  obtain⟨i,hi,rfl,hT⟩:=hrel;by_cases bf:i<on
  ·have⟨G,cap,ar,hL,ba,hG,av⟩:=hT.step bf;obtain rfl:D=some (Y G 0):=by injection ar
   have⟨c0,c1⟩:=N7 hT.box;have⟨d0,d1,e0,e1⟩:=hL.has ba;have z0:=hL.thaw (i*2);have z1:=hL.thaw (i*2+1);have b2:=Dx av;clear hT hL av ar;go_wp2;go_roundw
   case rel=>exact⟨i+1,U,Kc,b2⟩
   case measure=>exact Kt
  ·obtain rfl:i=on:=U;have hM:=adI hT (Dw aV);have Q:∀j,(Value.slice D i M).ownBlock=some j->j<w.heap.size/\w0.heap.size<=j:=λj hj=>(HO j hj).1
   have⟨a1,c1,w1,bg,ad⟩:=X3 hM (n:=i) Ev 1 U hB Q;have⟨a2,c2,w2,bi,ae⟩:=X3 ad (n:=i) Ev 2 U hB Q;have⟨a3,c3,m,bj,f⟩:=X3 ae (n:=i) Ev 3 U hB Q;have⟨p0,p1⟩:=N7 hM.box;have⟨q0,q1⟩:=N7 ad.box;have⟨r0,r1⟩:=N7 ae.box;have⟨s0,s1⟩:=N7 f.box;have b6:m.cell? (Y b 1)=some (.slice X kn kc):=by
    have hc:=ac.cell;rw[Dw u];simp[World.cell?,f.keep b b9 (λe=>(HO b e).2.1 rfl),hc]
   have bU:=f.size;have am:m.ownsRow 0 178 7 (.slice X kn kc) kn (QQ L):=by
    have hr:=ac.row;rw[Dw u];exact Jl hr λg hg=>f.keep g ((hr.lt g hg).2) (λe=>(HO g e).2.2.1 hg)
   have bX:=f.DG.size;have b7:b<m.heap.size:=U;have bT:(m.alloc (.cells #[.slice D i M,.slice a1 (i+1) c1,.slice a2 (i+2) c2,.slice a3 (i+3) c3,Z i,Z x0,.string x1] 178)).drew.cell? (Y b 1)=some (.slice X kn kc):=
    (((AA m.heap.size m).alloc (Ar _) _).cell (p:=Y b 1) b7).trans b6
   obtain⟨n1,n2,n3,n4⟩:¬m.heap.size=b/\¬b=m.heap.size/\¬m.heap.size=w.heap.size/\¬w.heap.size=m.heap.size:=U;have b1:=Dx f;have⟨j0,bb,bt,bz,bL⟩:=A1 ac3;clear hT hM ad ae f Q;go_wp2_with (first
    |(at_builtin;refine wpList_append_run rfl (.tmp 26) (.tmp 28) 44 rfl _ _ _ _ rfl rfl bg ?_)
    |(at_builtin;refine wpList_append_run rfl (.tmp 30) (.tmp 33) 44 rfl _ _ _ _ rfl rfl bi ?_)
    |(at_builtin;refine wpList_append_run rfl (.tmp 35) (.tmp 39) 44 rfl _ _ _ _ rfl rfl bj ?_))
   go_region_law (refine FM rfl (.tmp 45) (.tmp 54) 65 rfl 0 178 j0 _ 7 128 underlying65 bb bt bz bL rfl Em (.slice X kn kc) kn (QQ L) rfl (by exact World.ownsRow.alloc (w:=m.drew) am _) (EN m 0) 1 1 (Kp.mk (.slice D i M) (.slice a1 (i+1) c1) (.slice a2 (i+2) c2) (.slice a3 (i+3) c3) i (x0,x1)).cells rfl rfl (by exact Yu m.drew (Kp.mk (.slice D i M) (.slice a1 (i+1) c1) (.slice a2 (i+2) c2) (.slice a3 (i+3) c3) i (x0,x1))) (by exact ac9 _ _ _ _ _ _ _ _ _ _ _ _ _ _) JG U (AV _) ?_;intro K' w5 h y aw;have⟨va,vn,vc,bp⟩:=Ei h;subst bp;rw[Dw u]at h;have al:=yw ac aS b1.drew U (λj hj=>⟨(HO j hj).1.1,(HO j hj).2⟩) h (by rw[<-Dw u];exact y) (by rw[<-Dw u];simpa using aw);have⟨ah,aa⟩:=al;have k1:w5.cell? (Y b 1)=some (.slice X L.length kc):=(by simp[World.cell?,ah]);have k2:w5.frozen? (Y b 1)=false:=(by simp[World.frozen?,ah]))
   all_goals
    have an:=Dx aa;clear aa h y aw ah k1 k2;go_wp2
    go_end0
    exact⟨rfl,_,_,an⟩
theorem VG(w0 w:Aa)(b:Nat)(L:List Kp)(lv K O:Ad)(v:List It)(hBk:Bo b L lv K w)(hb0:DY w0 w)(hR:w.ownsRow w0.heap.size 106 2 O v.length (flat v))(hL:L.length<=1000000000000)(hv:v.length<=100000)
  (h:∀j,OY b L K j->j<w0.heap.size):
  D7 154 #[.pointer (some (Y b 1)),O] w Ep λf=>∃e k,Bo b (L++[k]) lv e f/\D8 (λj=>OY b L K j\/O.ownBlock=some j) (OY b (L++[k]) e) w f:=by
 exact aff
theorem Mv{k:Nat}(h:Marks B x w T k):Ff w T (List.replicate k x):=by
 refine KW (B:=B) ?_;rw[BN];exact h
theorem YI:∀(L:List Kp) (i:Nat) (k:Kp),L[i]?=some k->∀j,j<7->(QQ L)[i*7+j]?=k.cells[j]?
 |[],i,k,h,j,_=>by simp at h
 |y :: L,0,k,h,j,hj=>by
  simp at h;subst h;simp only[QQ,Dt,Cr];rw[A6 (by simp[Kp.cells];omega)]
 |y :: L,i+1,k,h,j,hj=>by
  simp only[List.getElem?_cons_succ]at h;simp only[QQ];rw[Bq (by simp[Kp.cells];omega)];rw[show (i+1)*7+j-y.cells.length=i*7+j by simp[Kp.cells];omega];exact YI L i k h j hj
structure Seen(w:Aa)(g i:Nat)(la a1 a2 a3:Af)(lc c1 c2 c3 n:Nat)(x0:Int)(x1:Ab):Prop where
 e0:w.cell? (Y g (i*7))=some (.slice la n lc)
 e1:w.cell? (Y g (i*7+1))=some (.slice a1 (n+1) c1)
 e2:w.cell? (Y g (i*7+2))=some (.slice a2 (n+2) c2)
 e3:w.cell? (Y g (i*7+3))=some (.slice a3 (n+3) c3)
 e4:w.cell? (Y g (i*7+4))=some (Z n)
 e5:w.cell? (Y g (i*7+5))=some (Z x0)
 e6:w.cell? (Y g (i*7+6))=some (.string x1)
 small:n<=100000
 s0:∀w',Below w.heap.size w w'->Calls prog 103 #[.slice la n lc,Z n,Tp (x0,x1)] w' λe w''=>e=.returned (.bool true)/\Below w'.heap.size w' w''
 s1:∀w',Below w.heap.size w w'->Calls prog 103 #[.slice a1 (n+1) c1,Z ((n:Int)+1),Tp (x0,x1)] w' λe w''=>e=.returned (.bool true)/\Below w'.heap.size w' w''
 s2:∀w',Below w.heap.size w w'->Calls prog 103 #[.slice a2 (n+2) c2,Z ((n:Int)+2),Tp (x0,x1)] w' λe w''=>e=.returned (.bool true)/\Below w'.heap.size w' w''
 s3:∀w',Below w.heap.size w w'->Calls prog 103 #[.slice a3 (n+3) c3,Z ((n:Int)+3),Tp (x0,x1)] w' λe w''=>e=.returned (.bool true)/\Below w'.heap.size w' w''
theorem Fa(h:Marks B x w T n):∃a c,T=.slice a n c:=by
 rcases h.2 with ⟨f,j⟩|⟨g,cap,e,f,_⟩;all_goals grind
theorem yx{b:Nat}{L:List Kp}{lv K:Ad}(h:Bo b L lv K w){i:Nat}(hi:i<L.length):∃g kc,K=EJ g L.length kc/\g<w.heap.size/\∃D a1 a2 a3 M c1 c2 c3 n x0 x1,Seen w g i D a1 a2 a3 M c1 c2 c3 n x0 x1:=by
 obtain⟨k,hk⟩:∃k,L[i]?=some k:=⟨_,Ah hi⟩;have Q:=h.Oh k (Ap hk);have m:=YI L i k hk;have e:=h.row;rcases e.2 with ⟨X,h0⟩|⟨g,cap,aa,X,_,y,_⟩
 ·omega
 ·subst X;have hc:=λj hj u hu=>e.cells (g:=g) rfl (i*7+j) u ((m j hj).trans hu)
  have⟨l,g1,g2,g3,n,x⟩:=k;simp only[Kp.lists,CX,List.not_mem_nil,or_false,forall_eq_or_imp,forall_eq]at Q;have⟨hn,⟨B0,m0⟩,⟨B1,m1⟩,⟨B2,m2⟩,⟨B3,m3⟩⟩:=Q;obtain⟨D,M,rfl⟩:=Fa m0;obtain⟨a1,c1,rfl⟩:=Fa m1;obtain⟨a2,c2,rfl⟩:=Fa m2;obtain⟨a3,c3,rfl⟩:=Fa m3;refine⟨g,cap,rfl,Dv y,D,a1,a2,a3,M,c1,c2,c3,n,x.1,x.2,?_⟩;simp only[Bc,Cr]at hc;refine⟨hc 0 U _ rfl,hc 1 U _ rfl,hc 2 U _ rfl,hc 3 U _ rfl,hc 4 U _ rfl,hc 5 U _ rfl,hc 6 U _ rfl,hn,λO f=>?_,λO f=>?_,λO f=>?_,λO f=>?_⟩
  ·exact OV ((Mv m0).DG f) U
  ·have:=OV ((Mv m1).DG f) U
   grind
  ·have:=OV ((Mv m2).DG f) U
   grind
  ·have:=OV ((Mv m3).DG f) U
   grind
abbrev acT(la a1 a2 a3:Af)(lc c1 c2 c3 n:Nat)(x0:Int)(x1:Ab):Obj:=.cells #[.slice la n lc,.slice a1 (n+1) c1,.slice a2 (n+2) c2,.slice a3 (n+3) c3,Z n,Z x0,.string x1] 178
structure Cpy(w:Aa)(A:Nat)(la a1 a2 a3:Af)(lc c1 c2 c3 n:Nat)(x0:Int)(x1:Ab):Prop where
 l1:w.cell? (Y A 1)=some (.slice a1 (n+1) c1)
 l2:w.cell? (Y A 2)=some (.slice a2 (n+2) c2)
 l3:w.cell? (Y A 3)=some (.slice a3 (n+3) c3)
 l4:w.cell? (Y A 4)=some (Z n)
 l5:w.cell? (Y A 5)=some (Z x0)
 l6:w.cell? (Y A 6)=some (.string x1)
theorem dx{w':Aa}{e a1 a2 a3:Af}{f c1 c2 c3:Nat}{g:Int}{x1:Ab}(h:Below (wr.heap.size+1) (wr.alloc (acT e a1 a2 a3 f c1 c2 c3 n g x1)) w'):Cpy w' wr.heap.size e a1 a2 a3 f c1 c2 c3 n g x1:=by
 refine⟨?_,?_,?_,?_,?_,?_⟩<;>exact(h.cell Ev).trans (Bb wr _ _ _)
theorem cK(w:Aa)(b:Nat)(L:List Kp)(lv K:Ad)(e:Bo b L lv K w)(hL:L.length<=1000000000000):
  D7 56 #[.pointer (some (Y b 1))] w (.bool true) λw'=>DY w w':=by
 have⟨ka,m,kc,hk⟩:=Ei e.row;subst hk;have h:m=L.length:=by
  rcases e.row.2 with ⟨hv,h0⟩|⟨g,cap,aq,hv,_⟩
  ·cases hv;omega
  ·cases hv;rfl
 have X:=Dx h;rw[<-h]at hL;have Q:=Dx e;clear e h;go_enter func56,ntmps56;go_wp2;go_loopw [3] (λiv wr=>∃i:Nat,i<=m/\iv=Z i/\DY w wr) (λiv _=>m-(intOf iv).toNat)
 case atStart=>exact⟨0,AV _,rfl,AA _ _⟩
 case round=>
  obtain⟨i,hi,rfl,j⟩:=hrel;have f:=Q.DG j;have av:wr.cell? (Y b 1)=some (.slice ka m kc):=by simp[World.cell?,f.cell]
  by_cases aa:i<m
  ·have⟨g,az,hK,aw,la,a1,a2,a3,lc,c1,c2,c3,n,x0,x1,hS⟩:=yx f (i:=i) (by rw[<-Dw X];exact aa);obtain rfl:ka=some (Y g 0):=by injection hK
   have⟨e0,e1,e2,e3,e4,e5,e6,hn,s0,s1,s2,s3⟩:=hS;have⟨S0,S1,S2,S3,u⟩:=hd5 s0 s1 s2 s3 j;clear f hK s0 s1 s2 s3 j;go_wp2_with fail
   have b0:DY wr (wr.alloc (acT la a1 a2 a3 lc c1 c2 c3 n x0 x1)):=F9;have hz:(wr.alloc (acT la a1 a2 a3 lc c1 c2 c3 n x0 x1)).heap.size=wr.heap.size+1:=Ev;refine cm (S0 _ b0) λw1 d1=>?_
   rw[hz]at d1;have b1:=b0.trans (d1.mono U);have⟨p1,p2,p3,p4,p5,p6⟩:=dx d1;have⟨y,D1⟩:=FU b1 d1;clear b0 b1 d1 hz;go_wp2_with fail
   refine cm (S1 _ y) λw2 d2=>?_
   have O:=Dx (D1.trans (d2.mono (by have:=D1.size;simpa using this)));have D:=Dx (y.trans (d2.mono y.size));have⟨q1,q2,q3,q4,q5,q6⟩:=dx (Dw O);clear d2 p1 p2 p3 p4 p5 p6;go_wp2_with fail
   refine cm (S2 _ D) λw3 d3=>?_
   have D3:=Dx (O.trans (d3.mono (by have:=O.size;simpa using this)));have M:=Dx (D.trans (d3.mono D.size));have⟨r1,r2,r3,r4,r5,r6⟩:=dx (Dw D3);clear d3 q1 q2 q3 q4 q5 q6;go_wp2_with fail
   refine cm (S3 _ M) λw4 d4=>?_
   have B4:=Dx (M.trans (d4.mono M.size));clear d4 r1 r2 r3 r4 r5 r6;go_wp2;go_roundw
   case rel=>exact⟨i+1,U,Kc,u.trans (B4.mono u.size)⟩
   case measure=>exact Kt
  ·have u:=Dx j;clear j f;go_wp2
   go_ret
   exact⟨rfl,u⟩
end Go.Proofs.YtblomippkddgiaaGreatDoor.V
namespace Go.Proofs.YtblomippkddgiaaGreatDoor
open Go.Proofs.Tryz
open Go.RowKit
variable {F:D9}{i:Nat}{P:Pk}{p:Pl}{M:R.Bk}{G:R.Wd}{w:World}
theorem qU:∀args w,(callFunc 154 args).run prog w=.ok (.enter 154 args) w:=λ_ _=>rfl
theorem oS(w W1:Aa)(b:Nat)(t:Tw)(o:LD)(hk:o.Dz=12)(st Q er:Int)(ua:Af)(un uc:Nat)(Q1:Option Addr->Nat->Nat->World->Prop)(Q4:World->Prop)(ak:(w.alloc (.cells #[ptr t.p.x,Ey t.x] 109)).alloc (.cells o.cells 72)=W1)(hx:Bx w.heap.size t o W1)(bj:b<w.heap.size)
  (H1:Hid (ET 16 #[ptr t.p.x,Z o.a,Z o.b] W1 λe h=>∃f on g,e=.returned (.tuple #[.agg #[Z st,Z Q,.slice f on g],Z er])/\DY W1 h/\Q1 f on g h))
  (H2:Hid (∀f on g O h,Q1 f on g O->DY O h->D7 164 #[Ey t.x,Z o.a,Z o.b] h (.tuple #[.agg #[Z st,Z Q,.slice ua un uc],Z er]) λj=>DY h j))
  (H3:Hid (∀f on g O h,Q1 f on g O->DY O h->D7 153 #[.slice f on g,.slice ua un uc] h (.bool true) λj=>DY h j))
  (H4:Hid (∀f on g O h,Q1 f on g O->DY O h->D7 154 #[.pointer (some (Y b 1)),.slice f on g] h Ep λj=>(∀k,O.heap.size<=k->k<h.heap.size->j.heap[k]?=h.heap[k]?)/\Q4 j)):
  D7 96 #[ptr b,t.val,o.val] w (.bool true) λh=>Q4 h:=by
 have aV:=Dx ak;have bt:=Dv hx.t;have bz:=Dv hx.o;have c0:=EI hx.t 0;have bp:(o.Dz==11)=false:=by rw[hk];rfl
 obtain⟨d2,d3⟩:=VL hx.o 2 3;have HX:=Dx hx;clear ak hx hk;go_enter func96,ntmps96;go_wp2_with fail
 rw[Dw aV];refine H1.mono ?_;rintro e m ⟨f,on,g,rfl,X,q1⟩;have hy:Bx w.heap.size t o m:=⟨(X.block _ (Dv HX.t)).trans HX.t,(X.block _ (Dv HX.o)).trans HX.o⟩;have l1:=Dv hy.t;have l2:=Dv hy.o;have e1:=EI hy.t 1;obtain⟨e2,e3⟩:=VL hy.o 2 3;have b3:b<m.heap.size:=U;obtain⟨G2,G3,G4,u⟩:=bE (H2 f on g m) (H3 f on g m) (H4 f on g m) q1;clear hy q1 X H1 H2 H3 H4 c0 d2 d3 HX;go_wp2_with fail
 have bS:DY m (m.alloc (.cells #[Z st,Z Q,.slice f on g] 46)):=F9;have hS:=AF m (.cells #[Z st,Z Q,.slice f on g] 46);obtain⟨W3,al⟩:∃W3,m.alloc (.cells #[Z st,Z Q,.slice f on g] 46)=W3:=⟨_,rfl⟩;rw[al]at bS hS ⊢;refine cm (G2 W3 u bS) λw4 aa=>?_
 have y:=(aa.block _ (Dv hS)).trans hS;have bT:=bS.trans (aa.mono bS.size);have s2:=EI y 2;have ls:=Dv y;obtain⟨ae,BT⟩:=FU y bT;clear al bS hS aa y bT e1 e2 e3 l1 l2 G2;go_wp2_with fail
 have bU:DY w4 (w4.alloc (.cells #[Z st,Z Q,.slice ua un uc] 46)):=F9;have hU:=AF w4 (.cells #[Z st,Z Q,.slice ua un uc] 46);obtain⟨W5,am⟩:∃W5,w4.alloc (.cells #[Z st,Z Q,.slice ua un uc] 46)=W5:=⟨_,rfl⟩;rw[am]at bU hU ⊢;have bV:=BT.trans (bU.mono BT.size);refine cm (G3 W5 u bV) λw6 D=>?_
 have B:=(D.block _ (Ai ls bU.size)).trans ((bU.block _ ls).trans ae);have T:=(D.block _ (Dv hU)).trans hU;have bW:=bV.trans (D.mono bV.size);have s2:=EI B 2;have l6:=Dv B;have l7:=Dv T;have br:=Ai b3 bW.size;obtain⟨aN,aS,G5⟩:=Ll B T (G4 w6.drew u bW.drew);have b2:=BT.size;clear am bU hU bV D B T bW G3 G4 ae BT u;go_wp2_with fail
 go_region_law (refine FG rfl 154 #[.tmp 98,.tmp 100] #[67,44] rfl qU #[.pointer (some (Y b 1)),.slice f on g] rfl _ G5 ?_;rintro e w7 ⟨rfl,ab,q4⟩;have t0:=(ab m.heap.size (Ar _) l6).trans (Dw aN);have t1:=(ab w4.heap.size b2 l7).trans (Dw aS);have az:=Dx q4;clear ab q4;refine⟨_,rfl,?_⟩)
 obtain⟨a0,a1⟩:=VL t0 0 1;obtain⟨b0,b1⟩:=VL t1 0 1;have la:=Dv t0;have bq:=Dv t1;have ad:=Dx OM;clear t0 t1;go_wp2_with fail
 refine cm (ad _ _) λw8 an=>?_
 rw[an];clear an w8;go_wp2;go_returns;exact⟨rfl,az⟩
theorem SI{r:R.Sn}(e:G.DN[i]?=some r)(P:Pk):R.N0 G i P=if P.Dz=6 then (if r.D4=P.D4/\r.DK=3/\P.off=R.DL r.DU/\P.Ez=r.at'/\r.at'<R.DL r.DU-1 then R.JF (R.EA G i {r with at':=r.at'+1}) i else G) else if r.D4=P.D4 then R.Hl G i P else if P.D4<r.D4 then G else Zm G i r P:=by grind [R.N0,Zm,Ks,R.F7]
theorem LW.jg(h:LW p F G w)(O:R.Inv M G)(f:R.EP G){r:R.Sn}(B:G.DN[i]?=some r){d:R.Cd}(D:R.Lm M G P d i)(hk:(P.Dz=1/\P.off=R.DL d.J9/\P.Ef=R.EY d.J9 P.Ez)\/P.Dz=3):
  D7 139 #[ptr p.s,Gh p.t G.DN i,pv P] w Ep λw'=>NM p F w (R.N0 G i P) w':=by
 have aa:=D.right.2.2.2.2.1;rw[SI B,Ao U];have e:Gh p.t G.DN i=if r.D4=0 then .pointer none else ptr (p.t.ql i):=by
  unfold Gh;rw[B];rfl
 have up:∀{K:R.Wd} {g w':Aa},DY w g->NM p F g K w'->NM p F w K w':=λhb ⟨t,F',q1,q2⟩=>⟨t,F',q1,(D8.D6 F hb).trans q2⟩
 by_cases j:r.D4=0
 ·rw[e,Ay j,Ao U,Ao U];refine bP _ (λg hb=>?_);have q:=(h.DG hb).aeX O f B D hk U U;rw[e,Ay j]at q;refine cm q λw' m=>?_
  exact⟨rfl,up hb m⟩
 ·have⟨y,T,_⟩:=h.q B j;have c3:=(X8 T.blk).a3;rw[T.rel.D4]at c3;rw[e,Ao j];refine Yl _ c3 (λX g hb=>?_) (λu g hb=>?_) (λQ g hb=>?_)
  ·rw[Ao U,Ao U];have q:=(h.DG hb).aeX O f B D hk U U;rw[e,Ao j]at q;refine cm q λw' m=>?_
   exact⟨rfl,up hb m⟩
  ·rw[Ay u];refine cm ((h.DG hb).ac8 O (T.DG hb) D hk u) ?_;exact wJ
  ·rw[Ao U,Ay Q];exact NM.of (h.DG hb) (D8.D6 F hb)
theorem sM{t:SP}{DN:List R.Sn}{n nm:Nat}{c:R.Cf}{DX:List Int}(hi:i<3):(IW n nm t c DX DN)[7+i]?=some (Z (DX.getD i 0)):=by
 have h:i=0\/i=1\/i=2:=U;rcases h with rfl|rfl|rfl<;>rfl
theorem OL(e:G.DX.getD P.DJ.toNat 0<P.DR):R.Ib G P=Hu G G.Dy (G.DX.set P.DJ.toNat P.DR) (Nu G.DN P.DJ.toNat) G.EF:=by grind [R.Ib,Nu]
theorem Xi{s ci:Nat}{cs:Ae}{DR:Int}(h:w.heap[s]?=some (.cells cs.toArray 167 (0,0))):(GF w s ci DR).heap[s]?=some (.cells ((((cs.set (7+ci) (Z DR)).set (10+3*ci) (.pointer none)).set (10+3*ci+1) (.pointer none)).set (10+3*ci+2) (.pointer none)).toArray 167 (0,0))/\DF (λk=>k=s) w (GF w s ci DR):=by grind [DF,Ek,Eg]
theorem LW.acO(h:LW p F G w)(hI:R.Inv M G)(B:R.EP G)(T:EC P)(hp:R.Tj M G.Dy (-1) P):
  D7 85 #[ptr p.s,pv P] w Ep λy=>NM p F w (R.KB G P) y:=by
 have⟨d,hd,hu,hk⟩:=hp;have⟨_,b9,be,bb,ar,_⟩:=id T;have am:(P.Dz=1/\P.off=R.DL d.J9/\P.Ef=R.EY d.J9 P.Ez)\/P.Dz=3\/P.Dz=6:=by
  rcases hk with ⟨q1,_,q2,q3⟩|⟨_,q,_⟩|⟨q,_⟩|⟨_,q⟩|⟨_,q,_⟩|⟨q,_⟩|⟨_,q,_⟩
  ·exact Aj ⟨q1,q2,q3⟩
  ·omega
  ·exact Am (Aj q)
  ·omega
  ·omega
  ·exact Am (Am q)
  ·omega
 generalize hci:P.DJ.toNat=ci;generalize hni:P.DZ.toNat=ni;obtain⟨ac,al,ae,X⟩:P.DJ=(ci:Int)/\P.DZ=(ni:Int)/\3*ci+ni<9/\(3*ci+ni) / 3=ci:=U;have c7:EB w p.s (7+ci) (Z (G.DX.getD ci 0)):=E7 h.Hd.bs (sM U);have aN:10+ci*3+ni=10+(3*ci+ni):=U;have ak:EB w p.s (10+ci*3+ni) (Gh p.t G.DN (3*ci+ni)):=by
  rw[aN];exact E7 h.Hd.bs (Ox p.t G.DN p.n p.nm G.c G.DX ae)
 have eA:R.KB G P=if P.DR<G.DX.getD ci 0 then G else R.N0 (R.Ib G P) (3*ci+ni) P:=by
  unfold R.KB;rw[hci,hni]
 rw[eA];have up:∀{K:R.Wd} {D y:Aa},DY w D->NM p F D K y->NM p F w K y:=λhb ⟨t,F',q1,q2⟩=>⟨t,F',q1,(D8.D6 F hb).trans q2⟩
 rcases Int.lt_trichotomy P.DR (G.DX.getD ci 0) with hc|hc|hc
 ·rw[Ay hc];refine cm (oR c7 ac U hc) λy hb=>?_
  exact xf
 ·rw[Ao U];have eL:R.Ib G P=G:=by
   unfold R.Ib;rw[hci,Ao U]
  rw[eL];have ah:R.Lm M G P d (3*ci+ni):=⟨T,hd,hu,by rw[X];exact hc,by rw[hci,hni]⟩;have hr:=hI.K6 ae;have⟨o,ho⟩:=M8 p.t G.DN (3*ci+ni);rw[<-hc]at c7;rw[ho]at ak;refine ig _ c7 ak ac al U U (λk6 D hb=>?_) (λb1 D hb=>?_) (λaV D hb=>?_)
  ·have q:=(h.DG hb).aeK hr (P:=P) ar.1;rw[ho]at q;refine cm q λy m=>?_
   refine⟨rfl,?_⟩;rw[SI hr,Ay k6];exact up hb m
  ·have q:=(h.DG hb).jg hI B hr ah (by
    rcases am with q|q|q
    ·exact Aj q
    ·exact Am q
    ·omega)
   rw[ho]at q;refine cm q λy m=>?_
   exact⟨rfl,up hb m⟩
  ·omega
 ·rw[Ao U];have an:G.DX.getD P.DJ.toNat 0<P.DR:=by rw[hci];exact hc
  have g:=hI.DX T hd;have f:=B.DX P;have⟨o0,d0⟩:=M8 p.t G.DN (3*ci);have⟨o1,d1⟩:=M8 p.t G.DN (3*ci+1);have⟨o2,d2⟩:=M8 p.t G.DN (3*ci+2);have cq:∀j,j<3->EB w p.s (10+ci*3+j) (Gh p.t G.DN (3*ci+j)):=λj hj=>by
   have e:10+ci*3+j=10+(3*ci+j):=U;rw[e];exact E7 h.Hd.bs (Ox p.t G.DN p.n p.nm G.c G.DX U)
  have f0:=cq 0 U;rw[Cz,Cz,d0]at f0;have f1:=cq 1 U;rw[d1]at f1;have f2:=cq 2 U;rw[d2]at f2;have⟨O,Q⟩:=Xi (ci:=ci) (DR:=P.DR) h.Hd.bs;have av:=h.Hd.forget h.GQ.ll U Q O;have ab:=g.ws;have aa:=g.wf;rw[OL an,hci]at g f ab aa;have ad:=h.OW av Q (GD.one h.Hd.bs Em) (λ_ q=>q) (λk hf=>Ai (h.lt k hf) Q.size) aa ab (λi c _ u=>rfl);have aS:D8 F F w (GF w p.s ci P.DR):=⟨Q.mono (λk _ e=>by rw[e];exact h.Hd.Fw.1),λ_ q=>Aj q⟩;rw[OL an,hci];generalize hG2:Hu G G.Dy (G.DX.set ci P.DR) (Nu G.DN ci) G.EF=G2 at g f ad;have hr2:=g.K6 ae;have aq:R.EZ G2 (3*ci+ni)=R.Ic:=by
   rw[<-hG2]at hr2 ⊢;exact acp
  have ao:Gh p.t G2.DN (3*ci+ni)=.pointer none:=by
   unfold Gh;rw[hr2,aq];rfl
  have ah:R.Lm M G2 P d (3*ci+ni):=⟨T,hd,hu,by
   rw[X,<-hG2];show P.DR=(G.DX.set ci P.DR).getD ci 0;rw[Bu,Bf,Ay rfl,Ay (by rw[h.GQ.ll];omega)];rfl,by rw[hci,hni]⟩
  have aw:(GF w p.s ci P.DR).heap.size=w.heap.size:=Ev;have az:∀{K:R.Wd} {D y:Aa},Below (GF w p.s ci P.DR).heap.size (GF w p.s ci P.DR) D->NM p F D K y->NM p F w K y:=λhb ⟨t,F',q1,q2⟩=>⟨t,F',q1,(aS.trans (D8.D6 F hb)).trans q2⟩
  refine oQ _ c7 f0 f1 f2 (λj=>Eb h.Hd.bs) ac al U U hc (λk6 D hb=>?_) (λb1 D hb=>?_) (λaV D hb=>?_)
  ·rw[<-aw]at hb;have q:=(ad.DG hb).aeK hr2 (P:=P) ar.1;rw[ao]at q;refine cm q λy m=>?_
   refine⟨rfl,?_⟩;rw[SI hr2,Ay k6];exact az hb m
  ·rw[<-aw]at hb;have q:=(ad.DG hb).jg g f hr2 ah (by
    rcases am with q|q|q
    ·exact Aj q
    ·exact Am q
    ·omega)
   rw[ao]at q;refine cm q λy m=>?_
   exact⟨rfl,az hb m⟩
  ·omega
theorem pJ(w:Aa)(s ci e:Nat)(c1 c3 c4:Int)(j:ci<3)(g:e<3)(f:EB w s (10+ci*3+e) (.pointer none)):
  D7 82 #[ptr s,.agg #[Z ci,Z c1,Z e,Z c3,Z c4]] w (.bool false) λh=>DY w h:=by
 have HB:Hid (∀o n,DY w ((w.alloc o).drewN n)):=λo n=>Ed F9 n
 have hl:=Gv f;obtain⟨m,u,y,B⟩:0<=(ci:Int)/\(ci:Int)<3/\0<=(e:Int)/\(e:Int)<3:=U;exact po
theorem iN(w:Aa)(s q ci y:Nat)(c1 c3 c4 e f g st:Int)(T:ci<3)(D:y<3)(B:EB w s (10+ci*3+y) (ptr q))(d0:EB w q 0 (Z ci))(d1:EB w q 1 (Z e))(d2:EB w q 2 (Z y))(d3:EB w q 3 (Z f))(d4:EB w q 4 (Z g))(d5:EB w q 5 (Z st)):
  D7 82 #[ptr s,.agg #[Z ci,Z c1,Z y,Z c3,Z c4]] w (.bool (decide (e=c1/\f=c3/\g=c4/\st=1))) λQ=>DY w Q:=by
 have HB:Hid (∀o n,DY w ((w.alloc o).drewN n)):=λo n=>Ed F9 n
 have⟨hl,O⟩:=KM B d0;obtain⟨X,q2,q3,q4⟩:0<=(ci:Int)/\(ci:Int)<3/\0<=(y:Int)/\(y:Int)<3:=U;by_cases h:e=c1
 ·have e1:(e==c1)=true:=by simpa using h
  by_cases j:f=c3
  ·have e2:(f==c3)=true:=by simpa using j
   by_cases m:g=c4
   ·have e4:(g==c4)=true:=by simpa using m
    by_cases u:st=1
    ·have e5:(st==1)=true:=by simpa using u
     rw[show decide (e=c1/\f=c3/\g=c4/\st=1)=true by simp[h,j,m,u]];clear h j m u;exact po
    ·have e5:(st==1)=false:=by simpa using u
     rw[show decide (e=c1/\f=c3/\g=c4/\st=1)=false by simp[u]];clear h j m u;exact po
   ·have e4:(g==c4)=false:=by simpa using m
    rw[show decide (e=c1/\f=c3/\g=c4/\st=1)=false by simp[m]];clear h j m;exact po
  ·have e2:(f==c3)=false:=by simpa using j
   rw[show decide (e=c1/\f=c3/\g=c4/\st=1)=false by simp[j]];clear h j;exact po
 ·have e1:(e==c1)=false:=by simpa using h
  rw[show decide (e=c1/\f=c3/\g=c4/\st=1)=false by simp[h]];clear h;exact po
theorem af9:∀args w,(callFunc 83 args).run prog w=.ok (.enter 83 args) w:=λ_ _=>rfl
def ac7(j:R.Jb):Obj:=.cells #[Z j.DJ,Z j.DR,Z j.DZ,Z j.D4,Z j.D5] 145
theorem gQ(w0:Aa)(s:Nat)(A:List R.Jb->World->Prop)(B C:R.Jb->List R.Jb->World->Prop)(P0 P1:World->Prop)(mu:World->Nat)(y:List R.Jb)(hA:A y w0)
  (Q:Hid (∀js w,A js w->mu w=js.length))
  (HT0:Hid (∀w,A [] w->D7 81 #[ptr s] w (.tuple #[.agg #[Z 0,Z 0,Z 0,Z 0,Z 0],.bool false]) λg=>∀D,DY g D->P0 D))
  (u:Hid (∀j js w,A (j :: js) w->D7 81 #[ptr s] w (.tuple #[.agg #[Z j.DJ,Z j.DR,Z j.DZ,Z j.D4,Z j.D5],.bool true]) λg=>∀D,DY g D->B j js D))
  (X:Hid (∀j js w,B j js w->ET 82 #[ptr s,.agg #[Z j.DJ,Z j.DR,Z j.DZ,Z j.D4,Z j.D5]] w λe g=>DY w g/\((e=.returned (.bool false)/\A js g)\/(e=.returned (.bool true)/\C j js g))))
  (HC:Hid (∀j js w,C j js w->∃ci ni q:Nat,j.DJ=(ci:Int)/\j.DZ=(ni:Int)/\ci<3/\ni<3/\EB w s (10+ci*3+ni) (ptr q)/\D7 83 #[ptr s,ptr q] w.drew Ep λg=>P1 g)):
  ET 48 #[ptr s] w0 λe g=>(e=.returned (Z 19)/\P0 g)\/(e=.returned (Z 0)/\P1 g):=by
 have O:=Dx hA;clear hA;go_enter func48,ntmps48;go_wp2_with fail
 refine wp_scope_jumps 0 (λa w=>∃(js:List R.Jb) (u1 u3 u4 u5 u6 u7 u8 u9 u10 u11 u12 u13 u14 u15 u16 u17 u18 u19 u20 u21 u22 u23 u24 u25 u26 u27 u28:Ad),a={tmps:=#[ptr s,u1,Z 0,u3,u4,u5,u6,u7,u8,u9,u10,u11,u12,u13,u14,u15,u16,u17,u18,u19,u20,u21,u22,u23,u24,u25,u26,u27,u28],defers:=[]}/\A js w) (λ_ w=>mu w) rfl ?first ?pass
 case pass=>
  rintro a w ⟨js,u1,u3,u4,u5,u6,u7,u8,u9,u10,u11,u12,u13,u14,u15,u16,u17,u18,u19,u20,u21,u22,u23,u24,u25,u26,u27,u28,rfl,hA⟩;have T:=Q js w hA;clear O;cases js with
  |nil=>
   exact abg
  |cons j js=>
   have HQ:=Dx (u j js w hA);clear hA;go_wp2_with (first|(go_at_call 81;refine cm HQ λw1 hw1=>?_;have HP:=Dx (X j js _ (hw1 _ ((AA _ _).alloc (Ar _) (ac7 j))));clear hw1))
   refine HP.mono ?_;rintro e w2 ⟨hb2,⟨rfl,f⟩|⟨rfl,hC2⟩⟩
   ·have m:=Dx f;have h:=Q js w2 f;clear f hb2;go_wp2
    go_step3
    exact⟨rfl,⟨js,_,_,_,_,_,_,_,_,_,_,_,_,_,_,_,_,_,_,_,_,_,_,_,_,_,_,_,rfl,m⟩,by rw[h,T];simp⟩
   exact afk
 case first=>
  have hA:=Dw O;clear O;generalize w0=w at hA ⊢;generalize y=js at hA;go_wp2_with fail
  go_step3
  cases js with
  |nil=>
   exact abg
  |cons j js=>
   have HQ:=Dx (u j js w hA);clear hA;go_wp2_with (first|(go_at_call 81;refine cm HQ λw1 hw1=>?_;have HP:=Dx (X j js _ (hw1 _ ((AA _ _).alloc (Ar _) (ac7 j))));clear hw1))
   refine HP.mono ?_;rintro e w2 ⟨hb2,⟨rfl,f⟩|⟨rfl,hC2⟩⟩
   ·have m:=Dx f;have h:=Q js w2 f;clear f hb2;go_wp2
    go_step3
    exact⟨rfl,⟨js,_,_,_,_,_,_,_,_,_,_,_,_,_,_,_,_,_,_,_,_,_,_,_,_,_,_,_,rfl,m⟩⟩
   exact afk
end Go.Proofs.YtblomippkddgiaaGreatDoor
