import Derived.Test.YtblomippkddgiabGreatDoorJ15
set_option maxRecDepth 100000
set_option maxHeartbeats 8000000
namespace Go.Proofs.YtblomippkddgiabGreatDoor
open Go.Proofs.Tryz RowKit
variable {S:ByteArray}{F F2:D9}{cl u:Int}{l l':List R.En}{N ab ac an ao b cap capC g gC i j j0 k m n q rc rn x:Nat}{a aa ra:Option Addr}{o:LD}{z:R.Cl×CE}{s:R.Sv}{G:R.Wd}{v:RV}{A K O V' lv:Value}{W w w' w0 w1 w2 wr wz:World}
theorem LW.export{p:Pl}(h:LW p F G w)(name:Ac)kind:
  D7 48 #[ptr p.x,.string (str name),Z kind] w (.tuple #[Z (R.E4 G name kind).1.1,Z (R.E4 G name kind).1.2]) λa=>NM p F w (R.E4 G name kind).2 a:=
 YK (NM p F w (R.E4 G name kind).2) h.bx (Dx (h.aal name kind))
theorem eB(a b r t e:Int)(h:¬R.GA ⟨a,b,r,t,e⟩)(w:Aa):D7 45 #[Ec a b r t e] w DI (DY w):=by
 by_cases j:1<=a/\a<=3
 .have⟨d,n⟩:=j;by_cases k:1<=b/\b<=3
  .have⟨f,o⟩:=k;by_cases l:1<=r/\r<=8
   .have⟨g,p⟩:=l;by_cases m:1<=t/\t<=6
    .have⟨i,s⟩:=m;have F:¬(1<=e/\e<=9):=λq=>h ⟨⟨d,n⟩,⟨f,o⟩,⟨g,p⟩,⟨i,s⟩,q⟩
     clear h;rcases(show e<1\/(1<=e/\9<e) by omega) with D|⟨D,E⟩;all_goals
      try have c:¬e<=9:=U
      exact pA
    .clear h;rcases(show t<1\/(1<=t/\6<t) by omega) with B|⟨B,C⟩;all_goals
      try have c:¬t<=6:=U
      exact pA
   .clear h;rcases(show r<1\/(1<=r/\8<r) by omega) with z|⟨z,A⟩;all_goals
     try have c:¬r<=8:=U
     exact pA
  .clear h;rcases(show b<1\/(1<=b/\3<b) by omega) with x|⟨x,y⟩;all_goals
    try have c:¬b<=3:=U
    exact pA
 .clear h;rcases(show a<1\/(1<=a/\3<a) by omega) with u|⟨u,v⟩;all_goals
   try have c:¬a<=3:=U
   exact pA
theorem ado(a b r t e:Int)(h:¬R.GA ⟨a,b,r,t,e⟩)(w:Aa):D7 24 #[Ec a b r t e] w (.tuple #[.pointer none,Z 8]) (DY w):=by
 obtain⟨W,f⟩:∃W,w.alloc (.cells #[Z a,Z b,Z r,Z t,Z e] 23)=W:=DK;have i:DY w W:=by rw[<-f];exact F9
 have⟨j,k,g⟩:=Ll (eB a b r t e h W) f i;clear h f i
 delta D7
 go_in
 go_wp2_with fail
 rw[Dw k];refine cm j λl c=>?_
 have d:=Dx (g.trans (c.mono g.size));clear c;go_wp2_with fail
 go_returns;exact⟨I,d⟩
theorem RM.qP(h:RM x v F G w){o:List Int}(hz:v.zc[i]?=z)(D:v.C.ownBlock=gC)(hk:DF (λk=>k=gC\/z.2.bv.ownBlock=k) w w')(hC:w'.ownsRow 0 189 3 v.C v.zc (tab bD (v.zc.set i ({z.1 with d:=o},{z.2 with bv:=K}))))(hr:w'.ownsRow 0 3 1 K o (GK o))(hK:∀j,K.ownBlock=some j->z.2.bv.ownBlock=j\/w<=j):∃v' F',RM x v' F' {G with b:=(v.zc.set i ({z.1 with d:=o},{z.2 with bv:=K})).map (·.1)} w'/\D8 F F' w w':=by
 have⟨f1,f2,f3⟩:=h.A;have al:=GG hz;have⟨aa,Q⟩:=J3 h.cl D;have X:∀k,(k=gC\/z.2.bv.ownBlock=some k)->F k:=λk hk=>by
  rcases hk with rfl|hk
  .exact h.rows k (Am (Am (Am (Am D))))
  .exact((h.b i z hz).2 k hk).1
 have C:∀{b:Nat} {ys:Array Value} {t:Ag},Dy w b ys t->t≠189->t≠3->¬(b=gC\/z.2.bv.ownBlock=some b):=λf O h2 e=>by
  rcases e with rfl|e
  .exact ES f Q O I
  .exact Fg (h.d i z hz) f (λq=>h2 q.symm) e
 have nr:∀{n size:Nat} {e:Ag} {M:Ad} {xs:Ae},w.ownsRow 0 e size M n xs->e≠189->e≠3->∀j,M.ownBlock=some j->¬(j=gC\/z.2.bv.ownBlock=some j):=λhr O h2 j E=>by
  grind [J3]
 have nI:∀{b:Nat} {ys:Array Value},Dy w b ys 3->z.2.bv.ownBlock≠some b->¬(b=gC\/z.2.bv.ownBlock=some b):=λf O e=>by
  grind
 have nL:¬(v.L=gC\/z.2.bv.ownBlock=some v.L):=nI h.C (λe=>((h.b i z hz).2 v.L e).2.1 I);have nS:∀j,v.S.ownBlock=some j->¬(j=gC\/z.2.bv.ownBlock=some j):=λj E=>by
  have⟨s,hc⟩:=J3 h.f E;exact nI hc (λe=>((h.b i z hz).2 j e).2.2 E)
 have g:∀(j:Nat) (y:R.Cl×CE),(v.zc.set i ({z.1 with d:=o},{z.2 with bv:=K}))[j]?=some y->(i=j/\y=({z.1 with d:=o},{z.2 with bv:=K}))\/(i≠j/\v.zc[j]?=some y):=λj y c=>by
  grind
 refine⟨{v with zc:=v.zc.set i ({z.1 with d:=o},{z.2 with bv:=K})},λk=>F k\/K.ownBlock=some k,⟨hk.at h.bx (C h.bx Em Em),hk.row h.e (nr h.e Em Em),hk.row h.f nS,h.zs,hk.row h.a (nr h.a Em Em),h.c.keep hk (λf q=>C f (by rcases q with rfl|rfl|rfl<;>decide) (by rcases q with rfl|rfl|rfl<;>decide)) (λ_ q=>Aj q),hk.row h.X (nr h.X Em Em),I,by rw[BG];exact hC,λj y c=>?_,λj y c=>?_,hk.at h.C nL,hk.at h.J (C h.J Em Em),⟨Aj f1,Aj f2,Aj f3⟩,λj E=>Aj (h.rows j E),λj y c=>?_,h.sL,λa b y L c H P=>?_,λk u=>?_⟩,⟨hk.mono (λk _ u=>X k u),λk u=>?_⟩⟩
 .rcases g j y c with ⟨_,e⟩|⟨B,c⟩
  .rw[e];exact hr
  .refine hk.row (h.d j y c) (λb f=>?_);have⟨s,hc⟩:=J3 (h.d j y c) f;exact nI hc (λe=>(h.inj i j z y hz c B).2 b e f)
 .rcases g j y c with ⟨_,e⟩|⟨B,c⟩
  .rw[e];have⟨zl,l1,l2,l3⟩:=h.ln i z hz;exact⟨zl,l1,hk.at l2 (C l2 Em Em),λy c=>(l3 y c).keep hk (λb s _ f=>C f Em Em) (λ_ q=>Aj q)⟩
  .have⟨zl,l1,l2,l3⟩:=h.ln j y c;exact⟨zl,l1,hk.at l2 (C l2 Em Em),λy c=>(l3 y c).keep hk (λb s _ f=>C f Em Em) (λ_ q=>Aj q)⟩
 .rcases g j y c with ⟨_,e⟩|⟨B,c⟩
  .rw[e];refine⟨Aj (h.b i z hz).1,λb f=>⟨Am f,?_⟩⟩;rcases hK b f with q|q
   .exact((h.b i z hz).2 b q).2
   .refine⟨λe=>?_,λe=>?_⟩
    .have e':b=v.L:=e;have:=h.lt v.L f2;omega
    .have:=h.lt b (h.rows b (Am (Aj e)));omega
  .exact⟨Aj (h.b j y c).1,λb f=>⟨Aj ((h.b j y c).2 b f).1,((h.b j y c).2 b f).2⟩⟩
 .have key:∀(p q:Nat) (yp N:R.Cl×CE),v.zc[p]?=some yp->v.zc[q]?=some N->p≠q->∀k,K.ownBlock=some k->p=i->N.2.bv.ownBlock≠some k:=λp q yp N hp hq W k l T e=>by
   subst T;rcases hK k l with r|r
   .obtain rfl:=Option.some.inj (hz.symm.trans hp);exact(h.inj p q z N hz hq W).2 k r e
   .have:=h.lt k ((h.b q N hq).2 k e).1;omega
  rcases g a y c with ⟨ea,e1⟩|⟨S,J⟩
  .rcases g b L H with ⟨eb,e2⟩|⟨A,m⟩
   .omega
   .rw[e1];exact⟨(h.inj i b z L hz m A).1,λk l=>key i b z L hz m A k l I⟩
  .rcases g b L H with ⟨eb,e2⟩|⟨A,m⟩
   .rw[e2];refine⟨(h.inj a i y z J hz (λe=>S e.symm)).1,λk l e=>?_⟩
    grind
   .exact h.inj a b y L J m P
 .rcases u with u|u
  .exact Ai (h.lt k u) hk.size
  grind [J3]
 grind
theorem RM.bind(h:RM x v F G w)(hz:v.zc[i]?=z)(hC:v.C=EJ gC v.zc capC)(E:DY w W)(J:W.grownBy wz z.2.bv.ownBlock)(g:wz.ownsRow 0 3 1 K (z.1.d+1) (GK z.1.d++[Z u]))(D:K.ownBlock=z.2.bv.ownBlock\/K.ownBlock=j0)(N:w<=j0):wz.heap[gC]?=w.heap[gC]?/\wz.heap[x]?=w.heap[x]?/\∃Q A,RM x Q A {G with b:=G.b.modify i λc=>{c with d:=c.d++[u]}} (wz.setCell (Y gC (i*3+1)) K)/\D8 F A w (wz.setCell (Y gC (i*3+1)) K):=by
 have s:v.C.ownBlock=some gC:=by rw[hC];rfl
 have⟨T,f⟩:=J3 h.cl s;have hl:=(AB.1 f).1;have M:=(Kd h.bx (h.d i z hz) Em E J).trans h.bx.symm;have l:=(Kd f (h.d i z hz) Em E J).trans f.symm;have a:wz.ownsRow 0 189 3 v.C v.zc.length (tab bD v.zc):=by
  have C:=h.cl;rw[hC]at C ⊢;refine⟨C.1,?_⟩;rcases C.2 with ⟨e,_⟩|⟨g',S,B,hv,H,L,r⟩
  .cases e
  .cases hv;exact Am ⟨gC,capC,B,I,H,l.trans L,r⟩
 have y:(wz.setCell (Y gC (i*3+1)) K).ownsRow 0 189 3 v.C v.zc.length (tab bD (v.zc.set i ({z.1 with d:=z.1.d++[u]},{z.2 with bv:=K}))):=by
  rw[hC]at a ⊢;exact Qr P5 a hz (j:=1) U (u:=K) I
 have P:=DF.setCell (F:=λk=>k=gC) (DF.refl _ wz) (p:=(Y gC (i*3+1))) (Aj I) K;have O:DF (λk=>k=gC\/z.2.bv.ownBlock=some k) w (wz.setCell (Y gC (i*3+1)) K):=by
  have h1:DF (λk=>k=gC\/z.2.bv.ownBlock=some k) w W:=DF.J E _;exact(h1.grown J (λk hk=>Aj (Am hk))).setCell (p:=(Y gC (i*3+1))) (Aj (Aj I)) K
 have n:(wz.setCell (Y gC (i*3+1)) K).ownsRow 0 3 1 K (z.1.d++[u]).length (GK (z.1.d++[u])):=by
  have e:GK (z.1.d++[u])=GK z.1.d++[Z u]:=by simp[GK]
  rw[e,AJ];exact P.row g (λj N e=>Fg g (l.trans f) Em (e ▸ N))
 have⟨Q,A,X,r2⟩:=h.qP hz s O y n (λj m=>by
  rcases D with q|q
  .exact Aj (q ▸ m)
  .rw[q]at m;cases m;exact Am N)
 refine⟨l,M,Q,A,?_,r2⟩;have o:G.b[i]?=some z.1:=by rw[<-h.zc,BP,hz];rfl
 have e:(v.zc.set i ({z.1 with d:=z.1.d++[u]},{z.2 with bv:=K})).map (·.1)=G.b.modify i λc=>{c with d:=c.d++[u]}:=by
  rw[C4,h.zc];apply BF;intro j;rw[Df,Bf];have hi:=GG o;by_cases t:i=j
  .subst t;rw[Ay I,Ay hi,o];simp
  .simp[t]
 rw[e]at X;exact X
theorem ZY(x9:EB w x 9 (.slice a n cap))(h:cl<0\/n<=cl):D7 126 #[Ey x,Z cl,.string S] w (.tuple #[Z 0,Z 0,Z 13]) λb=>b=w:=by
 have e:=Gv x9;by_cases c:cl<0
 .delta D7
  go_in
  go_wp2;go_returns;exact DN
 .have d:(n:Int)<=cl:=U
  delta D7
  go_in
  go_wp2;go_returns;exact DN
theorem nW(x9:EB w x 9 (.slice a n cap))(d:¬cl<0)(e:¬n<=cl)(b:Hid (D7 189 #[Ey x,.string S] w (Z (-1)) λc=>c=w)):D7 126 #[Ey x,Z cl,.string S] w (.tuple #[Z 0,Z 0,Z 10]) λc=>c=w:=by
 have f:=Gv x9
 delta D7
 go_in
 go_wp2_with (go_at_call 189;refine cs b ?_)
 go_returns;exact DN
theorem zY(F:D9)(h:RM x v F G w){u:Nat}{name:Ac}(hi:i<G.b)(ah:Jv G.e name=k)(aw:G.e.length<=6)(L:G.f[k]?=some ((u:Int)+1))(hs:G.a[u]?=s)(be:G.a.length<=255)(ad:∀c,G.b[i]?=some c->c.d.length<=9000000000000):
  D7 126 #[Ey x,Z i,.string (str name)] w (.tuple #[Z (u+1),Z s.J,Z 0]) λw'=>∃M t,RM x M t {G with b:=G.b.modify i λc=>{c with d:=c.d++[(u:Int)+1]}} w'/\D8 F t w w':=by
 have g:=Dx (h.entry aw name);rw[ah]at g;obtain⟨c,hc⟩:∃c,G.b[i]?=some c:=⟨_,Ah hi⟩;have⟨z,hz,aq⟩:=K4 h.zc hc;have E:=aq;have hzl:v.zc.length=G.b.length:=by rw[<-h.zc,AX]
 have b2:v.zs.length=G.a.length:=by rw[<-h.zs,AX]
 have⟨l,A,hC,aV,m,S⟩:=Jx P5 U h.cl hz;have⟨gS,cS,hS,cu,_,_⟩:=h.Qv L 0;have⟨zs,ar,H⟩:=K4 h.zs hs;have⟨p,j,hV,b1,e,_⟩:=Jx MD U h.a ar;have⟨P,cb,hB⟩:=Fa (h.d i z hz);have ae:=ad c hc;rw[<-E]at ae;have Q:w.cell? (Y l (i*3+1))=some (.slice P z.1.d.length cb):=by
  have:=m 1 z.2.bv U I;rw[hB]at this;exact this
 have x6:w.cell? (Y x 6)=some (EJ gS G.f.length cS):=ED h.bx 6 _ (by rw[<-hS];rfl);have x9:w.cell? (Y x 9)=some (EJ l v.zc.length A):=ED h.bx 9 _ (by rw[<-hC];rfl);have x7:w.cell? (Y x 7)=some (EJ p v.zs.length j):=ED h.bx 7 _ (by rw[<-hV];rfl);have vk:w.cell? (Y p (u*3))=some (Z s.J):=by
  have:=e 0 (Z zs.1.J) U I;rw[show zs.1=s from H]at this;exact this
 have bf:=GG hs;have ba:=GG L;obtain⟨q0,q1,q2,p0,p1,p2,p3,r0,r1⟩:0<=(k:Int)/\(k:Int)<(G.f.length:Int)/\¬(k:Int)<0/\0<=(i:Int)/\(i:Int)<(v.zc.length:Int)/\¬(i:Int)<0/\¬(v.zc.length:Int)<=(i:Int)/\0<=(u:Int)/\(u:Int)<(v.zs.length:Int):=U;have e1:IntKind.i64.wrap ((u:Int)+1-1)=(u:Int):=Iz;have e2:IntKind.i64.wrap (u:Int)=u:=Iz;have ao:=S (i*3+1);have⟨hx,b9⟩:=KM x9 cu;have⟨iI,am,T,W,X⟩:=A1 Xk;have a:=h.d i z hz;rw[hB]at a;have O:=Dx a;have ak:=J3 h.cl (by rw[hC];rfl);have al:=J3 h.a (by rw[hV];rfl);have⟨aN,J⟩:=ak;have⟨aS,r⟩:=al;have C:=ES J h.bx Em;have D:l≠p:=ES J r Em;have N:Hid (∀(f:Aa) (K:Ad),(w.drew.alloc (.cells #[Z ((u:Int)+1)] 3)).grownBy f (Value.slice P z.1.d.length cb).ownBlock->f.ownsRow 0 3 1 K (z.1.d.length+1) (GK z.1.d++[Z ((u:Int)+1)])->(K.ownBlock=(Value.slice P z.1.d.length cb).ownBlock\/K.ownBlock=some (w.heap.size+1))->f.cell? (Y l (i*3+1))=some (.slice P z.1.d.length cb)/\DJ f l (i*3+1)/\f.cell? (Y x 9)=some (EJ l v.zc.length A)/\(f.setCell (Y l (i*3+1)) K).cell? (Y x 7)=some (EJ p v.zs.length j)/\(f.setCell (Y l (i*3+1)) K).cell? (Y p (u*3))=some (Z s.J)/\∃M t,RM x M t {G with b:=G.b.modify i λc=>{c with d:=c.d++[(u:Int)+1]}} (f.setCell (Y l (i*3+1)) K)/\D8 F t w (f.setCell (Y l (i*3+1)) K)):=λf K hg ho q=>by
  have ac:DY w (w.drew.alloc (.cells #[Z ((u:Int)+1)] 3)):=(AA w.heap.size w).drew.alloc Ev _;have⟨t1,t2,t3⟩:=h.bind hz hC ac (by rw[hB];exact hg) ho (by rw[hB];exact q) U;have av:(w.drew.alloc (.cells #[Z ((u:Int)+1)] 3)).grownBy f z.2.bv.ownBlock:=by rw[hB];exact hg
  have t4:f.heap[p]?=w.heap[p]?:=(Kd r (h.d i z hz) Em ac av).trans r.symm;refine⟨(AR t1).trans Q,(A8 t1).trans ao,(AR t2).trans x9,?_,?_,t3⟩
  .rw[World.cell?_setCell_far _ _ _ _ C];exact(AR t2).trans x7
  .rw[World.cell?_setCell_far _ _ _ _ D];exact(AR t4).trans vk
 clear h ah hc aq E hC m S hS e hV hB a L hs ad J r C D hz ar H;generalize GK z.1.d=RB at *;generalize z.1.d.length=nb at *
 delta D7
 go_in
 go_wp2_with (go_at_call 189;refine cm g λw1 an=>?_;rw[an];clear an g)
 go_region_law (first
  |(refine FM rfl (.tmp 46) (.tmp 48) 29 rfl 0 3 iI (Z 0) 1 8 underlying29 am T W X rfl Em (.slice P nb cb) nb RB rfl (by exact(ER O (AA _ _).drew).alloc _) (EN w 0) 1 1 [Z ((u:Int)+1)] rfl rfl (by exact LH w.drew 3 [Z ((u:Int)+1)]) Vd JG U U ?_;intro M f o n q;have⟨va,vn,vc,az⟩:=Ei o;subst az;have⟨g1,gz,g9,s7,sv,B⟩:=N _ _ n o (by simpa [Value.ownBlock] using q);have y:=Dx B;clear o n q B))
 all_goals
  obtain⟨W5,aa⟩:∃W5,f.setCell (Y l (i*3+1)) (.slice va vn vc)=W5:=DK;rw[aa]at s7 sv y ⊢;clear aa g1 gz g9 x6 x7 x9 Q vk cu ao O N am T W X;have⟨bi,bg⟩:=KM s7 sv;go_wp2_with fail
  go_region_held3 (λw'=>w'.cell? (Y x 7)=some (EJ p v.zs.length j)/\w'.cell? (Y p (u*3))=some (Z s.J)) (go_keep) (fail)
  go_wp2;go_returns;have⟨M,t,m1,m2⟩:=Dw y;exact⟨I,M,t,m1.h (AA _ _).drew,m2.trans (D8.J t (AA _ _).drew)⟩
theorem RW.imports(h:RW x v F G w)cl(name:Ac)(p:∀c∈G.b,c.d.length<=9000000000000):D7 126 #[Ey x,Z cl,.string (str name)] w (.tuple #[Z (R.FV G cl name).1.1,Z (R.FV G cl name).1.2.1,Z (R.FV G cl name).1.2.2]) λy=>∃t l,RW x t l (R.FV G cl name).2 y/\D8 F l w y:=by
 have m:=h.mem;have d:=h.wf;have b:=d.imports cl name;have f:=d.nm;have⟨a,cap,hC⟩:=Fa h.cl;have j:v.zc.length=G.b.length:=by rw[<-h.zc,AX]
 rw[j]at hC;have x9:EB w x 9 (.slice a G.b.length cap):=ED h.bx 9 _ (by rw[<-hC];rfl);unfold R.FV at b ⊢;by_cases n:cl<0\/(G.b.length:Int)<=cl
 .rw[Ay n];refine cs (ZY x9 n) ?_
  grind [D8.refl]
 .rw[Ao n]at b ⊢;cases he:R.Gi G name with
  |none=>
   have o:Jv G.e name=-1:=by rw[m.Gi,he]
   have e:=m.entry f name;rw[o]at e;refine cs (nW x9 U U (Dx e)) ?_
   grind [D8.refl]
  |some k=>
   have o:Jv G.e name=(k:Int):=by rw[m.Gi,he]
   simp only[he]at b ⊢;have q:=(Bi.1 (R.Jp he)).1;have B:k<G.f.length:=by rw[d.st];exact q
   have g:G.f[k]?=some (G.f.getD k 0):=by grind
   have r:=d.d _ (Ap g);obtain⟨i,rfl⟩:∃i:Nat,cl=(i:Int):=⟨cl.toNat,U⟩;obtain⟨u,hu⟩:∃u:Nat,G.f.getD k 0=(u:Int)+1:=⟨(G.f.getD k 0-1).toNat,U⟩;rw[hu]at g r b ⊢;obtain⟨s,z⟩:∃s,G.a[u]?=some s:=⟨_,Ah U⟩;have A:((u:Int)+1-1).toNat=u:=U;simp only[A,z,Ce,Bw,AY]at b ⊢;refine cm (zY F m U o f g z d.sv (λc hc=>p c (Ap hc))) ?_;rintro y ⟨t,l,C,D⟩;exact⟨I,t,l,C.whole b h.g,D⟩
theorem Xr{t:Tw}(h:Ii N t w)(hk:o.J=8)(_hs:o.s.length<=1000000000000000)(_hN:N<=9000000000000):
  D7 73 #[t.val,o.val] w DC λr=>KA (N+1) t (R.E4 t.G o.s o.a).2 w r:=by
 obtain⟨m,c,d,b,k,e⟩:=Jc h o;have j:=Dx c;have p:=Dv b.t;have q:=Dv b.o;have c0:=EI b.t 0;have u:(o.J==8)=true:=by rw[hk];rfl
 obtain⟨d2,s⟩:=VL b.o 2 6;have l:Hid (D7 48 #[ptr t.p.x,.string (str o.s),Z o.a] m (.tuple #[Z (R.E4 t.G o.s o.a).1.1,Z (R.E4 t.G o.s o.a).1.2]) λg=>Mid N t (R.E4 t.G o.s o.a).2 m g):=by
  refine cm (k.l.export o.s o.a) λg a=>?_
  exact⟨I,k.mid a⟩
 clear h c hk;obtain⟨n,i⟩:=FU b d;clear b d
 delta D7
 go_in
 go_wp2_with fail
 rw[Dw j];refine cm l λg a=>?_
 have f:=n.stays a e;have l1:=Dv f.t;have l2:=Dv f.o;have e1:=EI f.t 1;obtain⟨e2,e6⟩:=VL f.o 2 6;have H2:Hid (D7 123 #[Ey t.x,.string (str o.s),Z o.a] g (.tuple #[Z (R.E4 t.G o.s o.a).1.1,Z (R.E4 t.G o.s o.a).1.2]) λw3=>KA (N+1) t (R.E4 t.G o.s o.a).2 w w3):=by
  refine cm (a.r.export o.s o.a) λw3 h3=>?_
  exact⟨I,KA.ahead i (a.done h3 ((Bd.export a.a.bd _ _).le U))⟩
 clear a f l k c0;exact yd
theorem Un{t:Tw}(h:Ii N t w)(hk:o.J=9)(_hs:o.s.length<=1000000000000000)(_hN:N<=9000000000000):
  D7 73 #[t.val,o.val] w DC λr=>KA (N+1) t (R.Fb t.G o.s).2 w r:=by
 have⟨m,c,d,b,k,e⟩:=Jc h o;have j:=Dx c;have p:=Dv b.t;have q:=Dv b.o;have c0:=EI b.t 0;have u:(o.J==8)=false:=by rw[hk];rfl
 have v:(o.J==9)=true:=by rw[hk];rfl
 have s:=EI b.o 6;have l:Hid (D7 124 #[ptr t.p.x,.string (str o.s)] m (Z (R.Fb t.G o.s).1) λg=>Mid N t (R.Fb t.G o.s).2 m g):=by
  refine cm (k.l.Iy o.s JG) λg a=>?_
  exact⟨I,k.mid a⟩
 clear h c hk;have⟨n,i⟩:=FU b d;clear b d
 delta D7
 go_in
 go_wp2_with fail
 rw[Dw j];refine cm l λg a=>?_
 have f:=n.stays a e;have l1:=Dv f.t;have l2:=Dv f.o;have e1:=EI f.t 1;have e6:=EI f.o 6;have H2:Hid (D7 125 #[Ey t.x,.string (str o.s)] g (Z (R.Fb t.G o.s).1) λw3=>KA (N+1) t (R.Fb t.G o.s).2 w w3):=by
  refine cm (a.r.Iy o.s) λw3 h3=>?_
  exact⟨I,KA.ahead i (a.done h3 ((Bd.Iy a.a.bd _).le U))⟩
 clear a f l k c0;exact yd
theorem Xt{t:Tw}(h:Ii N t w)(hk:o.J=10)(r:o.s.length<=1000000000000000)(q:N<=9000000000000):
  D7 73 #[t.val,o.val] w DC λv=>KA (N+1) t (R.FV t.G o.a o.s).2 w v:=by
 obtain⟨n,d,e,b,l,f⟩:=Jc h o;have k:=Dx d;have s:=Dv b.t;have u:=Dv b.o;have c0:=EI b.t 0;have y:(o.J==8)=false:=by rw[hk];rfl
 have z:(o.J==9)=false:=by rw[hk];rfl
 obtain⟨d2,x⟩:=VL b.o 2 6;have m:Hid (D7 50 #[ptr t.p.x,Z o.a,.string (str o.s)] n (.tuple #[Z (R.FV t.G o.a o.s).1.1,Z (R.FV t.G o.a o.s).1.2.1,Z (R.FV t.G o.a o.s).1.2.2]) λi=>Mid N t (R.FV t.G o.a o.s).2 n i):=by
  refine cm (l.l.imports o.a o.s r) λi a=>?_
  exact⟨I,l.tH a.1 a.2⟩
 clear h d hk;obtain⟨p,j⟩:=FU b e;clear b e
 delta D7
 go_in
 go_wp2_with fail
 rw[Dw k];refine cm m λi a=>?_
 have g:=p.stays a f;have l1:=Dv g.t;have l2:=Dv g.o;have e1:=EI g.t 1;obtain⟨e2,e6⟩:=VL g.o 2 6;have H2:Hid (D7 126 #[Ey t.x,Z o.a,.string (str o.s)] i (.tuple #[Z (R.FV t.G o.a o.s).1.1,Z (R.FV t.G o.a o.s).1.2.1,Z (R.FV t.G o.a o.s).1.2.2]) λw3=>KA (N+1) t (R.FV t.G o.a o.s).2 w w3):=by
  refine cm (a.r.imports o.a o.s (λc hc=>Br (a.a.bd.b c hc) q)) λw3 h3=>?_
  exact⟨I,KA.ahead j (a.done h3 (Bd.import a.a.bd _ _))⟩
 clear a g m l c0;exact yd
theorem TI.facts(h:TI x F w G wr):(∃a cap,EB wr x 9 (.slice a G.b cap))/\EB wr x 1 (Z G.c.a):=by
 have⟨v,d,c,_⟩:=h;have⟨a,cap,hC⟩:=Fa c.cl;have b:v.zc.length=G.b.length:=by rw[<-c.zc,AX]
 rw[b]at hC;exact⟨⟨a,cap,ED c.bx 9 _ (by rw[<-hC];rfl)⟩,EI c.bx 1⟩
theorem gJ(w:Aa)(x:Nat)(F:D9)(G:R.Wd)(N p:Nat)(hN:G.b=N)(K:G.c.a=p)(bS:N<=3)(bg:p<=3)(h:TI x F w G w):
  D7 75 #[Ey x] w Ep λS=>TI x F w (NT (II G N) 9) S:=by
 have H0:=Dx h;have an:Hid (∀(i k:Nat) (wr:Aa),TI x F w (Jo (II G i) i k) wr->i<N->k<p->∃g cap lb l,iY x F w (Jo (II G i) i k) i k wr g cap lb N p l):=λi k wr c hi hk=>vh c (by rw[Rn,Wt,hN]) (by rw[Qz,Te];exact K) hi hk
 have O:Hid (∀(i k:Nat) (wr:Aa),TI x F w (Jo (II G i) i k) wr->(∃a cap,wr.cell? (Y x 9)=some (.slice a N cap))/\wr.cell? (Y x 1)=some (Z p)):=λi k wr c=>by
  have:=c.facts;rw[Rn,Wt,hN,Qz,Te,K]at this;exact this
 have ao:Hid (∀(j:Nat) (wr:Aa),TI x F w (NT (II G N) j) wr->j<9->∃sn r,qe x F w (NT (II G N) j) j wr sn r):=λj wr c hj=>oO c hj
 have ar:Hid (∀(j:Nat) (wr:Aa),TI x F w (NT (II G N) j) wr->∃sn,wr.cell? (Y x 11)=some (EJ sn 9 9)):=λj wr c=>by
  have⟨v,F',hR,_⟩:=c;exact⟨v.Sn,EI hR.bx 11⟩
 have f:Hid (∀(j:Nat) (wr:Aa),TI x F w (R.EH (NT (II G N) j) j) wr->TI x F w (NT (II G N) (j+1)) wr):=λj wr c=>by
  rw[iz];exact c
 have y:Hid (∀(i k:Nat) (wr:Aa),TI x F w (R.EM (Jo (II G i) i k) i k) wr->TI x F w (Jo (II G i) i (k+1)) wr):=λi k wr c=>by
  rw[Me];exact c
 have aq:Hid (∀(i:Nat) (wr:Aa),TI x F w (Jo (II G i) i p) wr->TI x F w (Jo (II G (i+1)) (i+1) 0) wr):=λi wr c=>by
  have e:(II G i).c.a.toNat=p:=by rw[Te,K];omega
  show TI x F w (II G (i+1)) wr;rw[NJ,e];exact c
 clear h hN K;have⟨⟨a0,be,y9⟩,y1⟩:=O 0 0 w (Dw H0)
 delta D7
 go_in
 go_wp2_with fail
 go_loopw [2] (λiv wr=>∃i:Nat,i<=N/\iv=Z i/\TI x F w (Jo (II G i) i 0) wr) (λiv _=>N-(intOf iv).toNat)
 case atStart=>exact⟨0,AV _,I,H0⟩
 case round=>
  obtain⟨i,hi,rfl,hT⟩:=hrel;have⟨⟨a1,bf,z9⟩,z1⟩:=O i 0 _ hT;have hx:=Gv z9;by_cases aV:i<N
  .have HT:=Dx hT;clear hT y9 y1;go_wp2_with fail
   go_loopw [3] (λkv wr=>∃k:Nat,k<=p/\kv=Z k/\TI x F w (Jo (II G i) i k) wr) (λkv _=>p-(intOf kv).toNat)
   case atStart=>exact⟨0,AV _,I,HT⟩
   case round=>
    obtain⟨k,hk,rfl,z⟩:=hrel;clear z9 z1;by_cases aS:k<p
    .have⟨g,cap,lb,l,hR⟩:=an i k _ z aV aS;have⟨x1,x2,x9,c2,hL,hz,C,bW,r1,r2,r3,r4,r5⟩:=hR;have⟨q,s,t,u,R5⟩:=Eo r1 r2 r3 r4 r5;have⟨l0,l1,l2,l3,l4,l5,l6,l7,l8,l9,l10⟩:=hL;have c8:=hz (k*11+1);have ca:=hz (k*11+9);have bp:=hz (k*11+10);have⟨c7,bT,bU⟩:=Va x9 c2 l0;obtain⟨q0,q1,q2,q3⟩:0<=(i:Int)/\(i:Int)<N/\0<=(k:Int)/\(k:Int)<p:=U;clear z hz r1 r2 r3 r4 r5 l2 l4 l7 l8;by_cases W:l.d=1
     .have⟨o1,o2,o3,o4,o5,o6⟩:=C.one W;have ew:IntKind.i64.wrap (l.C-1)=l.C-1:=Iz;have et:IntKind.i64.wrap (l.e-1)=l.e-1:=Iz;by_cases M:1<l.C
      .have HE:=Dx (y i k _ (s W M));have b2:0<l.C-1:=U;clear q s t u R5 C;exact xq
      .have b2:¬0<l.C-1:=U;by_cases c:l.e=0
       .have HE:=Dx (y i k _ (t W M c));clear q s t u R5 C;exact xq
       .have ac:=Dw u;have ad:=Dw R5;have e8:IntKind.i64.wrap (8*l.X)=8*l.X:=by
         have:=o4.2;unfold R.DL at this;rw[BS];omega
        have bV:((str l.b).size:Int)=(l.b.length:Int):=by rw[Er]
        have bX:(l.e==0)=false:=by simpa using c
        have⟨E,H⟩:=FU (ac W M c) (ad W M c);clear q s t u R5 ac ad C;generalize (Jo (II G i) i k).c.c=rt at *;obtain⟨J,m⟩:∃J,((wr.setCell (Y lb (k*11+9)) (Z (l.C-1))).setCell (Y lb (k*11+10)) (Z (l.e-1))).setCell (Y lb (k*11+9)) (Z rt)=J:=DK;rw[m]at E H;have m5:J.cell? (Y lb (k*11+5))=some (.string (str l.b)):=by
         rw[<-m,Yt U,Yt U,Yt U];exact l5
        have m6:J.cell? (Y lb (k*11+6))=some (Z l.X):=by
         rw[<-m,Yt U,Yt U,Yt U];exact l6
        have ak:J.heap.size=wr.heap.size:=by rw[<-m];exact NH
        have⟨X,D⟩:=FU m ak;clear m ak;by_cases hm:8*l.X<(l.b.length:Int)
        .have L:=Dx (E hm);clear E H;go_wp2_with fail
         rw[Dw X];go_region_held3 (λS=>S.cell? (Y lb (k*11+6))=some (Z l.X)/\S.cell? (Y lb (k*11+5))=some (.string (str l.b))) (go_keep) (fail)
         go_wp2_with fail
         refine(L J.drew (by rw[<-Dw D];exact(AA _ _).drew)).mono ?_;rintro e w4 ⟨rfl,d⟩;have HE:=Dx (y i k _ d);clear d L;exact xq
        .have⟨bq,p1,p2⟩:=H hm;have⟨P1,P2⟩:=FU p1 p2;clear E H p1 p2;go_wp2_with fail
         rw[Dw X];go_region_held3 (λS=>S.cell? (Y lb (k*11+6))=some (Z l.X)/\S.cell? (Y lb (k*11+5))=some (.string (str l.b))) (go_keep) (fail)
         go_wp2_with fail
         have P:Below wr.heap.size J J.drew:=by rw[<-Dw D];exact(AA _ _).drew
         refine cm (P1 J.drew P) λw4 ah=>?_
         have B:=P.trans (ah.mono (by simp;rw[Dw D];exact Ar _));have aa:=Dx (λ(o:Obj)=>P2 (w4.alloc o) (B.alloc (by have:=B.size;rw[Dw D]at this;exact this) o));clear P1 P2 P ah B;go_wp2_with fail
         refine cm (aa _) λw5 d=>?_
         have HE:=Dx (y i k _ d);clear d aa;exact xq
     .have HE:=Dx (y i k _ (q W));clear q s t u R5 C;exact xq
    .obtain rfl:k=p:=U;have HE:=Dx (aq i _ z);have x1:=(O i k _ z).2;clear z;go_wp2_with fail
     exact aaN
  .obtain rfl:i=N:=U;have HT:=hT;clear hT y9 y1;go_wp2_with fail
   go_loopw [6] (λjv wq=>∃j:Nat,j<=9/\jv=Z j/\TI x F w (NT (II G i) j) wq) (λjv _=>9-(intOf jv).toNat)
   case atStart=>exact⟨0,U,I,HT⟩
   case round=>
    obtain⟨j,hj,rfl,A⟩:=hrel;by_cases aN:j<9
    .have⟨sn,r,⟨T,x2,Q,⟨s0,s1,s2,s3,s4,s5,s6,s7,s8,s9⟩,hz,b,q,s,t,u⟩⟩:=ao j _ A aN;have p0:0<=(j:Int):=U;have p1:(j:Int)<9:=U;have⟨am,bj⟩:=KM T s0;have z7:=hz (j*10+7);have z8:=hz (j*10+8);have z9:=hz (j*10+9);have n1:=Q;have n2:¬x=sn:=λe=>Q e.symm
     obtain⟨tm,al⟩:∃tm,r.g=tm:=DK;rw[al]at s7 b q s t u;clear A hz Q al;cases tm with
     |false=>
      have HE:=Dx (f j _ (q I));clear q s t u b;exact aaI
     |true=>
      have⟨⟨w1,w2⟩,t1,t2⟩:=b I;have ew:IntKind.i64.wrap (r.C-1)=r.C-1:=Iz;have et:IntKind.i64.wrap (r.e-1)=r.e-1:=Iz;by_cases M:1<r.C
      .have HE:=Dx (f j _ (s I M));have b1:0<r.C-1:=U;clear q s t u b;exact aaI
      .have b1:¬0<r.C-1:=U;by_cases n:r.e=0
       .have HE:=Dx (f j _ (t I M n));have az:(r.e==0)=true:=by simp[n]
        clear q s t u b n;exact aaI
       .have HR:=Dx (u I M n);have az:(r.e==0)=false:=by simp[n]
        clear q s t u b n;go_wp2_with fail
        refine cm HR λw5 d=>?_
        have HE:=Dx (f j _ d);clear d HR;exact aaI
    .obtain rfl:j=9:=U;have⟨sn,T⟩:=ar 9 _ A;have am:=Gv T;have av:=Dx A;clear A;go_wp2_with fail
     go_returns;exact⟨I,av⟩
theorem RW.tick(h:RW x v F G w):D7 75 #[Ey x] w Ep λd=>∃c a,RW x c a (R.Ni G) d/\D8 F a w d:=by
 have b:=h.wf.cf;have hn:=h.wf.a;unfold R.GA at b;refine cm (gJ w x F G G.b.length G.c.a.toNat I U U U ⟨v,F,h,D8.refl F w⟩) ?_;rintro d ⟨c,a,e,f⟩;exact⟨I,c,a,e,f⟩
theorem RM.aa5(h:RM x v F G w)(l:G.a[k]?=s):∃g cap a cl,EB w x 7 (EJ g G.a cap)/\EB w g (k*3+2) (.slice a s.log cl)/\Lg w F (.slice a s.log cl) s.log/\EB w g (k*3) (Z s.J):=by
 obtain⟨z,hz,rfl⟩:=K4 h.zs l;have hzl:v.zs.length=G.a.length:=by rw[<-h.zs,AX]
 have⟨g,cap,i,j,b,_⟩:=Jx MD U h.a hz;have c:=h.c.c z (Ap hz);have⟨f,e1,e2,e3⟩:=c.row;have⟨a,cl,e⟩:=Fa e2;have d:f.length=z.1.log.length:=by rw[<-e1,AX]
 rw[d]at e;refine⟨g,cap,a,cl,ED h.bx 7 _ (by rw[<-hzl,<-i];rfl),?_,?_,b 0 _ U I⟩
 .rw[<-e];exact b 2 _ U I
 .rw[<-e];exact c
theorem zZ(x7:EB w x 7 (.slice a n cap))(h:u<1\/n<u):D7 134 #[Ey x,Z u] w (.tuple #[Z 0,Z 9]) λb=>b=w:=by
 have e:=Gv x7;by_cases c:u<1
 .clear h;exact wW
 .have d:(n:Int)<u:=U;clear h;exact wW
theorem ve(w:Aa)(x n g cap k m cl:Nat)(a:Af)(x7:EB w x 7 (EJ g n cap))(hk:k<n)(hn:n<=255)(hc:EB w g (k*3+2) (.slice a m cl)):D7 134 #[Ey x,Z (k+1)] w (.tuple #[Z m,Z 0]) λb=>b=w:=by
 have⟨d,c⟩:=KM x7 hc;have e:¬(k:Int)+1<1:=U;have k2:¬(n:Int)<k+1:=U;have e1:IntKind.i64.wrap ((k:Int)+1-1)=(k:Int):=Iz;have e2:IntKind.i64.wrap (k:Int)=k:=Iz;have f:0<=(k:Int):=U;have h:(k:Int)<n:=U;exact wW
theorem RM.log(h:RM x v F G w)(f:G.a.length<=255)u:D7 134 #[Ey x,Z u] w (.tuple #[Z (R.MJ G u).1,Z (R.MJ G u).2]) λi=>i=w:=by
 have hzl:v.zs.length=G.a.length:=by rw[<-h.zs,AX]
 unfold R.MJ;by_cases b:R.LY G u
 .rw[Ay b];unfold R.LY at b;obtain⟨k,rfl⟩:∃k:Nat,u=(k:Int)+1:=⟨(u-1).toNat,U⟩;obtain⟨s,d⟩:∃s,G.a[k]?=some s:=⟨_,Ah U⟩;have⟨g,cap,a,cl,x7,hc,_,_⟩:=h.aa5 d;have e:R.Ol G ((k:Int)+1)=s.log:=by grind [R.Ol]
  grind [ve]
 .rw[Ao b];unfold R.LY at b;have⟨a,cap,c⟩:=Fa h.a;rw[hzl]at c;exact zZ (ED h.bx 7 _ (by rw[<-c];rfl)) U
abbrev aeD:Value:=.agg #[Z 0,Z 0,Z 0,Z 0,Z 0,.slice none 0 0,.slice none 0 0]
theorem Ta(w:Aa)(x n:Nat)(a:Af)(cap:Nat)(u k:Int)(hn:n<=255)(x7:EB w x 7 (.slice a n cap))(h:u<1\/(¬u<1/\n<u)\/(¬u<1/\¬n<u/\k<0)\/(∃(j g m cl:Nat) (b:Af),u=j+1/\j<n/\a=Y g 0/\EB w g (j*3+2) (.slice b m cl)/\¬k<0/\m<=k)):
  D7 135 #[Ey x,Z u,Z k] w (.tuple #[aeD,Z 9]) (DY w):=by
 have o:=Gv x7;rcases h with c|⟨c,d⟩|⟨c,d,e⟩|⟨j,g,m,cl,b,rfl,l,rfl,hc,e,f⟩
 .exact xu
 .exact xu
 .exact xu
 .have i:=Gv hc;have p:¬(j:Int)+1<1:=U;have k2:¬(n:Int)<j+1:=U;have e1:IntKind.i64.wrap ((j:Int)+1-1)=(j:Int):=Iz;have e2:IntKind.i64.wrap (j:Int)=j:=Iz;have q:0<=(j:Int):=U;have r:(j:Int)<n:=U;exact xu
theorem uW{cl l:Nat}{e:R.En}(hn:n<=255)(d:j<n)(f:q<m)(x7:EB w x 7 (EJ g n cap))(hc:EB w g (j*3+2) (EJ l m cl))
  (e0:EB w l (q*7) (Z e.f)) (e1:EB w l (q*7+1) (Z e.b)) (e2:EB w l (q*7+2) (Z e.H)) (e3:EB w l (q*7+3) (Z e.a)) (e4:EB w l (q*7+4) (Z e.g)) (e5:EB w l (q*7+5) (.slice aa an ac)) (e6:EB w l (q*7+6) (.slice ra rn rc)):
  D7 135 #[Ey x,Z (j+1),Z q] w (.tuple #[.agg #[Z e.f,Z e.b,Z e.H,Z e.a,Z e.g,.slice aa an ac,.slice ra rn rc],Z 0]) (DY w):=by
 have⟨h,c,hl⟩:=Va x7 hc e0;have i:¬(j:Int)+1<1:=U;have k2:¬(n:Int)<j+1:=U;have a:IntKind.i64.wrap ((j:Int)+1-1)=(j:Int):=Iz;have b:IntKind.i64.wrap (j:Int)=j:=Iz;obtain⟨k,o,p,r,s,t⟩:0<=(j:Int)/\(j:Int)<n/\¬(q:Int)<0/\¬(m:Int)<=q/\0<=(q:Int)/\(q:Int)<m:=U;exact xu
def Ee:R.En:=⟨0,0,0,0,0,[],[]⟩
abbrev aeE(e:R.En)(A B:Ad):Value:=.agg #[Z e.f,Z e.b,Z e.H,Z e.a,Z e.g,A,B]
theorem RM.acX(h:RM x v F G w)(A:G.a.length<=255)(u k:Int):∃d t f n B r,Gg w F (.slice d t f) ((R.Fq G u k).getD Ee).arg/\Gg w F (.slice n B r) ((R.Fq G u k).getD Ee).D/\∀b,DY w b->D7 135 #[Ey x,Z u,Z k] b (.tuple #[aeE ((R.Fq G u k).getD Ee) (.slice d t f) (.slice n B r),Z (if (R.Fq G u k).isSome then 0 else 9)]) (DY b):=by
 have hzl:v.zs.length=G.a.length:=by rw[<-h.zs,AX]
 have no:R.Fq G u k=none->(∀b,DY w b->D7 135 #[Ey x,Z u,Z k] b (.tuple #[aeD,Z 9]) (DY b))->_:=λD hc=>(by
  rw[D];exact⟨none,0,0,none,0,0,Gg.nil w F,Gg.nil w F,hc⟩:∃d t f n B r,Gg w F (.slice d t f) ((R.Fq G u k).getD Ee).arg/\Gg w F (.slice n B r) ((R.Fq G u k).getD Ee).D/\∀b,DY w b->D7 135 #[Ey x,Z u,Z k] b (.tuple #[aeE ((R.Fq G u k).getD Ee) (.slice d t f) (.slice n B r),Z (if (R.Fq G u k).isSome then 0 else 9)]) (DY b))
 have x7:∀b,DY w b->∃a cap,EB b x 7 (.slice a G.a.length cap):=λb c=>by
  have⟨a,cap,P⟩:=Fa h.a;rw[hzl]at P;exact⟨a,cap,ED (h.h c).bx 7 _ (by rw[<-P];rfl)⟩
 by_cases h1:u<1
 .grind [R.Fq,R.LY,Ta]
 by_cases h2:(G.a.length:Int)<u
 .grind [R.Fq,R.LY,Ta]
 by_cases X:k<0
 .grind [R.Fq,Ta]
 obtain⟨j,rfl⟩:∃j:Nat,u=(j:Int)+1:=⟨(u-1).toNat,U⟩;obtain⟨q,rfl⟩:∃q:Nat,k=(q:Int):=⟨k.toNat,U⟩;obtain⟨s,hs⟩:∃s,G.a[j]?=some s:=⟨_,Ah U⟩;have⟨g,cap,a,cl,C,hc,J,_⟩:=h.aa5 hs;have z:=Gv hc;have L:R.Fq G ((j:Int)+1) (q:Int)=s.log[q]?:=by grind [R.Fq,R.LY,R.Ol]
 by_cases O:q<s.log.length
 .have⟨S,N,T,W⟩:=J.row;obtain⟨e,D⟩:∃e,s.log[q]?=some e:=⟨_,Ah O⟩;obtain⟨y,Q,rfl⟩:=K4 N D;have⟨l,lc,E,K,m,_⟩:=Jx Pz U T Q;have H:S.length=s.log.length:=by rw[<-N,AX]
  rw[H]at E;cases E;have⟨i1,i2⟩:=W y (Ap Q);have⟨d,f,M,_⟩:=i1.J;have⟨n,r,er,_⟩:=i2.J;rw[L,D];refine⟨d,_,f,n,_,r,by rw[<-M];exact i1,by rw[<-er];exact i2,λb c=>?_⟩;have i:∀o v,o<7->(IQ y)[o]?=some v->EB b l (q*7+o) v:=λo v ho E=>(c.cell (p:=Y l _) K).trans (m o v ho E)
  have c5:=i 5 y.2.1 U I;have c6:=i 6 y.2.2 U I;rw[M]at c5;rw[er]at c6;exact uW A U O ((c.cell (p:=Y x 7) (Dv h.bx)).trans C) ((c.cell (p:=Y g _) z).trans hc) (i 0 _ U I) (i 1 _ U I) (i 2 _ U I) (i 3 _ U I) (i 4 _ U I) c5 c6
 .refine no (by rw[L];exact BM U) (λb c=>?_);exact Ta b x _ _ cap _ _ A ((c.cell (p:=Y x 7) (Dv h.bx)).trans C) (Am (Am (Am ⟨j,g,s.log.length,cl,a,I,U,I,(c.cell (p:=Y g _) z).trans hc,X,U⟩)))
namespace V
theorem kY(w0 w:Aa)(b:Nat)(L:List Kp)(lv K O:Ad)(v:List It)(hBk:Bo b L lv K w)(hb0:DY w0 w)(hR:w.ownsRow w0 73 2 O v (flat v))(hL:L.length<=1000000000000)(hv:v.length<=100000)
  (c:∀j,O.ownBlock=some j->¬OY b L K j):
  D7 117 #[.pointer (Y b 1),O] w Ep λd=>∃a k,Bo b (L++[k]) lv a d/\D8 (λj=>OY b L K j\/O.ownBlock=j) (OY b (L++[k]) a) w d:=by
 exact aff
end V
theorem eZ{t:Tw}(h:Ii N t w)(hk:o.J=21):
  D7 77 #[ptr b,t.val,o.val] w DC λu=>KA N t t.G w u:=by
 have⟨n,d,e,c,l,f⟩:=Jc h o;have k:=Dx d;have r:=Dv c.t;have s:=Dv c.o;have c0:=EI c.t 0;have q:(o.J==21)=true:=by rw[hk];rfl
 have d2:=EI c.o 2;have m:Hid (D7 9 #[ptr t.p.x,Z o.a] n (.tuple #[Z (R.MJ t.G o.a).1,Z (R.MJ t.G o.a).2]) λi=>Mid N t (t.G) n i):=by
  refine cm (l.l.log o.a) λi a=>?_
  exact⟨I,l.adh a⟩
 clear h d hk;have⟨p,j⟩:=FU c e;clear c e
 delta D7
 go_in
 go_wp2_with fail
 rw[Dw k];refine cm m λi a=>?_
 have g:=p.stays a f;have l1:=Dv g.t;have l2:=Dv g.o;have e1:=EI g.t 1;have e2:=EI g.o 2;have H2:Hid (D7 134 #[Ey t.x,Z o.a] i (.tuple #[Z (R.MJ t.G o.a).1,Z (R.MJ t.G o.a).2]) λw3=>KA N t (t.G) w w3):=by
  refine cs (a.r.toRM.log a.r.wf.sv o.a) ?_;exact⟨I,KA.ahead j (a.rD (AA _ _))⟩
 clear a g m l c0;exact yd
theorem dH(w W1:Aa)(b:Nat)(t:Tw)(o:LD)(hk:o.J=22)(en:R.En)er(ua va:Af)(un uc vn vc:Nat)(S:Option Addr->Nat->Nat->Option Addr->Nat->Nat->World->Prop)(Q4:World->Prop)(X:(w.alloc (.cells #[ptr t.p.x,Ey t.x] 106)).alloc (.cells o.cells 84)=W1)(H:Bx w t o W1)(aS:b<w)
  (H1:Hid (ET 10 #[ptr t.p.x,Z o.a,Z o.b] W1 λe a=>∃c f d g i h,e=.returned (.tuple #[.agg #[Z en.f,Z en.b,Z en.H,Z en.a,Z en.g,.slice c f d,.slice g i h],Z er])/\DY W1 a/\S c f d g i h a))
  (H2:Hid (∀c f d g i h l a,S c f d g i h l->DY l a->D7 135 #[Ey t.x,Z o.a,Z o.b] a (.tuple #[.agg #[Z en.f,Z en.b,Z en.H,Z en.a,Z en.g,.slice ua un uc,.slice va vn vc],Z er]) (DY a)))
  (H3:Hid (∀c f d g i h l a,S c f d g i h l->DY l a->D7 116 #[.slice c f d,.slice ua un uc] a DC (DY a)))
  (L:Hid (∀c f d g i h l a,S c f d g i h l->DY l a->D7 116 #[.slice g i h,.slice va vn vc] a DC (DY a)))
  (H4:Hid (∀c f d g i h l a,S c f d g i h l->DY l a->D7 117 #[.pointer (Y b 1),.slice c f d] a Ep λG=>(∀k,l.heap.size<=k->k<a->G.heap[k]?=a.heap[k]?)/\a<=G.heap.size/\∀w3,DY G w3->D7 117 #[.pointer (Y b 1),.slice g i h] w3 Ep λz=>(∀k,l.heap.size<=k->k<a->z.heap[k]?=a.heap[k]?)/\Q4 z)):
  D7 77 #[ptr b,t.val,o.val] w DC λa=>Q4 a:=by
 have ar:=Dx X;have ba:=Dv H.t;have bb:=Dv H.o;have c0:=EI H.t 0;have b5:(o.J==21)=false:=by rw[hk];rfl
 obtain⟨d2,d3⟩:=VL H.o 2 3;have Q:=Dx H;clear X H hk
 delta D7
 go_in
 go_wp2_with fail
 rw[Dw ar];refine H1.mono ?_;rintro e m ⟨c,f,d,g,i,h,rfl,D,q1⟩;have hy:Bx w.heap.size t o m:=⟨(D.block _ (Dv Q.t)).trans Q.t,(D.block _ (Dv Q.o)).trans Q.o⟩;have l1:=Dv hy.t;have l2:=Dv hy.o;have e1:=EI hy.t 1;obtain⟨e2,e3⟩:=VL hy.o 2 3;have av:b<m.heap.size:=U;obtain⟨G2,G3,K,G4,n⟩:=Eo (H2 c f d g i h m) (H3 c f d g i h m) (L c f d g i h m) (H4 c f d g i h m) q1;clear hy q1 D H1 H2 H3 L H4 c0 d2 d3 Q;go_wp2_with fail
 have T:DY m (m.alloc (.cells #[Z en.f,Z en.b,Z en.H,Z en.a,Z en.g,.slice c f d,.slice g i h] 45)):=F9;have hS:=AF m (.cells #[Z en.f,Z en.b,Z en.H,Z en.a,Z en.g,.slice c f d,.slice g i h] 45);obtain⟨W3,aa⟩:∃W3,m.alloc (.cells #[Z en.f,Z en.b,Z en.H,Z en.a,Z en.g,.slice c f d,.slice g i h] 45)=W3:=DK;rw[aa]at T hS ⊢;refine cm (G2 W3 n T) λz E=>?_
 have r:=(E.block _ (Dv hS)).trans hS;have ls:=Dv r;have be:=EI r 5;obtain⟨N,BT⟩:=FU r (T.trans (E.mono T.size));clear aa T hS E r e1 e2 e3 l1 l2 G2;go_wp2_with fail
 have W:DY z (z.alloc (.cells #[Z en.f,Z en.b,Z en.H,Z en.a,Z en.g,.slice ua un uc,.slice va vn vc] 45)):=F9;have hU:=AF z (.cells #[Z en.f,Z en.b,Z en.H,Z en.a,Z en.g,.slice ua un uc,.slice va vn vc] 45);obtain⟨W5,ab⟩:∃W5,z.alloc (.cells #[Z en.f,Z en.b,Z en.H,Z en.a,Z en.g,.slice ua un uc,.slice va vn vc] 45)=W5:=DK;rw[ab]at W hU ⊢;have bV:=BT.trans (W.mono BT.size);refine cm (G3 W5 n bV) λw6 x=>?_
 have s:=(x.block _ (Ai ls W.size)).trans ((W.block _ ls).trans N);have v:=(x.block _ (Dv hU)).trans hU;have s6:=EI s 6;have t6:=EI v 6;have l6:=Dv s;have l7:=Dv v;obtain⟨O,P,BW⟩:=Ll s v (bV.trans (x.mono bV.size));have ac:=BT.size;clear ab W hU bV x s v G3 N BT;go_wp2_with fail
 refine cm (K w6 n BW) λw7 y=>?_
 have u:=(y.block _ l6).trans (Dw O);have C:=(y.block _ l7).trans (Dw P);have bX:=BW.trans (y.mono BW.size);have s5:=EI u 5;have m6:=Dv u;have m7:=Dv C;have b9:=Ai av bX.size;obtain⟨p,q,G5⟩:=Ll u C (G4 w7.drew n bX.drew);clear s6 t6 l6 l7 O P BW y u C bX K G4 n;go_wp2_with fail
 go_region_law (refine FG I 117 #[.tmp 78,.tmp 80] #[78,37] I qU #[.pointer (some (Y b 1)),.slice c f d] I _ G5 ?_;rintro e w8 ⟨rfl,j,A,G6⟩;have F:=(j m.heap.size (Ar _) m6).trans (Dw p);have J:=(j z.heap.size ac m7).trans (Dw q);have G7:=Dx (G6 w8.drew (AA _ _).drew);have aV:w7.heap.size<=w8.heap.size:=A;clear j G6 A;refine⟨_,I,?_⟩)
 have s6:=EI F 6;have n0:=Dv F;have n1:=Dv J;have b7:b<w8.heap.size:=U;clear F J s5 m6 m7 G5;go_wp2_with fail
 go_region_law (refine FG I 117 #[.tmp 84,.tmp 86] #[78,37] I qU #[.pointer (some (Y b 1)),.slice g i h] I _ G7 ?_;rintro e w9 ⟨rfl,j,q4⟩;have F:=(j m.heap.size (Ar _) (Dv p)).trans (Dw p);have J:=(j z.heap.size ac (Dv q)).trans (Dw q);have aq:=Dx q4;clear j q4;refine⟨_,I,?_⟩)
 obtain⟨a0,a1,a2,a3,a4⟩:=bC F 0 1 2 3 4;obtain⟨b0,b1,b2,b3,b4⟩:=bC J 0 1 2 3 4;have la:=Dv F;have b6:=Dv J;have M:=Dx OM;clear F J s6 n0 n1 G7 p q;go_wp2_with fail
 refine cm (M _ _) λaw B=>?_
 rw[B];clear B aw;go_wp2;go_returns;exact⟨I,aq⟩
theorem YG{k:Int}{y:R.En}(h:R.Fq G u k=y):∃(n:Nat) (s:R.Sv),G.a[n]?=s/\y∈s.log:=by
 unfold R.Fq at h;split at h
 .unfold R.Ol at h;cases hs:G.a[(u-1).toNat]? with
  |none=>
   rw[hs]at h;simp at h
  |some s=>
   rw[hs]at h;exact⟨_,s,hs,Ap h⟩
 .cases h
theorem Xp{z:Nat->Option Obj}{Ts:List Tw}{L:List V.Kp}(h:Hn w0 z b N Ts L lv K w){t:Tw}(hi:Ts[i]?=t)(hk:o.J=22)(hL:L.length+1<=1000000000000):
  D7 77 #[ptr b,t.val,o.val] w DC λp=>∃L' Q,Hn w0 z b N Ts L' lv Q p/\L'=L.length+2:=by
 have⟨O,am,ao,hx,hT,av⟩:=Jc (h.tw t (Ap hi)) o;have h1:=h.h ao;have⟨M,hI⟩:=hT.bd.iv;have⟨ua,un,uc,va,vn,vc,iA,iR,S⟩:=hT.r.toRM.acX hT.r.wf.sv o.a o.b;have F:∀j,V.OY b L K j->j<O.heap.size:=λj m=>h1.lt j (Aj m)
 obtain⟨u,l⟩:∃u,u=(R.Fq t.G o.a o.b).getD Ee:=DR;obtain⟨er,c⟩:∃er:Int,er=if (R.Fq t.G o.a o.b).isSome then 0 else 9:=DR
 rw[<-l]at iA iR S;rw[<-c]at S;have ar:u.arg.length<=1000/\u.D.length<=1000:=by
  rw[l];cases he:R.Fq t.G o.a o.b with
  |none=>simp[Ee]
  |some y=>
   have⟨n,s,hs,hy⟩:=YG he;have⟨d,rb,d1,d2,d3,d4,d5,d6⟩:=((hI.lg n s hs).each y hy).some;have f1:=KQ (hI.bk _ _ d1).1.bs;have f2:=KQ d5;rw[<-d4]at f1;exact⟨by simp only[Bw];omega,by simp only[Bw];omega⟩
 have hE:=hT.l.entry hI o.a o.b;refine(dH w O b t o hk u er ua va un uc vn vc (λG J H B D C w2=>DY O w2/\V.Row w2 O.heap.size (.slice G J H) u.arg/\V.Row w2 O.heap.size (.slice B D C) u.D/\∀j,(Value.slice G J H).ownBlock=some j->(Value.slice B D C).ownBlock≠some j)
  (λp=>∃L' Q,Hn w0 z b N Ts L' lv Q p/\L'.length=L.length+2) am hx (Dv h.bo.cell) (Dx ?_) (Dx ?_) (Dx ?_) (Dx ?_) (Dx ?_))
 .cases he:R.Fq t.G o.a o.b with
  |none=>
   rw[he]at hE l c;refine cm hE λw2 a=>?_
   subst l;subst c;exact⟨none,0,0,none,0,0,I,a,a,AZ _ _ _ _,AZ _ _ _ _,λj q=>by cases q⟩
  |some y=>
   rw[he]at hE l c;refine hE.mono ?_;rintro e w2 ⟨⟨X,Yq,rfl,r1,r2,r3⟩,a⟩;obtain⟨G,J,H,rfl⟩:=Ei r1;obtain⟨B,D,C,rfl⟩:=Ei r2;subst l;subst c;exact⟨G,J,H,B,D,C,I,a,a,r1,r2,r3⟩
 .rintro G J H B D C w1 p ⟨a,_⟩ r;exact S p (a.trans (r.mono a.size))
 .rintro G J H B D C w1 p ⟨a,r1,_⟩ r;exact V.UI p _ _ u.arg (V.KW (ER r1 r)) (iA.J.h (a.trans (r.mono a.size))) U
 .rintro G J H B D C w1 p ⟨a,_,r2,_⟩ r;exact V.UI p _ _ u.D (V.KW (ER r2 r)) (iR.J.h (a.trans (r.mono a.size))) U
 .rintro G J H B D C w1 p ⟨a,r1,r2,r3⟩ r;have T:=a.trans (r.mono a.size);have lX:=Ba r1;have lY:=Ba r2;have aN:=r.size;have aS:=a.size;refine cm (V.VG O p b L lv K _ u.arg (h1.bo.h T) T (ER r1 r) U U F) ?_;rintro ad ⟨Q,k,hB,hw⟩;have hH:Hn w0 z b N Ts (L++[k]) lv Q ad:=(h1.h T).J (λj m=>by
   have h2:=(lX j m).1;exact⟨Br h1.a.size h2,h1.free j h2,λe=>by have:=h1.lt j (Am (Aj e));omega,λs hs f=>by have:=h1.lt j (Am (Am ⟨s,hs,f⟩));omega⟩) hB hw
  have x:∀q,w1.heap.size<=q->q<p.heap.size->ad.heap[q]?=p.heap[q]?:=λq ab W=>hw.H.block q W (λf=>by
   rcases f with f|f
   .have:=F q f;omega
   .have:=(lX q f).2;omega)
  have v:∀j,(Value.slice B D C).ownBlock=some j->¬(V.OY b L K j\/(Value.slice G J H).ownBlock=some j):=λj m f=>by
   rcases f with f|f
   .have:=F j f;have:=(lY j m).1;omega
   .exact r3 j f m
  refine⟨I,x,hw.H.size,λw3 E=>?_⟩;have aa:=hH.h E;have aV:=E.size;have aw:=hw.H.size;have an:∀j,(Value.slice B D C).ownBlock=some j->¬V.OY b (L++[k]) Q j:=λj m f=>by
   rcases hw.fresh j f with q|q
   .exact v j m q
   .have:=(lY j m).2;omega
  obtain⟨wc,A⟩:∃wc:World,wc={w3 with heap:=w3.heap.extract 0 O.heap.size}:=DR;have P:wc.heap.size=O.heap.size:=by
   rw[A];simp;omega
  have aq:DY wc w3:=by
   refine⟨by rw[A],by rw[A],by rw[A],U,λq hq=>?_⟩;rw[A];rw[P]at hq;simp only[Array.getElem?_extract];rw[Ay U];simp
  refine(V.kY wc w3 b (L++[k]) lv Q _ u.D aa.bo aq (by rw[P];exact(ER (hw.H.row (ER r2 r) (λj m=>v j m)) E)) Fy U an).mono ?_;rintro e w4 ⟨rfl,K2,k2,ak,ac⟩;refine⟨I,λq ab W=>?_,L++[k]++[k2],K2,aa.J (λj m=>?_) ak ac,Ev⟩
  .rw[<-x q ab W,<-E.block q U];refine ac.H.block q U (λf=>?_);rcases f with f|f
   .rcases hw.fresh q f with (g|g)|g
    .have:=F q g;omega
    .have:=(lX q g).2;omega
    .omega
   .have:=(lY q f).2;omega
  .have h2:=(lY j m).1;exact abr
namespace R
variable {G:Wd}
def agy(w:Wd)(host:Int):Int×Wd:=
 if host=-1 then (0,{w with a:=w.a.map λs=>{s with T:=false},C:=[0,0,0],J:=List.replicate 9 Ic,d:=[]})
 else if host<0\/w.b<=host then (13,w)
 else if Qj w host=255 then (11,w)
 else (0,{w with b:=w.b.set host.toNat (RF (Qj w host+1) w.c.a)})
theorem Inv.agG{M:Bk}(h:Inv M G)p:Inv M (agy G p).2:=by
 unfold agy;split
 .have D:Gr G.a (G.a.map λs=>{s with T:=false}):=⟨Ev,λu s g=>⟨{s with T:=false},by simp[g],I,[],Ev⟩⟩;have A:∀(u:Nat) (y:Sv),(G.a.map λs=>{s with T:=false})[u]?=some y->∃s,G.a[u]?=some s/\y={s with T:=false}:=λu y g=>by
   rw[BP]at g;cases v:G.a[u]? with
   |none=>rw[v]at g;cases g
   |some s=>rw[v]at g;exact⟨s,I,(Option.some.inj g).symm⟩
  refine⟨⟨h.wf.cf,h.wf.a,λi c hc=>⟨(h.wf.cl i c hc).a,(h.wf.cl i c hc).b,λu hu=>by simpa using (h.wf.cl i c hc).d u hu,(h.wf.cl i c hc).H⟩,h.wf.X,h.wf.b,by simpa using h.wf.sv,λs g=>?_,h.wf.nm,h.wf.st,h.wf.nd,λu hu=>by simpa using h.wf.d u hu⟩,Gw h.wf.cf,λk d hd=>⟨(h.bk k d hd).1.grow D,(h.bk k d hd).2⟩,λi c k l hc hl=>(h.ln i c k l hc hl).grow (Le.refl M) D (λ_ q=>q),λf W=>(h.fl f W).grow (Le.refl M) D,λi r B E=>?_,λu y g=>?_,λu y e g S he=>?_,Ev,λi c hc=>?_⟩
  .obtain⟨s0,v,rfl⟩:=Cy.1 g;exact h.wf.e s0 v
  .simp only[Be]at B;split at B
   .cases B;exact absurd I E
   .cases B
  .obtain⟨s,v,rfl⟩:=A u y g;have q:=h.lg u s v;exact⟨q.each,q.ord,q.told⟩
  .obtain⟨s,v,rfl⟩:=A u y g;cases S
  .have:=(h.wf.cl i c hc).b;simp only[Bu];rcases i with _|_|_|i<;>simp<;>omega
 .split
  .exact h
  .rename_i h1 h2;obtain⟨n,rfl⟩:∃n:Nat,p=(n:Int):=⟨p.toNat,U⟩;have hn:n<G.b.length:=U;have t:G.b[n]?=some G.b[n]:=Ah hn;split
   .exact h
   .rename_i Q;rw[GH t]at Q ⊢;have z:=h.wf.cl n _ t;have w:∀(j:Nat) (b:Cl),(G.b.set (n:Int).toNat (RF (G.b[n].b+1) G.c.a))[j]?=some b->(j=n/\b=RF (G.b[n].b+1) G.c.a)\/(j≠n/\G.b[j]?=some b):=λj b o=>by
     rw[Bf,AY]at o;by_cases e:n=j
     .subst e;simp[hn]at o;exact Aj ⟨I,o.symm⟩
     .simp[e]at o;exact Am ⟨λq=>e q.symm,o⟩
    have C:=h.wf.cf;unfold GA at C;refine⟨⟨h.wf.cf,by simpa using h.wf.a,λj b o=>?_,h.wf.X,h.wf.b,h.wf.sv,h.wf.e,h.wf.nm,h.wf.st,h.wf.nd,h.wf.d⟩,h.ws,λq d hq=>?_,λj b k l o hl=>?_,h.fl,h.sn,h.lg,h.a,h.jb,λj b o=>?_⟩
    .rcases w j b o with ⟨rfl,rfl⟩|⟨_,q⟩
     .have:=z.b;exact⟨by simp[RF];omega,by simp[RF];omega,by simp[RF],λk l hl=>by rw[Yw hl];exact sS⟩
     .exact⟨(h.wf.cl j b q).a,(h.wf.cl j b q).b,(h.wf.cl j b q).d,(h.wf.cl j b q).H⟩
    .obtain⟨g1,a,P,m,x,H,F,J,K,L,r6,N,O,r9⟩:=h.bk q d hq;refine⟨g1,?_⟩;by_cases e:n=a
     .subst e;rw[t]at F;cases F;have aa:=GG K;have X:=z.a;refine⟨n,RF (G.b[n].b+1) G.c.a,m,Vm,H,by simp[hn],J,?_,L,by simp[RF];omega,N,O,λe=>?_⟩
      .simp only[RF,Be];rw[Ay U]
      .simp[RF]at e;omega
     .refine⟨a,P,m,x,H,?_,J,K,L,r6,N,O,r9⟩;rw[Bf,AY,Ao e];exact F
    .rcases w j b o with ⟨rfl,rfl⟩|⟨_,q⟩
     .rw[Yw hl];exact ada _ _ _ _ _ _
     .exact h.ln j b k l q hl
    .rcases w j b o with ⟨rfl,rfl⟩|⟨_,q⟩
     .have:=h.lv j _ t;simp[RF]at this ⊢;omega
     .exact h.lv j b q
theorem EP.agG(h:EP G)(hc:GA G.c)a:EP (agy G a).2:=by
 unfold agy;repeat' split
 .unfold EP;have:cnt (List.replicate 9 Ic)=0:=Em;simp only[this];unfold GA at hc;omega
 .exact h
 .exact h
 .exact h.same I I
end R
theorem Yb.first{V:Ad}{j:R.Jb}{js:List R.Jb}(h:Yb w F V (j :: js)):∃g o cap,V=.slice (Y g o) (js+1) cap/\F g/\js+1<=cap/\cap<=maxLen/\(∀(k:Nat) (u:Ad),(IA j)[k]?=u->w.cell? (Y g (o+k))=u)/\(cap=1->Yb w F (.slice (Y g o) 0 0) js)/\(cap≠1->Yb w F (.slice (Y g (o+4)) js (cap-1)) js):=by
 rcases h with ⟨b,_⟩|⟨g,off,cap,a,rfl,c,d,hl,i,f,hc⟩
 .cases b
 .simp only[A4]at hl;refine⟨g,off*4,cap,I,c,hl,f,λk u hu=>?_,λb=>?_,λb=>?_⟩
  .have:=hc 0 j I k u hu
   grind [World.cell?]
  .have:js=[]:=B6.1 U;subst this;exact Am ⟨g,off,0,a,I,c,d,Ar _,U,JG,λk e hk=>by simp at hk⟩
  .refine Am ⟨g,off+1,cap-1,a,by rw[show (off+1)*4=off*4+4 by omega],c,d,U,U,U,λk e hk o u hu=>?_⟩;have:=hc (k+1) e (by simpa using hk) o u hu
   grind
def Lx(x:Nat)(w:Aa):Nat:=match w.cell? ⟨x,12,none⟩ with
 |some (.slice _ n _)=>n
 |_=>0
structure Sq(W:Aa)(x g o cap sn L ci li i n:Nat)(j:R.Jb)(r:R.Sn)(life:Int):Prop where
 b:W.cell? (Y x 12)=some (.slice (some (Y g o)) (n+1) cap)
 cap:n+1<=cap/\cap<=maxLen
 j0:W.cell? (Y g o)=some (Z ci)
 j1:W.cell? (Y g (o+1))=some (Z li)
 j2:W.cell? (Y g (o+2))=some (Z j.b)
 j3:W.cell? (Y g (o+3))=some (Z j.a)
 e:W.cell? (Y x 10)=some (EJ L 3 3)
 a:W.cell? (Y x 11)=some (EJ sn 9 9)
 c:W.cell? (Y L ci)=some (Z life)
 s:iZ W sn i r
 z:W.frozen? (Y x 12)=false
 hi:i=3*ci+li
 hc:ci<3
 hl:li<3
 n1:sn≠x
 n2:L≠x
abbrev NR(g o n cap:Nat):Value:=if cap=1 then .slice (Y g o) 0 0 else .slice (Y g (o+4)) n (cap-1)
structure U9(x:Nat)(A:List R.Jb->World->Prop)(P0:World->Prop)(j:R.Jb)(js:List R.Jb)(W:Aa)(g o cap sn L ci li i:Nat)(r:R.Sn)(life:Int):Prop where
 at':Sq W x g o cap sn L ci li i js.length j r life
 N3:r.d=2/\r.a=j.a/\life=j.b->∀W',Below W.heap.size (W.setCell (Y x 12) (NR g o js.length cap)) W'->Calls prog 133 #[Ey x,Z i] W' λe w'=>e=.returned Ep/\P0 w'
 no:¬(r.d=2/\r.a=j.a/\life=j.b)->∀W',Below W.heap.size (W.setCell (Y x 12) (NR g o js.length cap)) W'->A js W'
theorem Z7(A:List R.Jb->World->Prop)(B l:World->Prop){p:List R.Jb}(C:A p w)
  (HL:Hid (∀js W,A js W->Lx x W=js))
  (t:Hid (∀W,A [] W->(∃a c,EB W x 12 (.slice a 0 c))/\l W))
  (s:Hid (∀j js W,A (j :: js) W->∃g o cap sn L h y i r life,U9 x A B j js W g o cap sn L h y i r life)):
  ET 76 #[Ey x] w λe E=>(e=.returned (Z 0)/\B E)\/(e=.returned (Z 19)/\l E):=by
 have F:=Dx C;clear C
 delta ET
 go_in
 go_wp2;go_loopw [2] (λrv wr=>rv=Z 0/\∃js,A js wr) (λ_ wr=>Lx x wr)
 case atStart=>exact⟨I,p,F⟩
 case round=>
  obtain⟨rfl,js,k⟩:=hrel;cases js with
  |nil=>
   have⟨⟨a,c,b⟩,D⟩:=t _ k;have M:=Gv b;have G:=Dx D;clear D k s HL t;go_wp2;go_returns;exact Am ⟨I,G⟩
  |cons j js=>
   have⟨g,o,cap,sn,L,h,y,i,r,life,u⟩:=s j js _ k;have⟨HYES,HNO,HLN⟩:=Ll u.N3 u.no (HL _ _ k);have⟨⟨b,⟨d,f⟩,j0,j1,j2,j3,X,aa,hc0,⟨s0,s1,s2,s3,s4,s5,s6,s7,s8,s9⟩,z,hi,hc,hl,n1,n2⟩,_,_⟩:=u;obtain⟨i0,i9,q0,q3⟩:0<=(i:Int)/\(i:Int)<9/\0<=(h:Int)/\(h:Int)<3:=U;have e1:IntKind.i64.wrap (3*(h:Int))=3*(h:Int):=Iz;have e2:IntKind.i64.wrap (3*(h:Int)+(y:Int))=(i:Int):=Iz;have⟨M,hg⟩:=KM b j0;have⟨K,hL⟩:=KM s0 hc0;have P:=n1;have Q:¬x=sn:=λe=>n1 e.symm
   have S:=n2;have T:¬x=L:=λe=>n2 e.symm
   have hsp:(r.d=2/\r.a=j.a/\life=j.b)\/(¬r.d=2)\/(r.d=2/\¬r.a=j.a)\/(r.d=2/\r.a=j.a/\¬life=j.b):=U;rcases CR 1 cap with v|v
   .have n:NR g o js.length cap=.slice (some (Y g (o+4))) js.length (cap-1):=Ao U;rw[n]at HYES HNO;obtain⟨O,N,J,H⟩:(1:Int)<=(js.length:Int)+1/\(0:Int)<(js.length:Int)+1/\(js.length:Int)+1<=(cap:Int)/\¬cap=1:=U;clear n d f n1 n2 hi hc hl k t s;exact Lu
   .obtain rfl:cap=1:=U;have m:js.length=0:=U;have n:NR g o js.length 1=.slice (some (Y g o)) 0 0:=Ay I;rw[n]at HYES HNO;rw[m]at b;clear n d f n1 n2 hi hc hl k t s m;exact Lu
structure JC(w:Aa)(x sn L g n cap i u d:Nat)(life kind:Int)(r:R.Sn)(la:Af)(ln lc:Nat):Prop where
 x7:w.cell? (Y x 7)=some (EJ g n cap)
 e:w.cell? (Y x 10)=some (EJ L 3 3)
 a:w.cell? (Y x 11)=some (EJ sn 9 9)
 s:iZ w sn i r
 c:w.cell? (Y L d)=some (Z life)
 k0:w.cell? (Y g (u*3))=some (Z kind)
 k2:w.cell? (Y g (u*3+2))=some (.slice la ln lc)
 z:∀o,w.frozen? (Y sn o)=false
 zg:∀o,w.frozen? (Y g o)=false
 hu:r.c=(u:Int)+1
 hn:u<n
 b:n<=255
 hi:i<9
 hd:i / 3=d
 n1:sn≠x
 n2:sn≠g
 n3:g≠x
 n4:L≠g
 n5:L≠sn
theorem fR(w:Aa)(x sn L g n cap i u d m:Nat)(life kind pr:Int)(r:R.Sn)(H:Af)(ln J:Nat)(S S2 A B:Ab)(e0 e1:Int)(rb:Ac)(Q:World->Prop)
  (P1:Option Addr->Nat->Nat->World->Prop) (P2:Option Addr->Nat->Nat->Option Addr->Nat->Nat->World->Prop) (Q3:Option Addr->Nat->Nat->Option Addr->Nat->Nat->World->Prop)
  (h:JC w x sn L g n cap i u d life kind r H ln J) (hm:i % 3=m) (hS:str r.b=S) (E:2<=S.size) (bS:S.extract 2 S=S2) (ar:256*((S[0]'(Ai Em E)).toNat:Int)+((S[1]'(Ai Em E)).toNat:Int)=pr)
  (ae:Hid (∀W,D7 119 #[Z kind,Z pr] W (.tuple #[.string A,.string B,Z e0]) λc=>c=W))
  (N:Hid (∀W,DY w W->ET 115 #[.string A,.string S2] W λe c=>∃v on y,e=.returned (.tuple #[.slice v on y,Z e1])/\P1 v on y c/\DY w c))
  (P:Hid (∀v on y W,P1 v on y W->ET 194 #[Z kind,.slice H ln J,Z pr,.slice v on y] W.drew λe c=>∃l dn o,e=.returned (.slice l dn o)/\P2 v on y l dn o c/\DY w c))
  (HJ:Hid (∀v on y l dn o W,P2 v on y l dn o W->∃a q f b,(Builtin.append_ #[97,97] 97 #[.slice H ln J,EJ W 1 1]).run prog (W.drew.alloc (.cells #[Z d,Z life,Z m,Z r.a,Z pr,.slice v on y,.slice l dn o] 45))=.ok (.slice a q f) b/\(∀k,k=x\/k=sn\/k=g\/k=L->b.heap[k]?=w.heap[k]?)/\Q3 l dn o a q f b))
  (O:Hid (∀l dn o a q f b W,Q3 l dn o a q f b->Below b ((b.setCell (Y g (u*3+2)) (.slice a q f)).setCell (Y sn (i*10+4)) (Z 3)) W->D7 179 #[.string B,.slice l dn o] W (.string (str rb)) (DY W)))
  (ah:Hid (∀l dn o a q f b W W',Q3 l dn o a q f b->Below b ((b.setCell (Y g (u*3+2)) (.slice a q f)).setCell (Y sn (i*10+4)) (Z 3)) W->Below W ((W.setCell (Y sn (i*10+5)) (.string (str rb))).setCell (Y sn (i*10+6)) (Z 0)) W'->D7 195 #[Ey x,Z i] W' Ep λc=>Q c)):
  D7 133 #[Ey x,Z i] w Ep λc=>Q c:=by
 obtain⟨x7,ac,b5,⟨s0,s1,s2,s3,s4,s5,s6,s7,s8,s9⟩,hc,k0,k2,z,zg,hu,hn,ao,hi,hd,n1,n2,n3,n4,n5⟩:=h;rw[hu]at s1;rw[hS]at s2;have q0:0<=(i:Int):=U;have q1:(i:Int)<9:=U;have u0:0<=(u:Int):=U;have u1:(u:Int)<n:=U;have eu:IntKind.i64.wrap ((u:Int)+1-1)=(u:Int):=Iz;have bz:IntKind.i64.wrap (u:Int)=u:=Iz;have bp:(d:Int)<3:=U;have bT:0<=(d:Int):=U;have ed:(i:Int).tdiv 3=(d:Int):=by rw[CM q0];omega
 have em:(i:Int).tmod 3=(m:Int):=by rw[Ca q0];omega
 have ew:IntKind.i64.wrap (d:Int)=d:=Iz;obtain⟨hx,hg⟩:=KM x7 k0;obtain⟨b1,hL⟩:=KM s0 hc;have l0:0<S.size:=U;have l1:(1:Int)<(S.size:Int):=U;have l2:(2:Int)<=(S.size:Int):=U;have HQ:Hid (wrap64 (wrap64 (256*wrap64 ((S[0]'(Ai Em E)).toNat:Int))+wrap64 ((S[1]'(Ai Em E)).toNat:Int))=pr):=by
  rw[<-ar];have a0:=(S[0]'(Ai Em E)).toNat_lt;have a1:=(S[1]'(Ai Em E)).toNat_lt;have wr:∀q:Int,-9223372036854775808<=q->q<=9223372036854775807->wrap64 q=q:=λq q1 q2=>by
   unfold wrap64;omega
  generalize (S[0]'(Ai Em E)).toNat=c0 at a0 ⊢;generalize (S[1]'(Ai Em E)).toNat=c1 at a1 ⊢;show wrap64 (wrap64 (256*wrap64 (c0:Int))+wrap64 (c1:Int))=256*(c0:Int)+(c1:Int);rw[wr (c0:Int) U U,wr (c1:Int) U U,wr (256*(c0:Int)) U U,wr _ U U]
 clear ar;have y1:¬sn=x:=n1;have y2:¬x=sn:=λe=>n1 e.symm
 have y3:¬sn=g:=n2;have y4:¬g=sn:=λe=>n2 e.symm
 have y5:¬g=x:=n3;have y6:¬x=g:=λe=>n3 e.symm
 have y7:¬L=g:=n4;have y8:¬L=sn:=n5;have y9:¬g=L:=λe=>n4 e.symm
 obtain⟨HZ,aS,H2⟩:=Ll z zg E;clear hu hn hi hd hm ao n1 n2 n3 n4 n5 hS z zg
 delta D7
 go_in
 go_wp2_with fail
 go_quiet (fail);go_wp2_with fail
 go_quiet (fail);generalize hq:wrap64 (wrap64 (256*wrap64 (_:Int))+wrap64 (_:Int))=pq;obtain rfl:pr=pq:=by
  rw[<-hq];exact HQ.symm
 clear HQ hq;go_wp2_with (first|(go_at_call 119;refine cs (ae _) ?_))
 refine(N _ (Ed (AA _ _) _)).mono ?_;rintro e w1 ⟨v,on,y,rfl,p1,F⟩;have a0:w1.cell? (Y g (u*3))=some (Z kind):=(F.cell (p:=Y g _) hg).trans k0;have a2:w1.cell? (Y g (u*3+2))=some (.slice H ln J):=(F.cell (p:=Y g _) hg).trans k2;have b3:g<w1.heap.size:=Ai hg F.size;have M:=Dx (P v on y w1 p1);clear p1 F N P;go_wp2_with fail
 go_region_held3 (λc=>c.cell? (Y g (u*3))=some (Z kind)/\c.cell? (Y g (u*3+2))=some (.slice H ln J)) (go_keep) (first|(go_at_call 194;refine M.mono ?_;rintro e D ⟨l,dn,o,rfl,p2,G⟩;have b0:D.cell? (Y g (u*3))=some (Z kind):=(G.cell (p:=(Y g (u*3))) hg).trans k0;have b2:D.cell? (Y g (u*3+2))=some (.slice H ln J):=(G.cell (p:=(Y g (u*3+2))) hg).trans k2;have ak:=Dx p2;have C:=Dx G;clear p2 G))
 all_goals
  obtain⟨a,q,f,b,h1,h3,q3⟩:=HJ v on y l dn o D (Dw ak);have am:D.cell? (Y x 10)=some (EJ L 3 3):=(C.cell (p:=Y x 10) hx).trans ac;have cL:D.cell? (Y L d)=some (Z life):=(C.cell (p:=Y L d) hL).trans hc;have cq:D.cell? (Y sn (i*10))=some (Z r.a):=(C.cell (p:=(Y sn (i*10))) b1).trans s0;have bV:=C.size;have cc:x<D.heap.size:=U;have c7:g<D.heap.size:=U;have c8:sn<D.heap.size:=U;have bX:L<D.heap.size:=U;have bs:=h3 sn (Am (Aj I));have bg:=h3 g (Am (Am (Aj I)));have an:b.cell? (Y x 10)=some (EJ L 3 3):=(AR (h3 x (Aj I))).trans ac;have dL:b.cell? (Y L d)=some (Z life):=(AR (h3 L (Am (Am (Am I))))).trans hc;have dq:b.cell? (Y sn (i*10))=some (Z r.a):=(AR bs).trans s0;have d2:b.cell? (Y g (u*3+2))=some (.slice H ln J):=(AR bg).trans k2;have f2:DJ b g (u*3+2):=(A8 bg).trans (aS _);have d4:b.cell? (Y sn (i*10+4))=some (Z r.d):=(AR bs).trans s4;have d5:b.cell? (Y sn (i*10+5))=some (.string (str r.D)):=(AR bs).trans s5;have d6:b.cell? (Y sn (i*10+6))=some (Z r.at'):=(AR bs).trans s6;have f4:DJ b sn (i*10+4):=(A8 bs).trans (HZ _);have f5:DJ b sn (i*10+5):=(A8 bs).trans (HZ _);have f6:DJ b sn (i*10+6):=(A8 bs).trans (HZ _);have av:sn<b.heap.size:=Gv dq;have b4:g<b.heap.size:=Gv d2;obtain⟨HH,al⟩:=FU h1 q3;clear h1 h3 q3 bs bg ak C HJ a0 a2 b3 M x7 ac b5 s0 s1 s2 s3 s4 s5 s6 s7 s8 s9 hc k0 k2;go_wp2_with fail
  refine WK.begin (S:=λc=>c.cell? (Y x 10)=some (EJ L 3 3)/\c.cell? (Y L d)=some (Z life)/\c.cell? (Y sn (i*10))=some (Z r.a)) (T:=λc=>c.cell? (Y g (u*3+2))=some (.slice H ln J)) (k:=29) EL ⟨am,cL,cq⟩ b2 ?_;refine DT 0 I ?_;refine DT 1 I ?_;refine DT 2 I ?_;refine DT 3 I ?_;refine Fw 4 I (.more (j:=26) (.of EL) (.of EL)) ?_;refine DT 5 I ?_;refine DT 6 I ?_;refine DT 7 I ?_;refine DT 8 I ?_;refine DT 9 I ?_;refine DT 10 I ?_;refine DT 11 I ?_;refine DT 12 I ?_;refine DT 13 I ?_;refine DT 14 I ?_;refine DT 15 I ?_;refine DT 16 I ?_;refine DT 17 I ?_;refine DT 18 I ?_;refine DT 19 I ?_;refine DT 20 I ?_;refine DT 21 I ?_;refine DT 22 I ?_;refine DT 23 I ?_;refine DT 24 I ?_;refine WK.one (i:=25) EL I (λK X=>?_);go_simp;refine X.out _ _ (by go_keep) (by go_keep) ?_;clear X K;try simp only[Act.put,Al,Av,Ax,Az,Aq,Au]
  refine WK.one (i:=26) EL I (λK X=>?_);refine Jm I (.tmp 78) (.tmp 99) 97 I (.slice H ln J) (EJ D.heap.size 1 1) (.slice a q f) b I I HH ?_;refine X.out _ _ ⟨an,dL,dq⟩ d2 ?_;clear X K;try simp only[Act.put,Al,Av,Ax,Az,Aq,Au]
  refine DT 27 I ?_;refine DT 28 I ?_;refine WK.store EL I (λK X=>?_);go_simp;refine X.out _ _ (by go_keep) ?_;clear X K;try simp only[Act.put,Al,Av,Ax,Az,Aq,Au]
  refine WK.done EL ?_;go_wp2_with fail
  refine cm (O l dn o a q f b _ al (AA _ _)) λw5 s=>?_
  have aa:((b.setCell (Y g (u*3+2)) (.slice a q f)).setCell (Y sn (i*10+4)) (Z 3)).heap.size=b.heap.size:=Ev;have t:sn<((b.setCell (Y g (u*3+2)) (.slice a q f)).setCell (Y sn (i*10+4)) (Z 3)).heap.size:=by rw[aa];exact av
  have g5:w5.cell? (Y sn (i*10+5))=some (.string (str r.D)):=(s.cell (p:=(Y sn (i*10+5))) t).trans ((AP (h:=by simp;try omega) ..).trans ((AP (h:=by simp;try omega) ..).trans d5));have g6:w5.cell? (Y sn (i*10+6))=some (Z r.at'):=(s.cell (p:=(Y sn (i*10+6))) t).trans ((AP (h:=by simp;try omega) ..).trans ((AP (h:=by simp;try omega) ..).trans d6));have v5:DJ w5 sn (i*10+5):=(s.frozen (p:=(Y sn (i*10+5))) t).trans (by simpa using f5);have v6:DJ w5 sn (i*10+6):=(s.frozen (p:=(Y sn (i*10+6))) t).trans (by simpa using f6);have ca:sn<w5.heap.size:=Ai t s.size;have az:Hid (Below b.heap.size ((b.setCell (Y g (u*3+2)) (.slice a q f)).setCell (Y sn (i*10+4)) (Z 3)) w5):=by
   have q:Below _ _ _:=s;rw[aa]at q;exact q
  clear s aa t an dL dq d2 f2 d4 d5 d6 f4 f5 f6 av b4 am cL cq b0 b2 HH O;go_wp2_with (first|(go_at_call 195;refine cm (ah l dn o a q f b w5 _ al az (AA _ _)) λw6 hp=>?_;have aN:=Dx hp;clear hp))
  go_returns;exact⟨I,aN⟩
theorem RM.adb(h:RM x v F G w){z:R.Sv×Value}(hz:v.zs[n]?=z)(M:∀k,F2 k->F k\/w<=k)(c:∀k,F k->F2 k)(B:∀k,F2 k->k<w')(hk:DF (λk=>v.V.ownBlock=k\/z.2.ownBlock=k) w w')(hr:w'.ownsRow 0 234 3 v.V v.zs (tab Ew (v.zs.set n ({z.1 with log:=l'},V'))))(hL:Lg w' F2 V' l')(W:∀j,V'.ownBlock=some j->z.2.ownBlock=j\/w<=j):
  RM x {v with zs:=v.zs.set n ({z.1 with log:=l'},V')} F2 {G with a:=G.a.set n {z.1 with log:=l'}} w'/\D8 F F2 w w':=by
 have⟨f1,f2,f3⟩:=h.A;have O:=Ap hz;have aa:=GG hz;have D:=h.c.c z O;have hE:∀k,(v.V.ownBlock=some k\/z.2.ownBlock=some k)->F k:=λk q=>by
  rcases q with q|q
  .exact h.rows k (Am (Am (Aj q)))
  .exact D.own k q
 have r:∀{b:Nat} {ys:Array Value} {t:Ag},Dy w b ys t->t≠234->t≠45->¬(v.V.ownBlock=some b\/z.2.ownBlock=some b):=λl T h2 e=>by
  rcases e with e|e
  .exact Fg h.a l (λq=>T q.symm) e
  .have⟨S,_,e2,_⟩:=D.row
   grind [Fg]
 have J:∀{m size:Nat} {e:Ag} {K:Ad} {xs:Ae},w.ownsRow 0 e size K m xs->e≠234->e≠45->∀j,K.ownBlock=some j->¬(v.V.ownBlock=some j\/z.2.ownBlock=some j):=λhr T h2 j f=>by
  grind [J3]
 have g:∀(i:Nat) (y:R.Sv×Value),(v.zs.set n ({z.1 with log:=l'},V'))[i]?=some y->(i=n/\y=({z.1 with log:=l'},V'))\/(i≠n/\v.zs[i]?=some y):=λi y d=>by
  grind
 have X:∀(i:Nat) (y:R.Sv×Value),i≠n->v.zs[i]?=some y->Lg w' F2 y.2 y.1.log:=λi y N d=>by
  have C:=h.c.c y (Ap d);have⟨S,e1,e2,e3⟩:=C.row;refine⟨⟨S,e1,hk.row e2 (λj f q=>?_),λu hu=>⟨(e3 u hu).1.keep hk (λb A _ l=>r l Em Em) c,(e3 u hu).2.keep hk (λb A _ l=>r l Em Em) c⟩⟩,λj f=>c j (C.own j f)⟩;rcases q with q|q
  .exact OP e2 h.a Em j f q
  .exact h.c.apart i n y z d hz N j f q
 have E:∀(i:Nat) (y:R.Sv×Value),v.zs[i]?=some y->∀j,y.2.ownBlock=some j->j<w.heap.size:=λi y d j f=>h.lt j ((h.c.c y (Ap d)).own j f)
 refine⟨⟨hk.at h.bx (r h.bx Em Em),hk.row h.e (J h.e Em Em),hk.row h.f (J h.f Em Em),?_,?_,⟨λy d=>?_,λi j y L d H o k p s=>?_,h.c.d.keep hk (λl _=>r l Em Em) c⟩,hk.row h.X (J h.X Em Em),h.zc,hk.row h.cl (J h.cl Em Em),λi y d=>hk.row (h.d i y d) (J (h.d i y d) Em Em),λi y d=>?_,hk.at h.C (r h.C Em Em),hk.at h.J (r h.J Em Em),⟨c _ f1,c _ f2,c _ f3⟩,λj f=>c j (h.rows j f),λi y d=>⟨c _ (h.b i y d).1,λj f=>⟨c _ ((h.b i y d).2 j f).1,((h.b i y d).2 j f).2⟩⟩,h.sL,h.inj,B⟩,⟨hk.mono (λk _ q=>hE k q),M⟩⟩
 .show (v.zs.set n ({z.1 with log:=l'},V')).map (·.1)=G.a.set n {z.1 with log:=l'};rw[C4,h.zs]
 .grind
 .grind [List.mem_iff_getElem?]
 .rcases g i y d with ⟨rfl,rfl⟩|⟨q1,P⟩
  .rcases g j L H with ⟨rfl,rfl⟩|⟨r1,Q⟩
   .exact absurd I o
   .rcases W k p with e|e
    .exact h.c.apart i j z L hz Q o k e s
    grind
  .rcases g j L H with ⟨rfl,rfl⟩|⟨r1,Q⟩
   .rcases W k s with e|e
    .exact h.c.apart i j y z P hz o k p e
    .have:=E i y P k p;omega
   .exact h.c.apart i j y L P Q o k p s
 .have⟨zl,l1,l2,l3⟩:=h.ln i y d;exact⟨zl,l1,hk.at l2 (r l2 Em Em),λu hu=>(l3 u hu).keep hk (λb A _ l=>r l Em Em) c⟩
def J9(w:Aa)(la:Af)(k:Nat)(pr N:Int)(aa:Addr)(an ac:Nat):Prop:=∃lb,la=Y lb 0/\w.cell? (Y lb (k*7+4))=Z pr/\w.cell? (Y lb (k*7+5))=some (.slice (aa) an ac)/\0<an/\w.cell? aa=Z N
theorem Vo(w:Aa)(v:Af)(n z:Nat)(C:Nat->Int)(hn:n<=1000000000000)(e:C 0=0)(hC:∀k,0<=C k/\C k<65536)(u:∀k,k<n->∃f N r t g s,J9 w v k f N (Y r t) g s/\(-65536<=N/\N<=65536)/\C (k+1)=if f=0 then (C k+N+65536) % 65536 else if N=1 then 0 else C k):
  D7 237 #[.slice v n z] w (Z (C n)) λB=>B=w:=by
 have⟨q,p⟩:=FU u hC;clear u hC
 delta D7
 go_in
 go_wp2;go_loopw [3,4] (λA iv wr=>∃(i:Nat) (c:Int),i<=n/\c=C i/\A=Z c/\iv=Z i/\wr=w) (λ_ iv _=>n-(intOf iv).toNat)
 case atStart=>exact⟨0,0,U,e.symm,I,I,I⟩
 case round=>
  obtain⟨i,c,hi,hc,rfl,rfl,o⟩:=hrel;subst o;clear e;by_cases m:i<n
  .have E:0<=(i:Int):=U;have F:(i:Int)<n:=U;obtain⟨f,N,r,t,g,s,⟨lb,rfl,c4,c5,D,x⟩,l,a⟩:=q i m;have b:=p i;rw[<-hc]at b a;have y:0<(g:Int):=U;have⟨l1,l2⟩:=KM c4 x;by_cases h:f=0
   .rw[Ay h]at a;have G:IntKind.i64.wrap (c+N)=c+N:=Iz;have H:IntKind.i64.wrap (c+N+65536)=c+N+65536:=Iz;have J:Int.tmod (c+N+65536) 65536=(c+N+65536) % 65536:=Ca U;have K:IntKind.i64.wrap ((c+N+65536) % 65536)=(c+N+65536) % 65536:=Iz;have d:Hid ((c+N+65536) % 65536=C (i+1)):=a.symm;subst h;clear a hc b l;go_wp2;go_roundw
    case rel=>exact⟨i+1,_,U,d,Ev,Kc,BR⟩
    case measure=>exact Kt
   .rw[Ao h]at a;by_cases j:N=1
    .rw[Ay j]at a;have d:Hid (0=C (i+1)):=a.symm;subst j;clear a hc b l;go_wp2;go_roundw
     case rel=>exact⟨i+1,0,U,d,I,Kc,BR⟩
     case measure=>exact Kt
    .rw[Ao j]at a;have d:=a.symm;clear a hc b l;go_wp2;go_roundw
     case rel=>exact⟨i+1,c,U,d,I,Kc,BR⟩
     case measure=>exact Kt
  .obtain rfl:i=n:=U;have d:=Dx hc;clear hc q p;go_wp2;go_returns;rw[<-Dw d];exact DN
theorem fY(w:Aa)(x:Af)(n D:Nat)d(Q:Nat->Value->Prop)(hn:n<=1000000000000)(t:Q 0 Dz)(u:∀k,k<n->∃y N f g b a,J9 w x k y N (Y f g) b a/\2<=b/\b<=a/\(N=d->(a=2->Q (k+1) (.slice (Y f g) 0 0))/\(a≠2->Q (k+1) (.slice (Y f (g+4)) (b-2) (a-2))))/\(N≠d->∀V,Q k V->Q (k+1) V)):
  ET 239 #[.slice x n D,Z d] w λe F=>(∃V,e=.returned V/\Q n V)/\F=w:=by
 have⟨r,q⟩:=FU u t;clear u t
 delta ET
 go_in
 go_wp2;go_loopw [5,6] (λE iv wr=>∃i:Nat,i<=n/\Q i E/\iv=Z i/\wr=w) (λ_ iv _=>n-(intOf iv).toNat)
 case atStart=>exact⟨0,U,q,I,I⟩
 case round=>
  obtain⟨i,hi,v,rfl,m⟩:=hrel;subst m;have s:=Dx v;clear v;by_cases l:i<n
  .have L:0<=(i:Int):=U;have M:(i:Int)<n:=U;obtain⟨y,N,f,g,b,a,⟨lb,rfl,c4,c5,K,z⟩,B,C,h,c⟩:=r i l;have A:0<(b:Int):=U;have⟨l1,l2⟩:=KM c4 z;by_cases hd:N=d
   .have⟨o,p⟩:=h hd;subst hd;by_cases j:a=2
    .have HS:=Dx (o j);obtain rfl:b=2:=U;subst j;clear o p c h;exact wE
    .have HS:=Dx (p j);obtain⟨G,H,J⟩:(2:Int)<=b/\(b:Int)<=a/\(2:Int)<=a:=U;clear o p c h;exact wE
   .have HS:=Dx (c hd _ s);clear c h;exact wE
  .obtain rfl:i=n:=U;clear r q;go_wp2;go_returns;exact⟨⟨_,I,s⟩,I⟩
def N5(w:Aa)(la:Af)(k:Nat)(pr:Int)(s:Ab):Prop:=∃lb ab ao an ac,la=Y lb 0/\w.cell? (Y lb (k*7+4))=Z pr/\w.cell? (Y lb (k*7+5))=some (.slice (Y ab ao) an ac)/\0<an/\w.cell? (Y ab (ao+1))=some (.string s)
def kH(w:Aa)(a:Af)(ps:List ByteArray):Prop:=ps=[]\/∃g off,a=Y g off/\∀(j:Nat) (s:Ab),ps[j]?=s->w.cell? (Y g (off+j))=some (.string s)
theorem aK{a:List ByteArray}{s:Ab}(h:a[j]?=s):(strs a)[j]?=some (.string s):=by grind [strs]
theorem XN(w:Aa)(la:Af)(n lc:Nat)(P:Nat->List ByteArray)(hn:n<=1000000000)(C:P 0=[])(D:∀k,(P k)<=k)(hE:∀k,k<n->∃G s,N5 w la k G s/\(G=0->P (k+1)=P k++[s])/\(G≠0->P (k+1)=P k)):
  ET 238 #[.slice la n lc] w λe w'=>(∃a c,e=.returned (.slice a ((P n).drop ((P n)-4)) c)/\((P n).drop ((P n)-4))<=c/\c<=maxLen/\kH w' a ((P n).drop ((P n)-4)))/\DY w w':=by
 have⟨i0,hi,ad,ae,ah⟩:=A1 jJ;have⟨HE,t⟩:=FU hE D;have HS:Hid (w.ownsRow w.heap.size 9 1 Dz (P 0).length (strs (P 0))):=by
  rw[C];exact⟨I,Aj ⟨I,I⟩⟩
 clear hE D C
 delta ET
 go_in
 go_wp2;go_loopw [3,4] (λov iv wr=>∃i:Nat,i<=n/\iv=Z i/\wr.ownsRow w.heap.size 9 1 ov (P i).length (strs (P i))/\DY w wr) (λ_ iv _=>n-(intOf iv).toNat)
 case atStart=>exact⟨0,AV _,I,HS,AA _ _⟩
 case round=>
  obtain⟨i,aN,rfl,b,d⟩:=hrel;by_cases X:i<n
  .have aa:=d.size;have p0:0<=(i:Int):=U;have p1:(i:Int)<n:=U;have y:=t i;obtain⟨G,s,⟨lb,ab,ao,an,ac,rfl,c4,c5,ha,l⟩,hy,x⟩:=HE i X;have az:0<(an:Int):=U;have d4:=(d.cell (p:=Y lb _) (Gv c4)).trans c4;have d5:=(d.cell (p:=Y lb _) (Gv c5)).trans c5;have ds:=(d.cell (p:=Y ab _) (Gv l)).trans l;by_cases T:G=0
   .have hP:=hy T;subst T;have o:=λq=>Ba b q
    have⟨K,F,v⟩:=Fa b;subst v;have⟨Q,f,M,N⟩:=bE b d o hP;clear b d o hP hy x c4 c5 l;go_wp2_with (at_builtin;go_must (refine AQ _ I (.tmp 17) (.tmp 26) 36 I w.heap.size 9 i0 (.string ⟨#[]⟩) 1 16 underlying36 hi ad ae ah I Em (.slice K (P i).length F) (P i).length (strs (P i)) I (by exact Q.alloc _) (Y _ 0) 1 1 [.string s] I I (by exact Ur) Vd JG U Fy ?_;intro v' wz r h aq W))
    have E:wz.ownsRow w.heap.size 9 1 v' (P (i+1)).length (strs (P (i+1))):=by
     rw[Dw N,AJ];simpa [strs] using r
    have u:=Dx E;have L:=Dx ((f.alloc aa _).grown h Fy (λq hq=>(M q hq).1));clear r h W E;go_wp2;go_roundw
    case rel=>exact⟨i+1,U,Kc,u,L⟩
    case measure=>exact Kt
   .have u:Hid (wr.ownsRow w.heap.size 9 1 u3 (P (i+1)).length (strs (P (i+1)))):=by
     rw[x T];exact b
    have f:=Dx d;clear b d hy x c4 c5 l;go_wp2;go_roundw
    case rel=>exact⟨i+1,U,Kc,u,f⟩
    case measure=>exact Kt
  .obtain rfl:i=n:=U;have y:=t i;obtain⟨A,z⟩:∃A,A=P i:=DR;rw[<-z]at b y;obtain⟨m,J⟩:∃m,A.length=m:=DK;rw[J]at b y;have⟨B,HM⟩:=FU z J;clear HE t HS z;by_cases h4:m<=4
   .have⟨K,F,v⟩:=Fa b;subst v;have O:Hid ((A.drop (m-4)).length=m/\m<=F/\F<=maxLen/\kH wr K (A.drop (m-4))):=by
     rw[show m-4=0 by omega,De];rcases b.2 with ⟨q1,q2⟩|⟨g,cap,S,q,_,_,q3,q4,_⟩
     .cases q1;exact⟨J,U,JG,Aj (B6.1 U)⟩
     .cases q;refine⟨J,q3,q4,Am ⟨g,0,I,λj s H=>?_⟩⟩;have:=b.cells (g:=g) I j _ (aK H)
      rwa [Bc]at this
    have f:=Dx d;have k4:¬(4:Int)<m:=U;clear b d;go_wp2;go_returns;rw[<-Dw B,Dw HM];have⟨r1,r2,r3,r4⟩:=Dw O;exact⟨⟨K,F,by rw[show m-(m-4)=m by omega];rfl,U,r3,r4⟩,f⟩
   .obtain⟨q,rfl⟩:∃q,m=q+4:=⟨m-4,U⟩;rcases b.2 with ⟨_,q2⟩|⟨g,cap,S,hv,_,_,q3,q4,_⟩
    .omega
    subst hv;have O:Hid ((A.drop (q+4-4)).length=4/\4<=cap-q/\cap-q<=maxLen/\kH wr (some (Y g q)) (A.drop (q+4-4))):=by
     refine⟨by rw[A9];omega,U,U,Am ⟨g,q,rfl,λj s H=>?_⟩⟩;rw[Nat.add_sub_cancel,Cn]at H;have:=b.cells (g:=g) I _ _ (aK H)
     rwa [Bc,Cr]at this
    have f:=Dx d;have k4:(4:Int)<q+4:=U;have e1:IntKind.i64.wrap ((q:Int)+4-4)=(q:Int):=Iz;have e2:IntKind.i64.wrap (q:Int)=q:=Iz;obtain⟨k5,k6,k7,k8,k9⟩:0<=(q:Int)/\(q:Int)<=q+4/\(q:Int)+4<=(cap:Int)/\¬q=cap/\¬cap=q:=U;clear b d;go_wp2;go_returns;rw[<-Dw B,Dw HM];have⟨r1,r2,r3,r4⟩:=Dw O;exact⟨⟨some (Y g q),cap-q,by rw[r1];simp,U,r3,r4⟩,f⟩
theorem Tb(w:Aa)k:V.Row (w.alloc (.cells #[Z k,.string ⟨#[]⟩] 73)) w (EJ w 1 1) [R.num k]:=
 CW (base:=w.heap.size) (e:=73) (size:=2) w #[Z k,.string ⟨#[]⟩] 1 (Ar _) JG rfl
theorem ZL(w:Aa)(L:Ad)(f c N:Int)(g h b i:Nat)(l:0<b)(j:EB w g h (Z N))(hc:0<=c/\c<65536)(hN:-65536<=N/\N<=65536)(H:Hid (D7 237 #[L] w (Z c) λa=>a=w)):
  ET 194 #[Z 0,L,Z f,.slice (Y g h) b i] w λe a=>∃O,e=.returned O/\V.Row a w O [R.num (if f=0 then (c+N+65536) % 65536 else c)]/\DY w a:=by
 have k:0<(b:Int):=U;have l1:=Gv j;by_cases d:f=0
 .rw[Ay d,show (c+N+65536) % 65536=(c+N) % 65536 by omega];subst d;have m:IntKind.i64.wrap (c+N)=c+N:=Iz;have n:IntKind.i64.wrap (c+N+65536)=c+N+65536:=Iz;have o:Int.tmod (c+N+65536) 65536=(c+N+65536) % 65536:=Ca U;have p:IntKind.i64.wrap ((c+N+65536) % 65536)=(c+N+65536) % 65536:=Iz;have HR:=Dx (Tb w ((c+N) % 65536));exact abY
 .rw[Ao d];have HR:=Dx (Tb w c);exact abY
theorem gh(d:DY w w1){l:List V.It}(h:V.Row w2 w1 O l):V.Row w2 w O l:=by
 have⟨b,c⟩:=h;refine⟨b,c.imp (λq=>q) ?_⟩;rintro ⟨g,cap,a,e,f,i⟩;exact⟨g,cap,a,e,Br d.size f,i⟩
theorem fP(w:Aa)(L A:Ad)(m:Nat)(f:m<=4)(H:Hid (ET 238 #[L] w λe b=>(∃a c,e=.returned (.slice a m c))/\DY w b)):
  ET 194 #[Z 1,L,Z 0,A] w λe b=>∃O,e=.returned O/\V.Row b w O [R.num (min 4 (m+1))]/\DY w b:=by
 have e1:IntKind.i64.wrap ((m:Int)+1)=(m:Int)+1:=Iz;by_cases d:m=4
 .subst d;have HB:Hid (∀w1,DY w w1->V.Row (w1.alloc (.cells #[Z 4,.string ⟨#[]⟩] 73)) w.heap.size (EJ w1.heap.size 1 1) [R.num (min 4 (((4:Nat):Int)+1))]/\DY w (w1.alloc (.cells #[Z 4,.string ⟨#[]⟩] 73))):=λw1 hb=>⟨gh hb (Tb w1 4),hb.alloc hb.size _⟩
  clear f;exact abn
 .have g:¬(4:Int)<m+1:=U;have e2:min 4 ((m:Int)+1)=(m:Int)+1:=U;rw[e2];have HB:Hid (∀w1,DY w w1->V.Row (w1.alloc (.cells #[Z ((m:Int)+1),.string ⟨#[]⟩] 73)) w.heap.size (EJ w1.heap.size 1 1) [R.num ((m:Int)+1)]/\DY w (w1.alloc (.cells #[Z ((m:Int)+1),.string ⟨#[]⟩] 73))):=λw1 hb=>⟨gh hb (Tb w1 _),hb.alloc hb.size _⟩
  clear f d e2;exact abn
def DZ(w:Aa)(V:Ad)(l:List R.It):Prop:=∃a c,V=.slice a l c/\(l=[]\/∃b off,a=Y b off/\∀(j:Nat) (u:Ad),(tab Ik l)[j]?=u->w.cell? (Y b (off+j))=u)
theorem mo(a:DY w W){off:Nat}{l:List R.It}(h:∀(j:Nat) (u:Ad),(tab Ik l)[j]?=u->EB w b (off+j) u):∀(j:Nat) (u:Ad),(tab Ik l)[j]?=u->W.cell? (((Y b off):Addr).add j)=u:=λj u hu=>by
 rw[Bc];exact(a.cell (p:=Y b _) (Gv (h j u hu))).trans (h j u hu)
theorem Z6(w:Aa)(k m:Int):(w.alloc (.cells #[Z k,.string ⟨#[]⟩,Z m,.string ⟨#[]⟩] 73)).ownsRow w 73 2 (EJ w 2 2) 2 (tab Ik [R.num k,R.num m]):=
 CW (base:=w.heap.size) (e:=73) (size:=2) w #[Z k,.string ⟨#[]⟩,Z m,.string ⟨#[]⟩] 2 (Ar _) JG rfl
theorem Y7(l:List R.It):(tab Ik l)=l.length*2:=by grind [Ik,F8]
theorem dX(l:List R.It):∀u∈tab Ik l,u.oneCell'=true:=by
 induction l with
 |nil=>intro u hu;cases hu
 |cons x l ih=>
  intro u hu;rcases Bj.1 (show u∈Ik x++tab Ik l from hu) with q|q
  .simp[Ik]at q;rcases q with rfl|rfl<;>rfl
  .exact ih u q
theorem fO(w:Aa)(L:Ad)(S d:Int)(B C t G:Nat)(l:List R.It)(hl:l.length<=1000)(ha:0<t)(J:EB w B C (Z d))(H:Hid (ET 239 #[L,Z d] w λe j=>(∃V,e=.returned V/\DZ w V l)/\j=w)):
  ET 194 #[Z 2,L,Z S,.slice (Y B C) t G] w λe j=>∃O,e=.returned O/\V.Row j w O (if l.length=0 then [R.num 0,R.num 0] else R.num 1 :: R.num l :: l)/\DY w j:=by
 have⟨i0,hi,y,z,A⟩:=A1 V.LQ;have K:0<(t:Int):=U;have l1:=Gv J;by_cases i:l=[]
 .subst i;have F:=Z6 w 0 0
  delta ET
  go_in
  go_wp2_with (go_at_call 239;refine H.mono ?_;rintro e w1 ⟨⟨V,rfl,a,c,rfl,u⟩,g⟩;rw[g];clear g u)
  go_returns;exact⟨_,I,F,F9⟩
 .obtain⟨m,D⟩:∃m,l.length=m:=DK;have M:¬m=0:=λe=>i (B6.1 U)
  have N:¬(m:Int)=0:=U;rw[Ao U,D];have P:m<=1000:=U;have⟨o,s,p⟩:=Ll D (Z6 w 1 (m:Int)) i;clear hl i
  delta ET
  go_in
  go_wp2_with (first
   |(go_at_call 239;refine H.mono ?_;rintro e w1 ⟨⟨V,rfl,a,c,rfl,u⟩,g⟩;rw[g];clear g;rw[Dw o];rcases u with q|⟨W,X,rfl,h⟩;exact absurd q (Dw p);have n:=Dx h;clear h)
   |(at_builtin;go_must (refine AQ _ rfl (.tmp 96) (.tmp 97) 37 rfl w.heap.size 73 i0 (.agg #[Z 0,.string ⟨#[]⟩]) 2 24 underlying37 hi y z A rfl Em (EJ w.heap.size 2 2) 2 (tab Ik [R.num 1,R.num (m:Int)]) rfl (by exact Dw s) (Y W X) m c (tab Ik l) rfl (by rw[Y7,Dw o]) (by exact mo ((AA w.heap.size w).alloc (Ar _) _) n) (dX l) JG U Ev ?_;intro T wz f b E v)))
  have r:Hid (V.Row wz w.heap.size T (R.num 1 :: R.num (m:Int) :: l)):=by
   refine Dx (?_:V.Row _ _ _ _);unfold V.Row;rw[Qc,show (R.num 1 :: R.num (m:Int) :: l).length=2+m by simp[Dw o];omega];exact f
  have k:=Dx ((((AA w.heap.size w).alloc (Ar _) _).grown b Ev (λq Q=>by cases Q;exact Ar _)));have⟨va,vc,x⟩:=Fa f;subst x;clear f b v;go_wp2;go_returns;exact⟨_,I,r,k⟩
theorem fQ(w:Aa)(L:Ad)(h k j u q:Nat)(ps:List ByteArray)(v:ps.length<=4)(B:0<j)N(x:N=(q:Int))(hq:q<ps)(r:w.cell? (Y h k)=Z N)(H:Hid (ET 238 #[L] w λe d=>(∃a c,e=.returned (.slice a ps c)/\ps<=c/\c<=maxLen/\kH d a ps)/\DY w d)):
  ET 194 #[Z 1,L,Z 1,.slice (Y h k) j u] w λe d=>∃O,e=.returned O/\V.Row d w O (Hm q ps q)/\DY w d:=by
  have⟨i0,hi,hz0,hz1,hz2⟩:=A1 V.LQ;have y:0<(j:Int):=U;have l1:=Gv r;have t:=(by omega:q<=ps.length);subst x;have A:(q:Int)<(ps.length:Int):=U;have k2:0<=(q:Int):=U;obtain⟨m,n⟩:∃m,ps.length=m:=DK;rw[n]at H A t v hq;have HM:=Dx n;clear n
  delta ET
  go_in
  go_wp2_with (go_at_call 238;refine(Dw H).mono ?_;rintro e w1 ⟨⟨a,c,rfl,z,o,b⟩,f⟩;have l:=(f.cell (p:=Y h k) l1).trans r;have l2:=Gv l;have hbs:=f.size;have HB:=Dx f;have HTX:=Dx b;have g1:(q:Int)<=c:=U;have HS:=Dx (CW (base:=w1.heap.size) (e:=73) (size:=2) w1 #[Z q,.string ⟨#[]⟩] 1 (Ar _) JG rfl);clear f b o)
  exact LO
theorem nG(w:Aa)(L:Ad)(h k j r q:Nat)(ps:List ByteArray)(t:ps.length<=4)(z:0<j)N(u:(ps:Int)<=N)(hq:q=ps)(n:w.cell? (Y h k)=Z N)(H:Hid (ET 238 #[L] w λe d=>(∃a c,e=.returned (.slice a ps c)/\ps<=c/\c<=maxLen/\kH d a ps)/\DY w d)):
  ET 194 #[Z 1,L,Z 1,.slice (Y h k) j r] w λe d=>∃O,e=.returned O/\V.Row d w O (Hm q ps q)/\DY w d:=by
  have⟨i0,hi,hz0,hz1,hz2⟩:=A1 V.LQ;have v:0<(j:Int):=U;have l1:=Gv n;have o:=(by omega:q<=ps.length);have x:¬N<(q:Int):=U;rw[<-hq]at H o t;have HM:=hq.symm;clear u hq
  delta ET
  go_in
  go_wp2_with (go_at_call 238;refine(Dw H).mono ?_;rintro e w1 ⟨⟨a,c,rfl,y,m,b⟩,f⟩;have l:=(f.cell (p:=Y h k) l1).trans n;have l2:=Gv l;have hbs:=f.size;have HB:=Dx f;have HTX:=Dx b; have HS:=Dx (CW (base:=w1.heap.size) (e:=73) (size:=2) w1 #[Z q,.string ⟨#[]⟩] 1 (Ar _) JG rfl);clear f b m)
  exact LO
theorem Lg.entry{V:Ad}(h:Lg w F V l):∃o p,V=.slice o l p/\∀(k:Nat) (e:R.En),l[k]?=e->∃lb A,o=Y lb 0/\EB w lb (k*7+4) (Z e.g)/\EB w lb (k*7+5) A/\Gg w F A e.arg:=by
 have⟨q,g,i,r⟩:=h.row;have d:q.length=l.length:=by rw[<-g,AX]
 have⟨a,c,f⟩:=Fa i;rw[d]at f;refine⟨a,c,f,λk e j=>?_⟩;have hk:=GG j;obtain⟨y,n,rfl⟩:=K4 g j;have⟨lb,p,m,_,b,_⟩:=Jx Pz U i n;rw[f,d]at m;cases m;exact⟨lb,y.2.1,I,b 4 _ U I,b 5 _ U I,(r y (Ap n)).1⟩
theorem Gg.first{v:List R.It}(h:Gg w F A v)(g:v≠[]):∃a c d,A=.slice (Y a c) v d/\v<=d/\w.cell? (Y a c)=Z (R.IJ v 0)/\w.cell? (Y a (c+1))=some (.string (R.Tt v 0)):=by
 rcases h with ⟨f,_⟩|⟨b,off,cap,e,_,f,i,_,j,k⟩;all_goals grind [World.cell?,R.IJ,R.Tt]
theorem RG:∀(l:List R.En) (n:Int) (e:R.En),R.Fh (l++[e]) n=if e.g=0 then (R.Fh l n+R.IJ e.arg 0+65536) % 65536 else if R.IJ e.arg 0=1 then 0 else R.Fh l n
 |[],n,e=>rfl
 |x :: l,n,e=>by
  rw[BB,R.Fh,RG l _ e];rfl
theorem Py:∀(l:List R.En) (n:Int),0<=n/\n<65536->0<=R.Fh l n/\R.Fh l n<65536
 |[],_,h=>h
 |x :: l,n,h=>by
  rw[R.Fh];refine Py l _ ?_;split
  .omega
  .split<;>omega
theorem Yz{V:Ad}(h:Lg w F V l)(hl:l.length<=1000000000)(i:∀e∈l,e.arg≠[]/\-65536<=R.IJ e.arg 0/\R.IJ e.arg 0<=65536):D7 237 #[V] w (Z (R.Fh l 0)) λr=>r=w:=by
 obtain⟨j,m,rfl,g⟩:=h.entry;have:=Vo w j l.length m (λk=>R.Fh (l.take k) 0) U I (λk=>Py _ _ U) (λk hk=>by
  obtain⟨e,a⟩:∃e,l[k]?=some e:=⟨_,Ah hk⟩;have⟨lb,A,n,o,p,q⟩:=g k e a;have⟨a1,a2⟩:=i e (Ap a);obtain⟨b,d,c,rfl,s,f,_⟩:=q.first a1;refine⟨e.g,R.IJ e.arg 0,b,d,e.arg.length,c,⟨lb,n,o,p,Cg.2 a1,f⟩,a2,?_⟩;show R.Fh (l.take (k+1)) 0=_;rw[Bh,a,Cm,RG])
 simpa using this
theorem Gg.rest{v:List R.It}(h:Gg w F (.slice (Y ab ao) an ac) v):(v.length=2->DZ w (.slice (Y ab ao) 0 0) (v.drop 2))/\DZ w (.slice (Y ab (ao+4)) (an-2) (ac-2)) (v.drop 2):=by
 rcases h with ⟨_,a⟩|⟨b,off,cap,c,_,a,i,_,k,l⟩
 .cases a
 .cases a;refine⟨λh=>⟨_,_,by rw[A9,h],Aj (List.drop_eq_nil_of_le U)⟩,?_⟩;by_cases d:v.drop 2=[]
  .exact⟨_,_,by rw[A9],Aj d⟩
  .refine⟨_,_,by rw[A9],Am ⟨ab,ao+4,I,λj u hu=>?_⟩⟩;have e:=GG hu;rw[Y7]at e;obtain⟨x,g⟩:∃x,(v.drop 2)[j / 2]?=some x:=⟨_,Ah U⟩;have m:=Jh (f:=Ik) (n:=2) (λ_=>rfl) (v.drop 2) (j / 2) (j % 2) x g U
   grind [Ik,World.cell?]
theorem sJ{V:Ad}(h:Lg w F V l)(hl:l.length<=1000000000)d(p:∀e∈l,2<=e.arg.length):ET 239 #[V,Z d] w λe x=>(∃V,e=.returned V/\DZ w V (R.I6 l d []))/\x=w:=by
 obtain⟨r,s,rfl,n⟩:=h.entry;have:=fY w r l.length s d (λk V=>DZ w V (R.I6 (l.take k) d [])) U ⟨none,0,I,Aj I⟩ (λk hk=>by
  obtain⟨e,b⟩:∃e,l[k]?=some e:=⟨_,Ah hk⟩;have⟨lb,A,t,u,v,c⟩:=n k e b;have a1:=p e (Ap b);have a2:e.arg≠[]:=λq=>by rw[q]at a1;simp at a1
  obtain⟨f,i,g,rfl,j,m,_⟩:=c.first a2;have a:l.take (k+1)=l.take k++[e]:=by rw[Bh,b,Cm]
  refine⟨e.g,R.IJ e.arg 0,f,i,e.arg.length,g,⟨lb,t,u,v,U,m⟩,a1,j,λhd=>⟨λhc=>?_,λ_=>?_⟩,λhd V o=>?_⟩
  .show DZ w _ (R.I6 (l.take (k+1)) d []);rw[a,QU,Ay hd];exact c.rest.1 U
  .show DZ w _ (R.I6 (l.take (k+1)) d []);rw[a,QU,Ay hd];exact c.rest.2
  .show DZ w _ (R.I6 (l.take (k+1)) d []);rw[a,QU,Ao hd];exact o)
 simpa using this
def Ou(l:List R.En):List ByteArray:=(l.filter λe=>decide (e.g=0)).map λe=>R.Tt e.arg 0
theorem V3(l:List R.En)(e:R.En):Ou (l++[e])=if e.g=0 then Ou l++[R.Tt e.arg 0] else Ou l:=by grind [Ou]
theorem fB{V:Ad}(h:Lg w F V l)(hl:l.length<=1000000000)(g:∀e∈l,e.arg≠[]):ET 238 #[V] w λe i=>(∃a c,e=.returned (.slice a (R.Fe l) c)/\(R.Fe l)<=c/\c<=maxLen/\kH i a (R.Fe l))/\DY w i:=by
 obtain⟨q,r,rfl,p⟩:=h.entry;have:=XN w q l.length r (λk=>Ou (l.take k)) U I (λk=>by
  unfold Ou;rw[AX];exact Br (List.length_filter_le _ _) (by rw[Bv];omega)) (λk hk=>by
  obtain⟨e,b⟩:∃e,l[k]?=some e:=⟨_,Ah hk⟩;have⟨lb,A,s,t,u,v⟩:=p k e b;obtain⟨j,n,m,rfl,x,_,o⟩:=v.first (g e (Ap b));have f:l.take (k+1)=l.take k++[e]:=by rw[Bh,b,Cm]
  refine⟨e.g,R.Tt e.arg 0,⟨lb,j,n,e.arg.length,m,s,t,u,Cg.2 (g e (Ap b)),o⟩,λd=>?_,λd=>?_⟩
  .show Ou (l.take (k+1))=_;rw[f,V3,Ay d]
  .show Ou (l.take (k+1))=_;rw[f,V3,Ao d])
 simp only[Cw]at this;exact this
end Go.Proofs.YtblomippkddgiabGreatDoor
