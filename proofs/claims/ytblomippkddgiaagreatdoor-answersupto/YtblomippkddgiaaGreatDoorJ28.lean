import Derived.Test.YtblomippkddgiaaGreatDoorJ27
import Derived.Test.YtblomippkddgiaaGreatDoorJ26
set_option maxRecDepth 100000
set_option maxHeartbeats 2000000
namespace Go.Proofs.YtblomippkddgiaaGreatDoor
open Go.Proofs.Tryz
open Go.RowKit
variable {S:ByteArray}{F:D9}{nm:List (List UInt8)}{st:List Int}{xs:List Value}{B i k n size x:Nat}{l:R.Ln}{G:R.Wd}{v:RV}{e:TypeId}{W w wz:World}
theorem PH(w:Aa)(B:Nat)(hB:w.heap.size=B)(t:Ag)(l:Ae)(j:Nat)(u:Ad)(h:l[j]?=some u):(w.alloc (.cells l.toArray t)).cell? (((Y B 0):Addr).add j)=some u:=by grind [LH]
theorem UO{a:Addr}{v:Ad}:(w.setCell a v).heap.size=w.heap.size:=by simp[World.setCell]
theorem uZ(w:Aa)(x:Nat)(v:RV)(F:D9)(G:R.Wd)(h:RM x v F G w)(name:Ac)(Dz:Int)(cX:¬Dz<0)(d6:¬2<Dz)(bz:R.Gf name=true)(bp:Jv G.Eu name=-1)(d7:G.Eu.length<6)(bL:G.Ec.length=G.Eu.length)(da:G.Dy.length<255):
  D7 159 #[Ey x,.string (str name),Z Dz] w (.tuple #[Z ((G.Dy.length:Int)+1),Z 0]) λw'=>∃v' F',RM x v' F' {G with Eu:=G.Eu++[name],Ec:=G.Ec++[(G.Dy.length:Int)+1],Dy:=G.Dy++[⟨Dz,true,[]⟩]} w'/\D8 F F' w w':=by
 have⟨D,M⟩:=FU (λw=>PL name w) (h.entry U name);rw[bz]at D;rw[bp]at M;have hzl:v.zs.length=G.Dy.length:=by rw[<-h.zs,AX]
 have⟨aN,cN,hN⟩:=E8 h.Eu;have⟨aV,cV,hV⟩:=E8 h.Iw;rw[hzl]at hV;have x5:EB w x 5 (.slice aN G.Eu.length cN):=ED h.bx 5 _ (by rw[<-hN];rfl);have x7:EB w x 7 (.slice aV G.Dy.length cV):=ED h.bx 7 _ (by rw[<-hV];rfl);have⟨aS,cS,hS⟩:=E8 h.Ec;have x6:EB w x 6 (.slice aS G.Ec.length cS):=ED h.bx 6 _ (by rw[<-hS];rfl);have hx:=Gv x5;have⟨HS,bb⟩:=FU hS hV;have eu:IntKind.i64.wrap ((G.Dy.length:Int)+1)=(G.Dy.length:Int)+1:=Iz;have cP:((G.Eu.length:Int)==6)=false:=Fy;have cQ:((G.Dy.length:Int)==255)=false:=Fy;have⟨iS,cu,cg,ch,ci⟩:=A1 jJ;have⟨iI,ct,ca,cc,ce⟩:=A1 Xk;have⟨iV,cy,co,cp,cq⟩:=A1 sw;have g:=h.Eu;rw[hN]at g;have⟨b6,HH,HN,ba⟩:=bE g h hN bL;clear h hN hV g bz bp bL hS;go_enter func159,ntmps159;go_wp2_with (first|(go_at_call 215;refine cm (D _) λw1 aa=>?_;rw[aa];clear aa D)|(go_at_call 216;refine cm M λw1 aa=>?_;rw[aa];clear aa M)|(at_builtin;go_must (refine AQ _ rfl (.tmp 72) (.tmp 74) 222 rfl 0 9 iS (.string ⟨#[]⟩) 1 16 underlying222 cu cg ch ci rfl Em (.slice aN G.Eu.length cN) G.Eu.length (KG G.Eu) rfl (by exact b6.alloc _) (EN w 0) 1 1 [.string (str name)] rfl rfl (by exact LH w 9 [.string (str name)]) Vd JG U U ?_)))
 intro K1 ae Q bq _ ah;have cz:=HH.uE (W:=w.alloc (.cells #[.string (str name)] 9)) F9 (by rw[Dw HN];exact bq) Q (by rw[Dw HN];exact ah) Ev;have⟨m,y,u,bS⟩:=Ei Q;subst bS;have⟨ac,F1,ao,ar⟩:=cz;have u5:=(AR ac).trans x5;have z5:=(A8 ac).trans (Hf HH.bx 5);have l5:=Gv u5;have u6:=(AR ac).trans x6;have j:=ao.Ec;rw[show ({v with N:=Value.slice m y u}:RV).S=.slice aS G.Ec.length cS from Dw HS]at j;have⟨b7,am,be⟩:=Ll j ao ar;have d8:w.heap.size<=ae.heap.size:=by have:=ar.E0.size;simpa using this
 have d9:G.Ec.length<=10:=by have:=Dw ba;omega
 clear Q bq ah ac ao ar j b6;go_wp2_with (at_builtin;go_must (refine AQ _ rfl (.tmp 82) (.tmp 84) 35 rfl 0 3 iI (Z 0) 1 8 underlying35 ct ca cc ce rfl Em (.slice aS G.Ec.length cS) G.Ec.length (GK G.Ec) rfl (by exact b7.alloc _) (EN ae 0) 1 1 [Z ((G.Dy.length:Int)+1)] rfl rfl (by exact PH (ae.setCell (Y x 5) (.slice m y u)) _ UO 3 [Z ((G.Dy.length:Int)+1)]) Vd JG U U ?_))
 intro K2 ab T br _ ak;have cC:=am.mX (W:=(ae.setCell (Y x 5) (.slice m y u)).alloc (.cells #[Z ((G.Dy.length:Int)+1)] 3)) F9 (by rw[show ({v with N:=Value.slice m y u}:RV).S=.slice aS G.Ec.length cS from Dw HS];exact br) T (by rw[show ({v with N:=Value.slice m y u}:RV).S=.slice aS G.Ec.length cS from Dw HS];exact ak) Ev;have⟨aw,b3,az,bT⟩:=Ei T;subst bT;have⟨ad,F2,aq,bi⟩:=cC;have b1:=am.bx;have t6:EB ab x 6 (.slice aS G.Ec.length cS):=(AR ad).trans (ED b1 6 _ (by rw[<-Dw HS];rfl));have cE:=(A8 ad).trans (Hf b1 6);have t7:EB ab x 7 (.slice aV G.Dy.length cV):=(AR ad).trans (ED b1 7 _ (by rw[<-Dw bb];rfl));have l6:=Gv t6;have f:=aq.Iw;rw[show v.zs.length=G.Dy.length from hzl]at f;have O:=Dw bb;rw[O]at f;have⟨b9,an,bf⟩:=Ll f aq (be.trans bi);clear T br ak ad aq bi f b7 am be b1 u5 z5 u6;go_wp2_with (at_builtin;go_must (refine AQ _ rfl (.tmp 92) (.tmp 95) 223 rfl 0 271 iV (.agg #[Z 0,.bool false,.slice none 0 0]) 3 40 underlying223 cy co cp cq rfl Em (.slice aV G.Dy.length cV) G.Dy.length (tab svc v.zs) rfl (by exact b9.alloc _) (EN ab 0) 1 1 [Z Dz,.bool true,.slice none 0 0] rfl rfl (by exact PH (ab.setCell (Y x 6) (.slice aw b3 az)) _ UO 271 [Z Dz,.bool true,.slice none 0 0]) Vd JG U U ?_))
 intro K3 cI X bt _ al;have cD:=an.ZG (W:=(ab.setCell (Y x 6) (.slice aw b3 az)).alloc (.cells #[Z Dz,.bool true,.slice none 0 0] 271)) F9 (by rw[O];exact bt) (by rw[show ({({v with N:=Value.slice m y u}:RV) with S:=Value.slice aw b3 az}:RV).zs.length=G.Dy.length from hzl];exact X) (by rw[O];exact al) Ev;have⟨dj,dl,dk,bU⟩:=Ei X;subst bU;have⟨av,v3,F3,bg,bj⟩:=cD;have b2:=an.bx;have s7:EB cI x 7 (.slice aV G.Dy.length cV):=(AR av).trans (ED b2 7 _ (by rw[<-O];rfl));have de:=(A8 av).trans (Hf b2 7);have l7:=Gv s7;have⟨c7,c8⟩:=FU bg (bf.trans bj);clear X bt al av bg bj b9 an bf b2 t6 cE t7 O;go_wp2_with fail
 go_returns;exact⟨rfl,v3,F3,c7,c8⟩
theorem rH(G:R.Wd)(D5:Int):(R.GR G D5).Dy.length=G.Dy.length:=by simp[R.GR]
theorem RH(G:R.Wd)(D5:Int):(R.GR G D5).Ec=G.Ec:=rfl
theorem vd(w:Aa)(x:Nat)(v:RV)(F:D9)(G:R.Wd)(h:RM x v F G w)(ah:G.DN.length=9)(name:Ac)(Dz:Int)(k:Nat)(u0:Int)(cc:¬Dz<0)(ce:¬2<Dz)(aS:R.Gf name=true)(aw:Jv G.Eu name=(k:Int))(bf:G.Eu.length<=6)(O:G.Ec[k]?=some u0)(bz:G.Ec.length<=6)(bi:1<=u0)(bj:u0<=(G.Dy.length:Int))(ch:G.Dy.length<255):
  D7 159 #[Ey x,.string (str name),Z Dz] w (.tuple #[Z ((G.Dy.length:Int)+1),Z 0]) λw'=>∃v' F',RM x v' F' {R.GR G u0 with Ec:=(R.GR G u0).Ec.set k ((G.Dy.length:Int)+1),Dy:=(R.GR G u0).Dy++[⟨Dz,true,[]⟩]} w'/\D8 F F' w w':=by
 have⟨m,u⟩:=FU (λw=>PL name w) (h.entry bf name);rw[aS]at m;rw[aw]at u;have hzl:v.zs.length=G.Dy.length:=by rw[<-h.zs,AX]
 have⟨aV,cV,hV⟩:=E8 h.Iw;have⟨aN,cN,hN⟩:=E8 h.Eu;rw[hzl]at hV;have⟨gS,cS,hS,cu,_,_⟩:=h.Qv O 0;have x5:EB w x 5 (.slice aN G.Eu.length cN):=ED h.bx 5 _ (by rw[<-hN];rfl);have x6:EB w x 6 (EJ gS G.Ec.length cS):=ED h.bx 6 _ (by rw[<-hS];rfl);have x7:EB w x 7 (.slice aV G.Dy.length cV):=ED h.bx 7 _ (by rw[<-hV];rfl);have hx:=Gv x6;have eu:IntKind.i64.wrap ((G.Dy.length:Int)+1)=(G.Dy.length:Int)+1:=Iz;have bL:((G.Dy.length:Int)==255)=false:=Fy;have cg:=GG O;obtain⟨q0,q1,q2⟩:0<=(k:Int)/\(k:Int)<(G.Ec.length:Int)/\¬(k:Int)<0:=U;have⟨iV,be,b9,ba,bb⟩:=A1 sw;have⟨Q,bS,b4⟩:=Ll (h.end_ ah U bi bj) hS O;clear h hN hV aS aw O;go_enter func159,ntmps159;go_wp2_with (first|(go_at_call 215;refine cm (m _) λw1 D=>?_;rw[D];clear D m)|(go_at_call 216;refine cm u λw1 D=>?_;rw[D];clear D u))
 refine cm Q ?_;rintro w1 ⟨v1,F1,f,bq,bp,aq⟩;clear Q;have⟨g1,c1,ae,b7,z1,F2,ad,ar⟩:=f.Qv (k:=k) (u0:=u0) (by rw[RH];exact Dw b4) ((G.Dy.length:Int)+1);rw[RH]at ae;have y6:EB w1 x 6 (EJ g1 G.Ec.length c1):=ED f.bx 6 _ (by rw[<-ae];rfl);have⟨ab,ac,g⟩:=E8 f.Iw;have M:v1.zs.length=G.Dy.length:=by rw[<-rH G u0,<-f.zs,AX]
 rw[M]at g;have y7:EB w1 x 7 (.slice ab G.Dy.length ac):=ED f.bx 7 _ (by rw[<-g];rfl);have co:¬g1=x:=λe=>by
  have hr:=f.Ec;rw[ae]at hr;have⟨c7,hc⟩:=J3 hr rfl;subst e;exact ES hc f.bx Em rfl
 have j:=ad.Iw;rw[M,g]at j;have⟨ci,ca⟩:=KM y6 b7;have⟨am,X,aa,an⟩:=bE j ad g (aq.trans ar);clear f ad aq ar j g x5 x6 x7 cu bq bp;go_wp2_with (at_builtin;go_must (refine AQ _ rfl (.tmp 92) (.tmp 95) 223 rfl 0 271 iV (.agg #[Z 0,.bool false,.slice none 0 0]) 3 40 underlying223 be b9 ba bb rfl Em (.slice ab G.Dy.length ac) G.Dy.length (tab svc v1.zs) rfl (by exact am.alloc _) (EN w1 0) 1 1 [Z Dz,.bool true,.slice none 0 0] rfl rfl (by exact PH (w1.setCell (Y g1 k) (Z ((G.Dy.length:Int)+1))) _ UO 271 [Z Dz,.bool true,.slice none 0 0]) Vd JG U U ?_))
 intro K3 br y az _ T;have bg:=X.ZG (W:=(w1.setCell (Y g1 k) (Z ((G.Dy.length:Int)+1))).alloc (.cells #[Z Dz,.bool true,.slice none 0 0] 271)) F9 (by rw[Dw aa];exact az) (by rw[M];exact y) (by rw[Dw aa];exact T) Ev;have⟨ct,cz,cy,b1⟩:=Ei y;subst b1;have⟨ak,v3,F3,ao,av⟩:=bg;have b2:=X.bx;have s7:EB br x 7 (.slice ab G.Dy.length ac):=(AR ak).trans (ED b2 7 _ (by rw[<-Dw aa];rfl));have cq:=(A8 ak).trans (Hf b2 7);have l7:=Gv s7;have⟨b3,b5⟩:=FU ao (an.trans av);clear y az T ak ao av am X an b2;go_wp2_with fail
 go_returns;exact⟨rfl,v3,F3,b3,b5⟩
theorem RW.export(h:RW x v F G w)(name:Ac)(Dz:Int):D7 159 #[Ey x,.string (str name),Z Dz] w (.tuple #[Z (R.E4 G name Dz).1.1,Z (R.E4 G name Dz).1.2]) λm=>∃D u,RW x D u (R.E4 G name Dz).2 m/\D8 F u w m:=by
 have M:=h.mem;have g:=h.wf;have f:=g.export name Dz;have j:=g.nm;have ab:=g.sv;have hzl:v.zs.length=G.Dy.length:=by rw[<-h.zs,AX]
 have⟨aN,cN,hN⟩:=E8 h.Eu;have⟨aV,cV,hV⟩:=E8 h.Iw;rw[hzl]at hV;have x5:EB w x 5 (.slice aN G.Eu.length cN):=ED h.bx 5 _ (by rw[<-hN];rfl);have x7:EB w x 7 (.slice aV G.Dy.length cV):=ED h.bx 7 _ (by rw[<-hV];rfl);have hno:=λ(e0:Int)=>zX w x (str name) Dz e0 (R.Gf name) (Jv G.Eu name) aN aV G.Eu.length cN G.Dy.length cV (Dx λw=>PL name w) (Dx (M.entry j name)) x5 x7
 have same:∀{e0:Int},ET 159 #[Ey x,.string (str name),Z Dz] w (λe m=>e=.returned (.tuple #[Z 0,Z e0])/\m=w)->D7 159 #[Ey x,.string (str name),Z Dz] w (.tuple #[Z 0,Z e0]) λm=>∃D u,RW x D u G m/\D8 F u w m:=λhc=>hc.mono (by
  rintro e m ⟨rfl,rfl⟩;exact⟨rfl,v,F,h,D8.refl F _⟩)
 unfold R.E4 at f ⊢;by_cases hn:R.Gf name=false
 ·rw[Ay hn];exact same (hno 10 (Aj ⟨hn,rfl⟩))
 ·rw[Ao hn]at f ⊢;rw[Bool.not_eq_false]at hn;by_cases hk:Dz<0\/2<Dz
  ·rw[Ay hk];exact same (hno 9 (Am (Aj ⟨hn,hk,rfl⟩)))
  ·rw[Ao hk]at f ⊢;cases he:R.Gi G name with
   |none=>
    have T:Jv G.Eu name=-1:=by
     rw[M.Gi,he]
    simp only[he]at f ⊢;by_cases Q:G.Eu.length=6
    ·rw[Ay Q];exact same (hno 12 (Am (Am (Aj ⟨hn,U,U,U,Q,rfl⟩))))
    ·rw[Ao Q]at f ⊢;by_cases Lp:G.Dy.length=255
     ·exact acm
     ·rw[Ao Lp]at f ⊢;refine cm (uZ w x v F G M name Dz U U hn T U g.st U) ?_;rintro m ⟨D,u,r1,r2⟩;exact⟨rfl,D,u,r1.whole f h.GQ,r2⟩
   |some k=>
    have T:Jv G.Eu name=(k:Int):=by
     rw[M.Gi,he]
    simp only[he]at f ⊢;have X:=(Bi.1 (R.Jp he)).1;by_cases Lp:G.Dy.length=255
    ·exact acm
    ·rw[Ao Lp]at f ⊢;have aa:k<G.Ec.length:=by rw[g.st];exact X
     have O:G.Ec[k]?=some (G.Ec.getD k 0):=by grind
     have y:=g.Pn _ (Ap O);refine(vd w x v F G M h.GQ.sl name Dz k (G.Ec.getD k 0) U U hn T j O (by rw[g.st];exact j) y.1 y.2 U).mono ?_;rintro e m ⟨rfl,D,u,r1,r2⟩;exact⟨rfl,D,u,r1.whole f (rJ h.GQ y.1),r2⟩
theorem RM.rename{w':Aa}(h:RM x v F G w){K M:Ad}(hk:DF (λk=>k=x) w w')(hx:w'.heap[x]?=some (.cells (Iv G.c {v with N:=K,S:=M}) 229 (0,0)))(hn:w'.ownsRow 0 9 1 K nm.length (KG nm))(hs:w'.ownsRow 0 3 1 M st.length (GK st))(hK:∀j,K.ownBlock=some j->w.heap.size<=j)(hM:∀j,M.ownBlock=some j->w.heap.size<=j):∃v' Q,RM x v' Q {G with Eu:=nm,Ec:=st} w'/\D8 F Q w w':=by
 have⟨T,X,f3⟩:=h.Fw;have u:∀{b:Nat} {ys:Array Value} {t:Ag},w.heap[b]?=some (.cells ys t (0,0))->t≠229->¬b=x:=λm D e=>by
  subst e;exact ES m h.bx D rfl
 have O:∀{n size:Nat} {e:Ag} {M:Ad} {xs:Ae},w.ownsRow 0 e size M n xs->e≠229->∀j,M.ownBlock=some j->¬j=x:=λhr D j g=>by
  all_goals grind [J3]
 refine⟨{v with N:=K,S:=M},λk=>F k\/K.ownBlock=some k\/M.ownBlock=some k,⟨hx,hn,hs,h.zs,hk.row h.Iw (O h.Iw Em),h.I4.keep hk (λm q=>u m (by rcases q with rfl|rfl|rfl<;>decide)) (λ_ q=>Aj q),hk.row h.JC (O h.JC Em),h.zc,hk.row h.cl (O h.cl Em),λi z hz=>hk.row (h.Ee i z hz) (O (h.Ee i z hz) Em),λi z hz=>?_,hk.at h.DX (u h.DX Em),hk.at h.DN (u h.DN Em),⟨Aj T,Aj X,Aj f3⟩,λj g=>?_,λi z hz=>⟨Aj (h.Gs i z hz).1,λj g=>⟨Aj ((h.Gs i z hz).2 j g).1,((h.Gs i z hz).2 j g).2.1,λe=>?_⟩⟩,λe=>?_,h.inj,λk f=>?_⟩,⟨hk.mono (λk _ e=>by rw[e];exact T),λk f=>?_⟩⟩
 ·have⟨zl,D,h2,h3⟩:=h.ln i z hz;exact⟨zl,D,hk.at h2 (u h2 Em),λy hy=>(h3 y hy).keep hk (λb aa _ m=>u m Em) (λ_ q=>Aj q)⟩
 ·rcases g with q|q|q
  ·exact Am (Aj q)
  ·exact Am (Am q)
  ·exact Aj (h.rows j (Am (Am q)))
 ·have:=hM j e;have:=h.lt j ((h.Gs i z hz).2 j g).1;omega
 ·have:=hM v.L e;have:=h.lt v.L X;omega
 ·rcases f with f|f|f
  ·exact Ai (h.lt k f) hk.size
  all_goals grind [J3]
 all_goals grind
def er{α:Type}(l:List α)(k i:Nat):List α:=(l.take i).eraseIdx k
theorem jB{α:Type}(l:List α)(k:Nat):er l k 0=[]:=by simp[er]
theorem rM{α:Type}(l:List α)(k:Nat):er l k l.length=l.eraseIdx k:=by simp[er]
theorem aa4{α:Type}(l:List α)(k:Nat)(y:α)(h:l[k]?=some y):er l k (k+1)=er l k k:=by grind [er,List.take_add_one,List.eraseIdx_cons_zero]
theorem rP{α:Type}(l:List α)(k i:Nat)(y:α)(h:l[i]?=some y)(hk:¬i=k):er l k (i+1)=er l k i++[y]:=by grind [er,List.take_add_one,List.eraseIdx_of_length_le]
theorem rO{α:Type}(l:List α)(k i:Nat):(er l k i).length<=l.length:=by grind [er]
theorem UD{v:Ad}(h:w.ownsRow B e size v n xs):w.ownsRow 0 e size v n xs:=by
 refine⟨h.1,?_⟩;rcases h.2 with q|⟨g,cap,f,j,_,r⟩;all_goals grind
theorem GL{v:Ad}(h:w.ownsRow B e size v n xs){j:Nat}(f:v.ownBlock=some j):B<=j:=by
 rcases h.2 with ⟨q,_⟩|⟨g,cap,m,y,u,r⟩
 ·rw[q]at f;cases f
 ·rw[y]at f;cases f;exact u
theorem V9{B' n' j:Nat}{Q:Ag}{v X:Ad}{ys:Ae}(h:w.ownsRow B e size v n xs)(h':w.ownsRow B' Q j X n' ys)(D:e≠Q)(T:DY w W)(hg:W.grownBy wz X.ownBlock):wz.ownsRow B e size v n xs:=by
 refine⟨h.1,?_⟩;rcases h.2 with q|⟨g,cap,m,hv,u,f,r⟩
 ·exact Aj q
 ·have hl:=(AB.1 f).1;refine Am ⟨g,cap,m,hv,u,?_,r⟩;rw[hg.block g (Ai hl T.size) (λq=>?_),T.block g hl]
  ·exact f
  ·rcases h'.2 with ⟨q',_⟩|⟨g2,_,O,M,_,y,_⟩
   ·rw[q']at q;cases q
   ·rw[M]at q;cases q;exact ES f y D rfl
theorem below_grown{a:Aa}{row:Option Nat}(h:DY a W)(f:W.grownBy wz row)(g:∀k,row=some k->a.heap.size<=k):DY a wz:=
 ⟨f.os.trans h.os,f.tape.trans h.tape,f.output.trans h.output,Br h.size f.size,λk hk=>by
  rw[f.block k (Ai hk h.size) (λe=>by have:=g k e.symm;omega)];exact h.block k hk⟩
structure Ry(w1 wr:Aa)(nm:List (List UInt8))(st:List Int)(nv sv:Ad):Prop where
 DG:Below w1.heap.size w1 wr
 n:wr.ownsRow w1.heap.size 9 1 nv nm.length (KG nm)
 s:wr.ownsRow w1.heap.size 3 1 sv st.length (GK st)
theorem Ry.start(f:Aa):Ry f f [] [] (.slice none 0 0) (.slice none 0 0):=⟨AA _ _,AZ _ _ _ _,AZ _ _ _ _⟩
theorem gL{f:Aa}{u0:Int}{gS cS gN cN:Nat}(ad:World->Prop)(hk:k<n)(hn:nm.length=n)(hs:st.length=n)(cI:n<=6)(x6:EB w x 6 (EJ gS n cS))(cu:EB w gS k (Z u0))(ab:Hid (D7 216 #[Ey x,.string S] w (Z k) λw'=>w'=w))(ac:Hid (D7 217 #[Ey x,Z u0] w Ep λw'=>w'=f))
  (y5:EB f x 5 (EJ gN n cN)) (y6:EB f x 6 (EJ gS n cS)) (hz:∀o,f.frozen? (Y x o)=false) (b5:∀(i:Nat) (y:Ac),nm[i]?=some y->EB f gN i (.string (str y))) (b6:∀(i:Nat) (y:Int),st[i]?=some y->EB f gS i (Z y))
  (hP:∀wr nv sv,Ry f wr (nm.eraseIdx k) (st.eraseIdx k) nv sv->ad ((wr.setCell (Y x 5) nv).setCell (Y x 6) sv)):
  D7 161 #[Ey x,.string S] w (Z 0) λw'=>ad w':=by
 have⟨hx,cD⟩:=KM x6 cu;obtain⟨q0,q1,q2⟩:0<=(k:Int)/\(k:Int)<n/\¬(k:Int)<0:=U;have⟨iS,bU,bt,bz,bL⟩:=A1 jJ;have⟨iI,bT,bj,bp,bq⟩:=A1 Xk;have D:=Gv y5;have⟨bf,aq,HP⟩:=Ll b5 b6 hP;have bg:=hz 5;have bi:=hz 6;have⟨Y5,Y6⟩:=FU y5 y6;clear b5 b6 hP hz y5 y6;go_enter func161,ntmps161;go_wp2_with (first|(go_at_call 216;refine cm ab λw2 u=>?_;rw[u];clear u ab)|(go_at_call 217;refine cm ac λw2 u=>?_;rw[u];clear u ac))
 go_loopw [6,7,8] (λnv sv iv wr=>∃i:Nat,i<=n/\iv=Z i/\Ry f wr (er nm k i) (er st k i) nv sv) (λ_ _ iv _=>n-(intOf iv).toNat)
 case atStart=>exact⟨0,AV _,rfl,by rw[jB,jB];exact Ry.start f⟩
 case round=>
  obtain⟨i,hi,rfl,hB⟩:=hrel;have⟨na,nc,Q⟩:=E8 hB.n;have⟨sa,sc,X⟩:=E8 hB.s;have z5:=(hB.DG.cell (p:=Y x 5) D).trans (Dw Y5);have z6:=(hB.DG.cell (p:=Y x 6) D).trans (Dw Y6);have f5:=(hB.DG.frozen (p:=Y x 5) D).trans bg;have f6:=(hB.DG.frozen (p:=Y x 6) D).trans bi;have cM:=Gv z5;have bW:=rO nm k i;have bX:=rO st k i;rw[hn]at bW;rw[hs]at bX;have p0:0<=(i:Int):=U;by_cases cE:i<n
  ·have p1:(i:Int)<n:=U;by_cases am:i=k
   ·subst am;have HB':Hid (Ry f wr (er nm i (i+1)) (er st i (i+1)) u6 u7):=by
     rw[aa4 nm i _ (Ah U),aa4 st i _ (Ah U)];exact hB
    clear hB Q X;exact aco
   ·obtain⟨y,hy⟩:∃y,nm[i]?=some y:=⟨_,Ah U⟩;obtain⟨t,ht⟩:∃t,st[i]?=some t:=⟨_,Ah U⟩;have cy:EB wr gN i (.string (str y)):=by
     have:=bf i y hy;exact(hB.DG.cell (p:=Y gN i) (Gv this)).trans this
    have az:=aq i t ht;have ct:EB wr gS i (Z t):=by
     have:=aq i t ht;exact(hB.DG.cell (p:=Y gS i) (Gv this)).trans this
    have cL:((i:Int)==k)=false:=Fy;have bS:=hB.DG.size;have e1:=rP nm k i y hy am;have e2:=rP st k i t ht am;have hN:=hB.n;rw[Q]at hN;have hS:=hB.s;rw[X]at hS;have⟨HN,HS,ao,ar,av⟩:=hd5 hN hS hB.DG e1 e2;have⟨cC,cq⟩:=KM cy ct;subst Q X;clear hB e1 e2 hN hS hy ht;generalize er nm k i=M at *;generalize er st k i=T at *;go_wp2_with (at_builtin;go_must (refine AQ _ rfl (.tmp 35) (.tmp 43) 222 rfl f.heap.size 9 iS (.string ⟨#[]⟩) 1 16 underlying222 bU bt bz bL rfl Em (.slice na M.length nc) M.length (KG M) rfl (by exact HN.alloc _) (EN wr 0) 1 1 [.string (str y)] rfl rfl (by exact LH wr 9 [.string (str y)]) Vd JG U Fy ?_))
    intro K1 aa h ak _ b1;have⟨c7,ce,ca,b7⟩:=Ei h;subst b7;have b4:DY wr (wr.alloc (.cells #[.string (str y)] 9)):=F9;have g:=below_grown (ao.alloc bS _) ak (λj hj=>GL HN hj);have ae:=V9 HS HN Em b4 ak;have v6:=(g.cell (p:=Y x 6) D).trans (Dw Y6);have vt:=(g.cell (p:=Y gS i) (Gv az)).trans az;have b3:=g.size;have⟨aw,an,O⟩:=Ll h g ae;clear h ak b1 b4 g ae HN HS ao z5 z6 cy ct f5 f6;go_wp2_with (at_builtin;go_must (refine AQ _ rfl (.tmp 45) (.tmp 53) 35 rfl f.heap.size 3 iI (Z 0) 1 8 underlying35 bT bj bp bq rfl Em (.slice sa T.length sc) T.length (GK T) rfl (by exact O.alloc _) (EN aa 0) 1 1 [Z t] rfl rfl (by exact LH aa 3 [Z t]) Vd JG U Fy ?_))
    intro K2 ch m al _ b2;have⟨c8,cg,cc,b9⟩:=Ei m;subst b9;have ah:DY aa (aa.alloc (.cells #[Z t] 3)):=F9;have aS:=below_grown (an.alloc b3 _) al (λj hj=>GL O hj);have aV:=V9 aw O Em ah al;have HB':Hid (Ry f ch (er nm k (i+1)) (er st k (i+1)) (.slice c7 ce ca) (.slice c8 cg cc)):=by
     rw[Dw ar,Dw av];refine⟨aS,?_,?_⟩
     ·rw[show KG (M++[y])=KG M++[.string (str y)] by simp[KG],AJ];exact aV
     ·rw[show GK (T++[t])=GK T++[Z t] by simp[GK],AJ];exact m
    clear m al b2 ah aS aV aw an O ar av v6 vt;exact aco
  ·obtain rfl:i=n:=U;have aN:Ry f wr (nm.eraseIdx k) (st.eraseIdx k) u6 u7:=by
    rw[<-rM nm k,<-rM st k,hn,hs];exact hB
   have HE:=Dx (HP wr u6 u7 aN);subst Q X;clear hB aN HP;go_wp2_with fail
   go_returns;exact⟨rfl,HE⟩
theorem ga{l:List (List UInt8)}{y:Ac}(h:l[i]?=some y):(KG l)[i]?=some (.string (str y)):=by simp[KG,h]
theorem Q8{l:List Int}{y:Int}(h:l[i]?=some y):(GK l)[i]?=some (Z y):=by simp[GK,h]
theorem vv(f:Hid (D7 216 #[Ey x,.string S] w (Z (-1)) λg=>g=w)):D7 161 #[Ey x,.string S] w (Z 10) λg=>g=w:=by
 go_enter func161,ntmps161;go_wp2_with (go_at_call 216;refine cs f ?_)
 go_returns;exact⟨rfl,rfl⟩
theorem RW.Iy(h:RW x v F G w)(name:Ac):D7 161 #[Ey x,.string (str name)] w (Z (R.Fb G name).1) λw'=>∃v' T,RW x v' T (R.Fb G name).2 w'/\D8 F T w w':=by
 have hM:=h.mem;have D:=h.wf;have aa:=D.Iy name;have Q:=D.nm;have M:=hM.entry Q name;unfold R.Fb at aa ⊢;cases he:R.Gi G name with
 |none=>
  have hI:Jv G.Eu name=-1:=by rw[hM.Gi,he]
  rw[hI]at M;refine cs (vv (Dx M)) ?_
  grind [D8.refl]
 |some k=>
  have hI:Jv G.Eu name=(k:Int):=by rw[hM.Gi,he]
  rw[hI]at M;simp only[he]at aa ⊢;have ah:=(Bi.1 (R.Jp he)).1;have aS:k<G.Ec.length:=by rw[D.st];exact ah
  have ak:G.Ec[k]?=some (G.Ec.getD k 0):=by grind
  have X:=D.Pn _ (Ap ak);have⟨w1,v1,F1,ac,f,al,aV,av⟩:=hM.aa3 h.GQ.sl D.sv X.1 X.2;have⟨gS,cS,hS,cu,_,_⟩:=hM.Qv ak 0;have x6:EB w x 6 (EJ gS G.Ec.length cS):=ED hM.bx 6 _ (by rw[<-hS];rfl);have u:=f.Eu;obtain⟨gN,cN,hN⟩:∃gN cN,v1.N=EJ gN G.Eu.length cN:=by
   rcases u.2 with ⟨_,h0⟩|⟨g,cap,aN,hv,_⟩
   ·have:G.Eu.length=0:=h0;omega
   ·exact⟨g,cap,hv⟩
  rw[hN]at u;have y5:EB w1 x 5 (EJ gN G.Eu.length cN):=ED f.bx 5 _ (by rw[<-hN];rfl);have y6:EB w1 x 6 (EJ gS G.Ec.length cS):=ED f.bx 6 _ (by rw[<-hS,<-al];rfl);have O:=f.Ec;rw[al,hS]at O;rw[D.st]at x6 y6;refine(gL (λw'=>∃v' T,RW x v' T {R.GR G (G.Ec.getD k 0) with Eu:=(R.GR G (G.Ec.getD k 0)).Eu.eraseIdx k,Ec:=(R.GR G (G.Ec.getD k 0)).Ec.eraseIdx k} w'/\D8 F T w w') ah rfl D.st Q x6 cu (Dx M) (Dx ac) y5 y6 (λo=>Eb f.bx) (λi y hy=>Nb u (ga hy)) (λi y hy=>Nb O (Q8 hy)) (λwr nv sv hB=>?_)).mono ?_
  ·have am:=f.bx;have hl:=(AB.1 am).1;have aw:=(hB.DG.block x hl).trans am;have b1:=Ek (off:=6) (Ek (off:=5) aw nv) sv;have hk:=((DF.D6 hB.DG (λj=>j=x)).setCell (p:=Y x 5) (Aj rfl) nv).setCell (p:=Y x 6) (Aj rfl) sv;have ae:DF (λj=>j=x) wr ((wr.setCell (Y x 5) nv).setCell (Y x 6) sv):=by grind [DF.refl,DF.setCell]
   have nx:∀{e:Ag} {K:Ad} {m size:Nat} {xs:Ae},wr.ownsRow w1.heap.size e size K m xs->∀j,K.ownBlock=some j->¬j=x:=λhr j hj e=>by
    have:=GL hr hj;omega
   have⟨v',T,r1,r2⟩:=f.rename (nm:=G.Eu.eraseIdx k) (st:=G.Ec.eraseIdx k) hk b1 (ae.row (UD hB.n) (nx hB.n)) (ae.row (UD hB.s) (nx hB.s)) (λj hj=>GL hB.n hj) (λj hj=>GL hB.s hj);exact⟨v',T,r1.whole aa (rJ h.GQ X.1),av.trans r2⟩
  grind
theorem Wm(k p:Int)(hk:0<=k/\k<=2):(R.IY k p=none/\aE k p=16)\/(R.IY k p=some (Rh k p,Ri k p)/\aE k p=0/\(0<=p/\p<=1)/\(V.Pt.O7 (V.nx (Rh k p)) (Rh k p).size).1=0/\∀v out,V.IG (Rh k p) v=some out->out.length<=70):=by
 have f:(k=0/\p=0)\/(k=0/\p=1)\/(k=1/\p=0)\/(k=1/\p=1)\/(k=2/\p=0)\/(¬(k=0/\p=0)/\¬(k=0/\p=1)/\¬(k=1/\p=0)/\¬(k=1/\p=1)/\¬(k=2/\p=0)):=U;rcases f with ⟨rfl,rfl⟩|⟨rfl,rfl⟩|⟨rfl,rfl⟩|⟨rfl,rfl⟩|⟨rfl,rfl⟩|⟨n1,n2,n3,n4,n5⟩
 ·exact wG
 ·exact wG
 ·exact Am ⟨rfl,rfl,U,Kx,λv out h=>V.VO h Kx⟩
 ·exact wG
 ·exact Am ⟨rfl,rfl,U,Kx,λv out h=>V.TU h⟩
 ·refine Aj ⟨?_,?_⟩
  ·unfold R.IY;rw[Ao n1,Ao n2,Ao n3,Ao n4,Ao n5]
  ·unfold aE;rw[Ao U,Ao n1,Ao n2,Ao n3,Ao n4,Ao n5]
theorem WU{t:Ab}(hc:(V.Pt.O7 (V.nx t) t.size).1=0)(f:∀v out,V.IG t v=some out->out.length<=70)(v:List V.It):R.Fi t v=V.IG t v:=by
 have h:=V.dD hc (f v);unfold R.Fi;cases he:V.IG t v with
 |none=>
  rw[he]at h;rw[Ao h]
 |some out=>
  rw[he]at h;simp only at h;rw[h];rfl
theorem gW{lb:Nat}{h:List (R.Ln×Value)}{V:Ad}(l':R.Ln)(y:W.heap[lb]?=some (.cells (tab Ui h).toArray 259 (0,0)))(m:h[k]?=some (l,V)):(vz W lb k l').heap[lb]?=some (.cells (tab Ui (h.set k (l',.slice none 0 0))).toArray 259 (0,0)):=by
 have f:=GG m;have s0:=FL (V1:=V) (l1:={l with D4:=l'.D4}) y m (j:=0) (u:=Z l'.D4) U rfl;have s1:=FL (V1:=V) (l1:={l with D4:=l'.D4,DK:=l'.DK}) s0 (AO f) (j:=1) (u:=Z l'.DK) U rfl;rw[A5]at s1;have s2:=FL (V1:=.slice none 0 0) (l1:={l with D4:=l'.D4,DK:=l'.DK}) s1 (AO f) (j:=2) (u:=.slice none 0 0) U rfl;rw[A5]at s2;have s3:=FL (V1:=.slice none 0 0) (l1:={l with D4:=l'.D4,DK:=l'.DK,D5:=l'.D5}) s2 (AO f) (j:=3) (u:=Z l'.D5) U rfl;rw[A5]at s3;have s4:=FL (V1:=.slice none 0 0) (l1:={l with D4:=l'.D4,DK:=l'.DK,D5:=l'.D5,to:=l'.to}) s3 (AO f) (j:=4) (u:=.string l'.to) U rfl;rw[A5]at s4;have s5:=FL (V1:=.slice none 0 0) (l1:={l with D4:=l'.D4,DK:=l'.DK,D5:=l'.D5,to:=l'.to,DC:=l'.DC}) s4 (AO f) (j:=5) (u:=.string (str l'.DC)) U rfl;rw[A5]at s5;have s6:=FL (V1:=.slice none 0 0) (l1:={l with D4:=l'.D4,DK:=l'.DK,D5:=l'.D5,to:=l'.to,DC:=l'.DC,Ea:=l'.Ea}) s5 (AO f) (j:=6) (u:=Z l'.Ea) U rfl;rw[A5]at s6;have s7:=FL (V1:=.slice none 0 0) (l1:={l with D4:=l'.D4,DK:=l'.DK,D5:=l'.D5,to:=l'.to,DC:=l'.DC,Ea:=l'.Ea,EK:=l'.EK}) s6 (AO f) (j:=7) (u:=.string (str l'.EK)) U rfl;rw[A5]at s7;have s8:=FL (V1:=.slice none 0 0) (l1:={l with D4:=l'.D4,DK:=l'.DK,D5:=l'.D5,to:=l'.to,DC:=l'.DC,Ea:=l'.Ea,EK:=l'.EK,DT:=l'.DT}) s7 (AO f) (j:=8) (u:=Z l'.DT) U rfl;rw[A5]at s8;have s9:=FL (V1:=.slice none 0 0) (l1:={l with D4:=l'.D4,DK:=l'.DK,D5:=l'.D5,to:=l'.to,DC:=l'.DC,Ea:=l'.Ea,EK:=l'.EK,DT:=l'.DT,El:=l'.El}) s8 (AO f) (j:=9) (u:=Z l'.El) U rfl;rw[A5]at s9;have g:=FL (V1:=.slice none 0 0) (l1:=l') s9 (AO f) (j:=10) (u:=Z l'.DW) U rfl;rw[A5]at g;exact g
theorem aA{lb:Nat}(l':R.Ln):DF (λb=>b=lb) W (vz W lb k l'):=((((((((((FK).trans (FK)).trans (FK)).trans (FK)).trans (FK)).trans (FK)).trans (FK)).trans (FK)).trans (FK)).trans (FK)).trans (FK)
theorem RW.acR(h:RW x v F G w){u:Nat}{c:R.Cl}{s:R.Sv}(hc:G.DI[i]?=some c)(hl:c.DV[k]?=some l)(hs:G.Dy[u]?=some s)(hm:((u:Int)+1)∈c.Ee)(X:c.Ee.length<=9000000000000):∃g cap M cb Q T z zl,Tk x v F G w i c g cap z zl/\WE w x g G.DI.length cap i k c.DV.length M c.Ee.length cb Q G.Dy.length T z.2.lb u (some (Y M 0)) c.Ee s.Dz G.c.Ew G.c.DW l:=by
 have⟨g,cap,z,zl,m⟩:=h.at hc;have hi:=GG hc;have hk:=GG hl;have hu:=GG hs;have ab:=(h.wf.cl i c hc).DV;have f:=h.Ee i z m.hz;rw[m.hc]at f;obtain⟨M,cb,hB⟩:∃M cb,z.2.bv=EJ M c.Ee.length cb:=by
  rcases f.2 with ⟨_,h0⟩|⟨g,cap,ak,hv,_⟩;all_goals grind
 have hzl:v.zs.length=G.Dy.length:=by rw[<-h.zs,AX]
 have⟨zs,ac,ah⟩:=K4 h.zs hs;have⟨Q,T,hV,_,D,_⟩:=Jx MD U h.Iw ac;rw[hzl]at hV;rw[hB]at f;have vk:EB w Q (u*3) (Z s.Dz):=by
  have:=D 0 (Z zs.1.Dz) U rfl;all_goals grind
 have O:=m.c1;rw[hB]at O;have hC:=J3 h.cl (by rw[m.hC];rfl);have⟨ae,aa⟩:=hC;exact⟨g,cap,M,cb,Q,T,z,zl,m,⟨hi,hk,rfl,X,ED h.bx 1 _ (by rw[ab];rfl),EI h.bx 2,EI h.bx 3,ED h.bx 7 _ (by rw[<-hV];rfl),m.x9,O,m.c2,λj y hy=>⟨rfl,Nb f (Q8 hy)⟩,hu,h.wf.sv,vk,m.cells hl,λo=>Eb m.lb,hm,⟨ES m.lb h.bx Em,ES m.lb aa Em⟩⟩⟩
theorem RW.call(h:RW x v F G w)(cl li D5 f:Int)(X:Ad)(arg:List V.It)(hI:V.Ff w X arg)(hn:arg.length<=9000000000000)(av:∀c∈G.DI,c.Ee.length<=9000000000000):
  D7 163 #[Ey x,Z cl,Z li,Z D5,Z f,X] w (.tuple #[Z (R.Gc G cl li D5 f arg).1.1,Z (R.Gc G cl li D5 f arg).1.2]) λO=>∃v' T,RW x v' T (R.Gc G cl li D5 f arg).2 O/\D8 F T w O:=by
 have Q:=h.wf;obtain⟨a9,ad,x9⟩:∃a cap,EB w x 9 (.slice a G.DI.length cap):=by
  exact abl
 have x1:=EI h.bx 1;have same:∀{e0:Int},ET 163 #[Ey x,Z cl,Z li,Z D5,Z f,X] w (λe O=>e=.returned (.tuple #[Z 0,Z e0])/\O=w)->D7 163 #[Ey x,Z cl,Z li,Z D5,Z f,X] w (.tuple #[Z 0,Z e0]) λO=>∃v' T,RW x v' T G O/\D8 F T w O:=λhc=>hc.mono (by
  rintro e O ⟨rfl,rfl⟩;exact⟨rfl,v,F,h,D8.refl F _⟩)
 have M:∀{e0:Int},ET 163 #[Ey x,Z cl,Z li,Z D5,Z f,X] w (λe O=>e=.returned (.tuple #[Z 0,Z e0])/\DY w O)->D7 163 #[Ey x,Z cl,Z li,Z D5,Z f,X] w (.tuple #[Z 0,Z e0]) λO=>∃v' T,RW x v' T G O/\D8 F T w O:=λhc=>hc.mono (by
  rintro e O ⟨rfl,hb⟩;exact⟨rfl,v,F,h.DG hb,D8.D6 F hb⟩)
 unfold R.Gc;by_cases h1:cl<0\/(G.DI.length:Int)<=cl
 ·rw[Ay h1];exact same (XB w x a9 _ ad cl li D5 f X x9 h1)
 rw[Ao h1];by_cases h2:li<0\/G.c.DV<=li
 ·rw[Ay h2];exact same (fG w x a9 _ ad cl li D5 f _ X x1 x9 U U h2)
 rw[Ao h2];obtain⟨i,rfl⟩:∃i:Nat,cl=(i:Int):=⟨cl.toNat,U⟩;obtain⟨k,rfl⟩:∃k:Nat,li=(k:Int):=⟨li.toNat,U⟩;obtain⟨c,hc⟩:∃c,G.DI[i]?=some c:=⟨_,Ah U⟩;have aV:=(Q.cl i c hc).DV;obtain⟨l,hl⟩:∃l,c.DV[k]?=some l:=⟨_,Ah U⟩;have al:=av c (Ap hc);simp only[AY,hc,Ce,Bw];by_cases h3:D5∈c.Ee
 ·rw[Ao (by simpa using h3)];have bt:=(Q.cl i c hc).Ee D5 h3;obtain⟨u,rfl⟩:∃u:Nat,D5=(u:Int)+1:=⟨(D5-1).toNat,U⟩;obtain⟨s,hs⟩:∃s,G.Dy[u]?=some s:=⟨_,Ah U⟩;have eu:((u:Int)+1-1).toNat=u:=U;simp only[eu,hs,Ce,Bw];have b2:=Q.R7 s (Ap hs);have⟨g,cap,gB,cb,gV,cV,z,zl,hA,aa⟩:=h.acR hc hl hs h3 al;have m:=λw=>Qn s.Dz f w
  rcases Wm s.Dz f b2 with ⟨g1,g2⟩|⟨g1,g2,g3,g4,g5⟩
  ·rw[g1];unfold J5 at m;rw[g2]at m;exact M (nu w aa f X 16 Em _ _ (Dx λw=>(m w).mono (by
    rintro e O ⟨rfl,rfl⟩;exact⟨rfl,AA _ _⟩)))
  ·rw[g1];unfold J5 at m;rw[g2]at m;have HF:=V.nR (Rh s.Dz f) g4 X arg w hI hn;simp only;rw[WU g4 g5,R.FH hc hl];cases he:V.IG (Rh s.Dz f) arg with
   |none=>
    rw[he]at HF;exact M (Q0 w aa f X 4 false _ _ (Dx m) (Dx HF) (Aj ⟨rfl,rfl⟩))
   |some out=>
    rw[he]at HF;simp only;by_cases h4:l.DK=1
    ·rw[Ay h4];exact M (Q0 w aa f X 17 true _ _ (Dx m) (Dx HF) (Am (Aj ⟨rfl,h4,rfl⟩)))
    rw[Ao h4];by_cases h5:l.D4=999
    ·rw[Ay h5];exact M (Q0 w aa f X 11 true _ _ (Dx m) (Dx HF) (Am (Am ⟨rfl,by simpa using h4,h5,rfl⟩)))
    rw[Ao h5];have an:=(Q.cl i c hc).DZ k l hl;have bp:=g5 arg out he;have az:=Q.cf;unfold R.GA at az;have bq:=Q.sv;have br:=GG hs;have aN:=GG hl;have⟨_,hy,_,_⟩:=hA.Zd hl;have bj:(EU f++out).length=2+out.length:=by simp[EU];omega
    have b1:R.O0 ⟨l.D4+1,1,[],(u:Int)+1,Ri s.Dz f,EU f++out,0,[],0,G.c.Ew,G.c.DW⟩:=by
     have:=an.D4;refine⟨by simp only;omega,λ_=>⟨by simp only;omega,by simp only;omega,by simp only;omega,⟨Ev,?_⟩,by simp only;omega,by simp only;omega⟩⟩;simp only;unfold R.DL;omega
    refine(ny w aa f X (Rh s.Dz f) (Ri s.Dz f) (EU f) out (λO=>∃v' T,RW x v' T (R.EG (R.Eh G i k ⟨l.D4+1,1,[],(u:Int)+1,Ri s.Dz f,EU f++out,0,[],0,G.c.Ew,G.c.DW⟩) i k false) O/\D8 F T w O) (by simpa using h4) (by simpa using h5) an.D4 (by have:(EU f).length=2:=rfl;omega) (Dx m) (Dx HF) (Dx λw=>UA f w U U) (Dx λW hb=>V.Ux (Rh s.Dz f) g4 X arg W (hI.DG hb) hn he) (Dx λW hb=>?_)).mono ?_
    ·have hW:=h.DG hb;have⟨g',ah,z',bz,ac⟩:=hW.at hc;have ez:=Option.some.inj (ac.hz.symm.trans hA.hz);subst ez;have⟨_,b4,_,_⟩:=ac.Zd hl;have b9:=(AB.1 hA.lb).1;have⟨v2,F2,t1,t2⟩:=hW.Qk (k:=k) hc ac b1 rfl (aA _) (gW _ ac.lb b4);have aw:(R.Eh G i k ⟨l.D4+1,1,[],(u:Int)+1,Ri s.Dz f,EU f++out,0,[],0,G.c.Ew,G.c.DW⟩).DI[i]?=some {c with DV:=c.DV.set k ⟨l.D4+1,1,[],(u:Int)+1,Ri s.Dz f,EU f++out,0,[],0,G.c.Ew,G.c.DW⟩}:=by rw[R.Ft,hc];simp
     have aS:(c.DV.set k ⟨l.D4+1,1,[],(u:Int)+1,Ri s.Dz f,EU f++out,0,[],0,G.c.Ew,G.c.DW⟩)[k]?=some ⟨l.D4+1,1,[],(u:Int)+1,Ri s.Dz f,EU f++out,0,[],0,G.c.Ew,G.c.DW⟩:=AO aN;refine(t1.Wh aw aS rfl (by unfold R.DL;simp only;omega) false).mono ?_;rintro e O ⟨rfl,v3,F3,r1,r2⟩;refine⟨rfl,⟨v3,F3,r1,(D8.D6 F hb).trans (t2.trans r2)⟩,λb bi ak=>?_⟩;have nF:¬F b:=λhf=>by have:=h.lt b hf;omega
     have b5:¬F2 b:=λhf=>by
      rcases t2.fresh b hf with q|q
      ·exact nF q
      ·omega
     rw[r2.E0.block b (Ai ak t2.E0.size) b5,t2.E0.block b ak nF]
    grind
 ·rw[Ay (by simpa using h3)];have⟨g,cap,z,zl,hA⟩:=h.at hc;have D:=h.Ee i z hA.hz;rw[hA.hc]at D;have⟨ab,cb,hB⟩:=E8 D;have am:=hA.c1;rw[hB]at am;rw[hB]at D;refine same (fH w x g _ cap i k c.DV.length (match ab with|some a=>a.block|none=>0) c.Ee.length cb ab D5 f X c.Ee (GG hc) (GG hl) rfl al (by rw[aV];exact x1) hA.x9 am (λj y hy=>?_) h3);rcases D.2 with ⟨_,h0⟩|⟨g',ah,be,hv,_⟩
  ·have:=GG hy;omega
  ·cases hv;exact⟨rfl,Nb D (Q8 hy)⟩
end Go.Proofs.YtblomippkddgiaaGreatDoor
