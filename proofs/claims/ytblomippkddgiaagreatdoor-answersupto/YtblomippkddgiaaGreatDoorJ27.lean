import Derived.Test.YtblomippkddgiaaGreatDoorJ25
set_option maxRecDepth 100000
set_option maxHeartbeats 2000000
namespace Go.Proofs.YtblomippkddgiaaGreatDoor
open Go.Proofs.Tryz
open Go.RowKit
variable {F F2:D9}{D5:Int}{l:List (List UInt8)}{zs:List (R.Sv×Value)}{js:List R.Jb}{S sn:List R.Sn}{name s:List UInt8}{b cap g i j j0 n o size x:Nat}{G:R.Wd}{v:RV}{e:TypeId}{J K u:Value}{W w w' w1 wz:World}
theorem RM.tQ(h:RM x v F G w){nm:List (List UInt8)}(hk:DF (λk=>k=x\/v.N.ownBlock=some k) w w')(hx:w'.heap[x]?=some (.cells (Iv G.c {v with N:=K}) 229 (0,0)))(hr:w'.ownsRow 0 9 1 K nm.length (KG nm))(hK:∀j,K.ownBlock=some j->v.N.ownBlock=some j\/w.heap.size<=j):∃F',RM x {v with N:=K} F' {G with Eu:=nm} w'/\D8 F F' w w':=by
 have⟨f1,f2,f3⟩:=h.Fw;have X:∀k,(k=x\/v.N.ownBlock=some k)->F k:=λk hk=>by
  rcases hk with rfl|hk
  ·exact f1
  ·exact h.rows k (Aj hk)
 have O:∀{b:Nat} {ys:Array Value} {t:Ag},w.heap[b]?=some (.cells ys t (0,0))->t≠229->t≠9->¬(b=x\/v.N.ownBlock=some b):=λm T B e=>by
  rcases e with rfl|e
  ·exact ES m h.bx T rfl
  ·exact Fg h.Eu m (λq=>B q.symm) e
 have Q:∀{n size:Nat} {e:Ag} {M:Ad} {xs:Ae},w.ownsRow 0 e size M n xs->e≠229->e≠9->∀j,M.ownBlock=some j->¬(j=x\/v.N.ownBlock=some j):=λhr T B j D=>by
  grind [J3]
 refine⟨λk=>F k\/K.ownBlock=some k,⟨hx,hr,hk.row h.Ec (Q h.Ec Em Em),h.zs,hk.row h.Iw (Q h.Iw Em Em),h.I4.keep hk (λm q=>O m (by rcases q with rfl|rfl|rfl<;>decide) (by rcases q with rfl|rfl|rfl<;>decide)) (λ_ q=>Aj q),hk.row h.JC (Q h.JC Em Em),h.zc,hk.row h.cl (Q h.cl Em Em),λi z hz=>hk.row (h.Ee i z hz) (Q (h.Ee i z hz) Em Em),λi z hz=>?_,hk.at h.DX (O h.DX Em Em),hk.at h.DN (O h.DN Em Em),⟨Aj f1,Aj f2,Aj f3⟩,λj D=>?_,λi z hz=>⟨Aj (h.Gs i z hz).1,λj D=>⟨Aj ((h.Gs i z hz).2 j D).1,((h.Gs i z hz).2 j D).2⟩⟩,h.sL,h.inj,λk f=>?_⟩,⟨hk.mono (λk _ f=>X k f),λk f=>?_⟩⟩
 ·have⟨zl,T,B,h3⟩:=h.ln i z hz;exact⟨zl,T,hk.at B (O B Em Em),λy hy=>(h3 y hy).keep hk (λb aa _ m=>O m Em Em) (λ_ q=>Aj q)⟩
 ·rcases D with q|q
  ·exact Am q
  ·exact Aj (h.rows j (Am q))
 ·rcases f with f|f
  ·exact Ai (h.lt k f) hk.size
  grind [J3]
 grind
theorem RM.Wo(h:RM x v F G w){st:List Int}(hk:DF (λk=>k=x\/v.S.ownBlock=some k) w w')(hx:w'.heap[x]?=some (.cells (Iv G.c {v with S:=K}) 229 (0,0)))(hr:w'.ownsRow 0 3 1 K st.length (GK st))(hK:∀j,K.ownBlock=some j->v.S.ownBlock=some j\/w.heap.size<=j):∃F',RM x {v with S:=K} F' {G with Ec:=st} w'/\D8 F F' w w':=by
 have⟨f1,f2,f3⟩:=h.Fw;have X:∀k,(k=x\/v.S.ownBlock=some k)->F k:=λk hk=>by
  rcases hk with rfl|hk
  ·exact f1
  ·exact h.rows k (Am (Aj hk))
 have Q:∀{b:Nat} {ys:Array Value} {t:Ag},w.heap[b]?=some (.cells ys t (0,0))->t≠229->t≠3->¬(b=x\/v.S.ownBlock=some b):=λB O D e=>by
  rcases e with rfl|e
  ·exact ES B h.bx O rfl
  ·exact Fg h.Ec B (λq=>D q.symm) e
 have T:∀{n size:Nat} {e:Ag} {M:Ad} {xs:Ae},w.ownsRow 0 e size M n xs->e≠229->e≠3->∀j,M.ownBlock=some j->¬(j=x\/v.S.ownBlock=some j):=λhr O D j f=>by
  grind [J3]
 have nL:¬(v.L=x\/v.S.ownBlock=some v.L):=λe=>by
  rcases e with e|e
  ·rw[<-e]at hx;exact ES h.DX (e ▸ h.bx) Em rfl
  ·exact h.sL e
 have nB:∀(i:Nat) (z:R.Cl×CE),v.zc[i]?=some z->∀j,z.2.bv.ownBlock=some j->¬(j=x\/v.S.ownBlock=some j):=λi z hz j f e=>by
  rcases e with rfl|e
  ·exact Fg (h.Ee i z hz) h.bx Em f
  ·exact((h.Gs i z hz).2 j f).2.2 e
 refine⟨λk=>F k\/K.ownBlock=some k,⟨hx,hk.row h.Eu (T h.Eu Em Em),hr,h.zs,hk.row h.Iw (T h.Iw Em Em),h.I4.keep hk (λB q=>Q B (by rcases q with rfl|rfl|rfl<;>decide) (by rcases q with rfl|rfl|rfl<;>decide)) (λ_ q=>Aj q),hk.row h.JC (T h.JC Em Em),h.zc,hk.row h.cl (T h.cl Em Em),λi z hz=>hk.row (h.Ee i z hz) (nB i z hz),λi z hz=>?_,hk.at h.DX nL,hk.at h.DN (Q h.DN Em Em),⟨Aj f1,Aj f2,Aj f3⟩,λj f=>?_,λi z hz=>⟨Aj (h.Gs i z hz).1,λj f=>⟨Aj ((h.Gs i z hz).2 j f).1,((h.Gs i z hz).2 j f).2.1,λe=>?_⟩⟩,λe=>?_,h.inj,λk m=>?_⟩,⟨hk.mono (λk _ m=>X k m),λk m=>?_⟩⟩
 ·have⟨zl,O,D,h3⟩:=h.ln i z hz;exact⟨zl,O,hk.at D (Q D Em Em),λy hy=>(h3 y hy).keep hk (λb aa _ B=>Q B Em Em) (λ_ q=>Aj q)⟩
 ·rcases f with q|q|q
  ·exact Aj (h.rows j (Aj q))
  ·exact Am q
  ·exact Aj (h.rows j (Am (Am q)))
 ·rcases hK j e with q|q
  ·grind
  ·have:=h.lt j ((h.Gs i z hz).2 j f).1;omega
 ·rcases hK v.L e with q|q
  ·exact h.sL q
  ·have:=h.lt v.L f2;omega
 ·rcases m with m|m
  ·exact Ai (h.lt k m) hk.size
  grind [J3]
 grind
theorem RM.kj(h:RM x v F G w)(hk:DF (λk=>k=x\/v.V.ownBlock=some k) w w')(hx:w'.heap[x]?=some (.cells (Iv G.c {v with V:=K}) 229 (0,0)))(hr:w'.ownsRow 0 271 3 K zs.length (tab svc zs))(ah:∀k,F2 k->F k\/w.heap.size<=k)(f:∀k,F k->F2 k)(aa:∀k,F2 k->k<w'.heap.size)(Q:QH w' F2 zs v.J G.EF)(hK:∀j,K.ownBlock=some j->v.V.ownBlock=some j\/w.heap.size<=j):∃X,RM x {v with V:=K,zs:=zs} X {G with Dy:=zs.map (·.1)} w'/\D8 F X w w':=by
 have⟨f1,f2,f3⟩:=h.Fw;have T:∀k,(k=x\/v.V.ownBlock=some k)->F k:=λk hk=>by
  rcases hk with rfl|hk
  ·exact f1
  ·exact h.rows k (Am (Am (Aj hk)))
 have D:∀{b:Nat} {ys:Array Value} {t:Ag},w.heap[b]?=some (.cells ys t (0,0))->t≠229->t≠271->¬(b=x\/v.V.ownBlock=some b):=λhb h1 h2 e=>by
  exact ace
 have B:∀{n size:Nat} {e:Ag} {M:Ad} {xs:Ae},w.ownsRow 0 e size M n xs->e≠229->e≠271->∀j,M.ownBlock=some j->¬(j=x\/v.V.ownBlock=some j):=λhr h1 h2 j m=>by
  all_goals grind [J3]
 refine⟨λk=>F2 k\/K.ownBlock=some k,⟨hx,hk.row h.Eu (B h.Eu Em Em),hk.row h.Ec (B h.Ec Em Em),rfl,hr,Q.keep (DF.refl (λ_=>False) w') (λ_ _ q=>q) (λ_ q=>Aj q),hk.row h.JC (B h.JC Em Em),h.zc,hk.row h.cl (B h.cl Em Em),λi z hz=>hk.row (h.Ee i z hz) (B (h.Ee i z hz) Em Em),λi z hz=>?_,hk.at h.DX (D h.DX Em Em),hk.at h.DN (D h.DN Em Em),⟨Aj (f _ f1),Aj (f _ f2),Aj (f _ f3)⟩,λj m=>?_,λi z hz=>⟨Aj (f _ (h.Gs i z hz).1),λj m=>⟨Aj (f _ ((h.Gs i z hz).2 j m).1),((h.Gs i z hz).2 j m).2⟩⟩,h.sL,h.inj,λk O=>?_⟩,⟨hk.mono (λk _ O=>T k O),λk O=>?_⟩⟩
 ·have⟨zl,h1,h2,h3⟩:=h.ln i z hz;exact⟨zl,h1,hk.at h2 (D h2 Em Em),λy hy=>(h3 y hy).keep hk (λb ac _ hb=>D hb Em Em) (λ_ q=>Aj (f _ q))⟩
 ·rcases m with q|q|q|q
  ·exact Aj (f _ (h.rows j (Aj q)))
  ·exact Aj (f _ (h.rows j (Am (Aj q))))
  ·exact Am q
  ·exact Aj (f _ (h.rows j (Am (Am (Am q)))))
 all_goals grind [J3]
theorem nX(i:Nat)(hi:i<(str s).size)(h:(((str s)[i]'hi).toNat:Int)<97\/122<(((str s)[i]'hi).toNat:Int)):R.Gf s=false:=by
 have f:=K8 s i hi
 grind [R.Gf]
theorem fZ(f:1<=s.length)(m:s.length<=8)(h:∀(i:Nat) (hi:i<(str s).size),97<=(((str s)[i]'hi).toNat:Int)/\(((str s)[i]'hi).toNat:Int)<=122):R.Gf s=true:=by grind [R.Gf,List.mem_iff_getElem?,Er,K8]
theorem PL(s:Ac)(w:Aa):D7 215 #[.string (str s)] w (.bool (R.Gf s)) λw'=>w'=w:=by
 have hz:=Er s;by_cases h1:s.length<1
 ·have X:R.Gf s=false:=by
   unfold R.Gf;simp;omega
  rw[X];have q1:((str s).size:Int)<1:=U;go_enter func215,ntmps215;go_wp2;go_returns;exact⟨rfl,rfl⟩
 ·by_cases h8:8<s.length
  ·have X:R.Gf s=false:=by
    unfold R.Gf;simp;omega
   rw[X];have q1:¬((str s).size:Int)<1:=U;have q2:8<((str s).size:Int):=U;go_enter func215,ntmps215;go_wp2;go_returns;exact⟨rfl,rfl⟩
  ·have D:=Dx (λi hi h=>nX (s:=s) i hi h);have M:=Dx (λh=>fZ (s:=s) U U h);generalize R.Gf s=Kw at *;generalize str s=S at *;obtain⟨n,hn⟩:∃n,S.size=n:=⟨_,rfl⟩;have q1:¬(n:Int)<1:=U;have q2:¬8<(n:Int):=U;clear hz h1 h8;go_enter func215,ntmps215;go_wp2;go_loopw [3] (λiv wr=>∃i:Nat,i<=n/\iv=Z i/\wr=w/\∀(j:Nat) (B:j<S.size),j<i->97<=((S[j]'B).toNat:Int)/\((S[j]'B).toNat:Int)<=122) (λiv _=>n-(intOf iv).toNat)
   case atStart=>exact⟨0,AV _,rfl,rfl,λj _ B=>absurd B U⟩
   case round=>
    obtain⟨i,hi,rfl,rfl,y⟩:=hrel;have m:=Dx y;clear y;by_cases ab:i<n
    ·have O:i<S.size:=U;by_cases Q:((S[i]'O).toNat:Int)<97
     ·have f:=D i O (Aj Q);subst f;go_wp2;go_returns;exact⟨rfl,rfl⟩
     ·by_cases T:122<((S[i]'O).toNat:Int)
      ·have f:=D i O (Am T);subst f;go_wp2;go_returns;exact⟨rfl,rfl⟩
      ·go_wp2;go_roundw
       case rel=>exact⟨i+1,U,Kc,BR,λj B aa=>by
        by_cases e:j=i
        ·subst e;omega
        ·exact m j B U⟩
       case measure=>exact Kt
    ·obtain rfl:i=n:=U;have f:=M (λj B=>m j B U);subst f;go_wp2;go_returns;exact⟨rfl,rfl⟩
theorem Nb{xs:Ae}(h:w.ownsRow 0 e size (EJ g n cap) n xs)(hu:xs[j]?=some u):w.cell? (Y g j)=some u:=by
 exact abV
def Jv(l:List (List UInt8))(name:Ac):Int:=match l.findIdx? (·==name) with
 |none=>-1
 |some k=>(k:Int)
theorem dF(h:∀(j:Nat) (y:Ac),l[j]?=some y->y≠name):Jv l name=-1:=by grind [Jv,List.mem_iff_getElem?]
theorem dG(hi:l[i]?=some name)(h:∀(j:Nat) (y:Ac),j<i->l[j]?=some y->y≠name):Jv l name=(i:Int):=by
 unfold Jv;have⟨hl,e⟩:=Bi.1 hi;have:l.findIdx? (·==name)=some i:=by grind [List.findIdx?_eq_some_iff_getElem]
 rw[this]
theorem ZP{a:Af}(hn:l.length=n)(ab:n<=1000)(x5:EB w x 5 (.slice a n cap))(hc:∀(i:Nat) (y:Ac),l[i]?=some y->∃g,a=some (Y g 0)/\EB w g i (.string (str y))):D7 216 #[Ey x,.string (str name)] w (Z (Jv l name)) λw'=>w'=w:=by
 have hx:=Gv x5;have⟨X,M,B⟩:=Ll hc (dF (l:=l) (name:=name)) (λi=>dG (l:=l) (name:=name) (i:=i));generalize Jv l name=Kw at *;clear hc;go_enter func216,ntmps216;go_wp2;go_loopw [5] (λiv wr=>∃i:Nat,i<=n/\iv=Z i/\wr=w/\∀(j:Nat) (y:Ac),j<i->l[j]?=some y->y≠name) (λiv _=>n-(intOf iv).toNat)
 case atStart=>exact⟨0,AV _,rfl,rfl,λj _ D=>absurd D U⟩
 case round=>
  obtain⟨i,hi,rfl,Q,m⟩:=hrel;subst Q;have f:=Dx m;clear m;by_cases aa:i<n
  ·obtain⟨y,T⟩:∃y,l[i]?=some y:=⟨_,Ah U⟩;have⟨g,ha,cy⟩:=X i y T;subst ha;have q0:0<=(i:Int):=U;have q1:(i:Int)<n:=U;by_cases O:y=name
   ·subst O;have h:=B i T (Dw f);subst h;go_wp2;go_returns;exact⟨rfl,rfl⟩
   ·have ac:(y==name)=false:=by simpa using O
    go_wp2;go_roundw
    case rel=>exact⟨i+1,U,Kc,BR,λj u D hu=>by
     by_cases e:j=i
     ·subst e;rw[T]at hu;cases hu;exact O
     ·exact f j u U hu⟩
    case measure=>exact Kt
  ·obtain rfl:i=n:=U;have h:=M (λj y D=>f j y (by have:=(GG D);omega) D);subst h;go_wp2;go_returns;exact⟨rfl,rfl⟩
theorem RM.entry(h:RM x v F G w)(T:G.Eu.length<=6)(name:Ac):D7 216 #[Ey x,.string (str name)] w (Z (Jv G.Eu name)) λw'=>w'=w:=by
 have⟨a,cap,B⟩:=E8 h.Eu;refine ZP rfl U (ED h.bx 5 _ (by rw[<-B];rfl)) (λi y O=>?_);have f:=h.Eu;rw[B]at f;have hi:=GG O;rcases f.2 with ⟨_,Q⟩|⟨g,m,D,hv,_,X,_,_,_,M⟩;all_goals grind [Nb,KG]
theorem RM.Gi(_:RM x v F G w)(name:Ac):Jv G.Eu name=(match R.Gi G name with|none=>-1|some k=>(k:Int)):=rfl
theorem RM.JE(h:RM x v F G w)(hk:DF (λk=>k=v.Sn) w w')(D:w'.heap[v.Sn]?=some (.cells (tab Rk sn).toArray 264 (0,0))):RM x v F {G with DN:=sn} w'/\D8 F F w w':=by
 have⟨T,X,m⟩:=h.Fw;have nb:∀{b:Nat} {Q:Array Value} {t:Ag},w.heap[b]?=some (.cells Q t (0,0))->t≠264->¬b=v.Sn:=λhb h1 e=>by
  subst e;exact ES hb h.DN h1 rfl
 have f:∀{n size:Nat} {e:Ag} {M:Ad} {O:Ae},w.ownsRow 0 e size M n O->e≠264->∀j,M.ownBlock=some j->¬j=v.Sn:=λhr h1 j hj=>by
  grind [J3]
 refine⟨⟨hk.at h.bx (nb h.bx Em),hk.row h.Eu (f h.Eu Em),hk.row h.Ec (f h.Ec Em),h.zs,hk.row h.Iw (f h.Iw Em),h.I4.keep hk (λhb q=>nb hb (by rcases q with rfl|rfl|rfl<;>decide)) (λ_ q=>q),hk.row h.JC (f h.JC Em),h.zc,hk.row h.cl (f h.cl Em),λi z hz=>hk.row (h.Ee i z hz) (f (h.Ee i z hz) Em),λi z hz=>?_,hk.at h.DX (nb h.DX Em),D,h.Fw,h.rows,h.Gs,h.sL,h.inj,λk B=>Ai (h.lt k B) hk.size⟩,⟨hk.mono (λk _ e=>by rw[e];exact m),λ_ q=>Aj q⟩⟩;exact abD
theorem RM.Zf(h:RM x v F G w){lv:List Int}(hk:DF (λk=>k=v.L) w w')(O:w'.heap[v.L]?=some (.cells (GK lv).toArray 3 (0,0))):RM x v F {G with DX:=lv} w'/\D8 F F w w':=by
 have⟨X,B,f3⟩:=h.Fw;have nb:∀{b:Nat} {T:Array Value} {t:Ag},w.heap[b]?=some (.cells T t (0,0))->t≠3->¬b=v.L:=λhb h1 e=>by
  subst e;exact ES hb h.DX h1 rfl
 have m:∀{n size:Nat} {e:Ag} {M:Ad} {Q:Ae},w.ownsRow 0 e size M n Q->e≠3->∀j,M.ownBlock=some j->¬j=v.L:=λhr h1 j f=>by
  grind [J3]
 refine⟨⟨hk.at h.bx (nb h.bx Em),hk.row h.Eu (m h.Eu Em),hk.row h.Ec (λj f e=>h.sL (e ▸ f)),h.zs,hk.row h.Iw (m h.Iw Em),h.I4.keep hk (λhb q=>nb hb (by rcases q with rfl|rfl|rfl<;>decide)) (λ_ q=>q),hk.row h.JC (m h.JC Em),h.zc,hk.row h.cl (m h.cl Em),λi z hz=>hk.row (h.Ee i z hz) (λj f=>((h.Gs i z hz).2 j f).2.1),λi z hz=>?_,O,hk.at h.DN (nb h.DN Em),h.Fw,h.rows,h.Gs,h.sL,h.inj,λk D=>Ai (h.lt k D) hk.size⟩,⟨hk.mono (λk _ e=>by rw[e];exact B),λ_ q=>Aj q⟩⟩;exact abD
theorem RM.jN(h:RM x v F G w)(ad:∀k,F2 k->F k\/w.heap.size<=k)(f:∀k,F k->F2 k)(aa:∀k,F2 k->k<w'.heap.size)(hk:DF (λk=>k=x\/F k/\∃O,w.heap[k]?=some (.cells O 266 (0,0))) w w')(hx:w'.heap[x]?=some (.cells (Iv G.c {v with J:=J}) 229 (0,0)))(m:Yb w' F2 J js):RM x {v with J:=J} F2 {G with EF:=js} w'/\D8 F F2 w w':=by
 have⟨f1,f2,f3⟩:=h.Fw;have X:∀{b:Nat} {O:Array Value} {t:Ag},w.heap[b]?=some (.cells O t (0,0))->t≠229->t≠266->¬(b=x\/F b/\∃O,w.heap[b]?=some (.cells O 266 (0,0))):=λD T B e=>by
  rcases e with rfl|⟨_,O,e⟩
  ·exact ES D h.bx T rfl
  ·exact ES D e B rfl
 have nr:∀{n size:Nat} {e:Ag} {M:Ad} {xs:Ae},w.ownsRow 0 e size M n xs->e≠229->e≠266->∀j,M.ownBlock=some j->¬(j=x\/F j/\∃O,w.heap[j]?=some (.cells O 266 (0,0))):=λhr T B j m=>by
  have⟨Q,hc⟩:=J3 hr m;exact X hc T B
 have ae:QH w' F2 v.zs J js:=⟨λz hz=>?_,h.I4.apart,m⟩
 ·refine⟨⟨hx,hk.row h.Eu (nr h.Eu Em Em),hk.row h.Ec (nr h.Ec Em Em),h.zs,hk.row h.Iw (nr h.Iw Em Em),ae,hk.row h.JC (nr h.JC Em Em),h.zc,hk.row h.cl (nr h.cl Em Em),λi z hz=>hk.row (h.Ee i z hz) (nr (h.Ee i z hz) Em Em),λi z hz=>?_,hk.at h.DX (X h.DX Em Em),hk.at h.DN (X h.DN Em Em),⟨f _ f1,f _ f2,f _ f3⟩,λj m=>f _ (h.rows j m),λi z hz=>⟨f _ (h.Gs i z hz).1,λj m=>⟨f _ ((h.Gs i z hz).2 j m).1,((h.Gs i z hz).2 j m).2⟩⟩,h.sL,h.inj,aa⟩,⟨hk.mono (λk _ e=>?_),ad⟩⟩
  ·have⟨zl,T,B,h3⟩:=h.ln i z hz;exact⟨zl,T,hk.at B (X B Em Em),λy hy=>(h3 y hy).keep hk (λb Q _ D=>X D Em Em) f⟩
  ·rcases e with rfl|e
   ·exact f1
   ·exact e.1
 ·have⟨⟨es,T,B,h3⟩,h4⟩:=h.I4.I4 z hz;exact⟨⟨es,T,hk.row B (nr B Em Em),λy hy=>⟨(h3 y hy).1.keep hk (λb Q _ D=>X D Em Em) f,(h3 y hy).2.keep hk (λb Q _ D=>X D Em Em) f⟩⟩,λj m=>f _ (h4 j m)⟩
theorem RW.JE(h:RW x v F G w)(hk:DF (λk=>k=v.Sn) w w')(B:w'.heap[v.Sn]?=some (.cells (tab Rk sn).toArray 264 (0,0)))(D:R.MX G.c G.DX sn G.EF):RW x v F {G with DN:=sn} w'/\D8 F F w w':=by
 have⟨m,y⟩:=h.mem.JE hk B;have f:=h.wf;exact⟨m.whole ⟨f.cf,f.N5,λi c hc=>⟨(f.cl i c hc).DV,(f.cl i c hc).DR,(f.cl i c hc).Ee,(f.cl i c hc).DZ⟩,f.JC,f.JX,f.sv,f.R7,f.nm,f.st,f.nd,f.Pn⟩ D,y⟩
structure iZ(w:Aa)(sn i:Nat)(r:R.Sn):Prop where
 s0:w.cell? (Y sn (i*10))=some (Z r.D4)
 s1:w.cell? (Y sn (i*10+1))=some (Z r.D5)
 s2:w.cell? (Y sn (i*10+2))=some (.string (str r.DC))
 s3:w.cell? (Y sn (i*10+3))=some (Z r.DT)
 s4:w.cell? (Y sn (i*10+4))=some (Z r.DK)
 s5:w.cell? (Y sn (i*10+5))=some (.string (str r.DU))
 s6:w.cell? (Y sn (i*10+6))=some (Z r.at')
 s7:w.cell? (Y sn (i*10+7))=some (.bool r.E1)
 s8:w.cell? (Y sn (i*10+8))=some (Z r.El)
 s9:w.cell? (Y sn (i*10+9))=some (Z r.DW)
theorem Kg{r:R.Sn}(h:w.heap[b]?=some (.cells (tab Rk sn).toArray 264 (0,0)))(m:sn[i]?=some r):iZ w b i r:=by
 have hc:∀j u,j<10->(Rk r)[j]?=some u->EB w b (i*10+j) u:=λj u f hu=>by
  have:=Jh XT sn i j r m f
  grind [E7]
 exact⟨hc 0 _ U rfl,hc 1 _ U rfl,hc 2 _ U rfl,hc 3 _ U rfl,hc 4 _ U rfl,hc 5 _ U rfl,hc 6 _ U rfl,hc 7 _ U rfl,hc 8 _ U rfl,hc 9 _ U rfl⟩
theorem Fz{r r1:R.Sn}(h:w.heap[b]?=some (.cells (tab Rk sn).toArray 264 (0,0)))(m:sn[i]?=some r)(f:j<10)(e:Rk r1=(Rk r).set j u):(w.setCell (Y b (i*10+j)) u).heap[b]?=some (.cells (tab Rk (sn.set i r1)).toArray 264 (0,0)):=by
 rw[<-J6 XT sn i j r r1 u m f e];exact Ek h u
theorem Yt{f:Nat}{v:Ad}(h:o≠f):(w.setCell (Y b o) v).cell? (Y b f)=w.cell? (Y b f):=by grind [World.cell?_setCell_other]
theorem EV(v:Ad):DF (λk=>k=b) w (w.setCell (Y b o) v):=by grind [DF.setCell,DF.refl]
theorem Qr{α:Type}{f:α->List Value}(Q:∀x,(f x).length=size){xs:List α}(h:w.ownsRow 0 e size (EJ g n cap) n (tab f xs)){y y':α}(hy:xs[i]?=some y)(hj:j<size)(e1:f y'=(f y).set j u):(w.setCell (Y g (i*size+j)) u).ownsRow 0 e size (EJ g n cap) n (tab f (xs.set i y')):=by
 refine⟨by rw[F8 Q,BG,<-F8 Q];exact h.1,Am ?_⟩;rcases h.2 with ⟨T,_⟩|⟨g',O,m,hv,X,hg,hc,B,M,aa⟩
 ·cases T
 ·cases hv;have D:w.heap[g]?=some (.cells m.toList.toArray e (0,0)):=by rw[hg]
  refine⟨g,cap,(m.toList.set (i*size+j) u).toArray,rfl,X,Ek D u,hc,B,by simpa using M,?_⟩
  grind [List.take_set,J6]
def Wy(D5:Int)(r:R.Sn):R.Sn:=if r.D5=D5/\r.DK<3 then {r with DK:=4} else r
def Li(D5:Int)(sn:List R.Sn):Nat->List R.Sn
 |0=>sn
 |i+1=>match (Li D5 sn i)[i]? with
  |none=>Li D5 sn i
  |some r=>(Li D5 sn i).set i (Wy D5 r)
theorem OX(D5:Int)(sn:List R.Sn):∀(i j:Nat),(Li D5 sn i)[j]?=if j<i then (sn[j]?).map (Wy D5) else sn[j]?
 |0,j=>by simp[Li]
 |i+1,j=>by
  have m:=OX D5 sn i;unfold Li;cases hi:(Li D5 sn i)[i]? with
  |none=>
   simp only;rw[m j];have f:=m i;rw[hi,Ao U]at f;by_cases e:j=i
   ·subst e;rw[<-f];simp
   ·by_cases h:j<i
    ·rw[Ay h,Ay U]
    ·rw[Ao h,Ao U]
  |some r=>
   simp only;rw[Bf,m j];have f:=m i;rw[hi,Ao U]at f;have hl:=GG hi;by_cases e:i=j
   ·subst e;rw[Ay rfl,Ay hl,Ay U,<-f];rfl
   ·rw[Ao e];by_cases h:j<i
    ·rw[Ay h,Ay U]
    ·rw[Ao h,Ao U]
theorem pG(h:sn.length=9):Li D5 sn 9=sn.map (Wy D5):=by
 apply BF;intro j
 grind [OX]
def Lt(W:Aa)(sn:Nat)(D5:Int)(S:List R.Sn):Nat->World
 |0=>W
 |i+1=>match S[i]? with
  |none=>Lt W sn D5 S i
  |some r=>if r.D5=D5/\r.DK<3 then (Lt W sn D5 S i).setCell ⟨sn,i*10+4,none⟩ (.int .i64 4) else Lt W sn D5 S i
structure bI(w1:Aa)(x sn:Nat)(D5:Int)(S:List R.Sn)(i:Nat):Prop where
 keep:DF (λk=>k=sn) w1 (Lt w1 sn D5 S i)
 mem:(Lt w1 sn D5 S i).heap[sn]?=some (.cells (tab Rk (Li D5 S i)).toArray 264 (0,0))
 MU:(Lt w1 sn D5 S i).cell? (Y x 11)=some (EJ sn 9 9)
theorem bI.all{sn:Nat}{D5:Int}(hl:S.length=9)(f:sn≠x)(D:w1.heap[sn]?=some (.cells (tab Rk S).toArray 264 (0,0)))(O:EB w1 x 11 (EJ sn 9 9)):∀i,i<=9->bI w1 x sn D5 S i
 |0,_=>⟨DF.refl _ _,D,O⟩
 |i+1,hi=>by
  have h:=bI.all (D5:=D5) hl f D O i U;obtain⟨r,M⟩:∃r,S[i]?=some r:=⟨_,Ah U⟩;have B:(Li D5 S i)[i]?=some r:=by rw[OX,Ao U];exact M
  have e:Li D5 S (i+1)=(Li D5 S i).set i (Wy D5 r):=by
   show (match (Li D5 S i)[i]? with|none=>_|some r=>_)=_;rw[B]
  have e2:Lt w1 sn D5 S (i+1)=if r.D5=D5/\r.DK<3 then (Lt w1 sn D5 S i).setCell (Y sn (i*10+4)) (Z 4) else Lt w1 sn D5 S i:=by
   show (match S[i]? with|none=>_|some r=>_)=_;rw[M]
  by_cases m:r.D5=D5/\r.DK<3
  ·rw[Ay m]at e2;refine⟨?_,?_,?_⟩
   ·rw[e2];exact h.keep.trans (EV _)
   ·rw[e2,e];unfold Wy;rw[Ay m];exact Fz h.mem B (j:=4) U rfl
   ·rw[e2,AP _ _ _ _ (λq=>f (CG Addr.block q))];exact h.MU
  ·rw[Ao m]at e2;refine⟨?_,?_,?_⟩
   ·rw[e2];exact h.keep
   ·rw[e2,e];unfold Wy;rw[Ao m];have:(Li D5 S i).set i r=Li D5 S i:=by
     obtain⟨y,rfl⟩:=Bi.1 B;exact List.set_getElem_self y
    rw[this];exact h.mem
   ·rw[e2];exact h.MU
theorem bI.next{sn:Nat}(h:bI w1 x sn D5 S i)(hl:S.length=9)(hi:i<9):∃r,iZ (Lt w1 sn D5 S i) sn i r/\(¬(r.D5=D5/\r.DK<3)->Lt w1 sn D5 S i=Lt w1 sn D5 S (i+1))/\((r.D5=D5/\r.DK<3)->(Lt w1 sn D5 S i).setCell (Y sn (i*10+4)) (Z 4)=Lt w1 sn D5 S (i+1)):=by
 obtain⟨r,f⟩:∃r,S[i]?=some r:=⟨_,Ah U⟩;have m:(Li D5 S i)[i]?=some r:=by rw[OX,Ao U];exact f
 have e2:Lt w1 sn D5 S (i+1)=if r.D5=D5/\r.DK<3 then (Lt w1 sn D5 S i).setCell (Y sn (i*10+4)) (Z 4) else Lt w1 sn D5 S i:=by
  show (match S[i]? with|none=>_|some r=>_)=_;rw[f]
 exact⟨r,Kg h.mem m,λhn=>by rw[e2,Ao hn],λy=>by rw[e2,Ay y]⟩
theorem nP{u sn:Nat}{b0:Bool}(hl:S.length=9)(hu:u<n)(hn:n<=255)(x7:EB w x 7 (EJ g n cap))(c1:EB w g (u*3+1) (.bool b0))(hz:w.frozen? (Y g (u*3+1))=false)(T:∀W,W=w.setCell (Y g (u*3+1)) (.bool false)->∀i,i<=9->bI W x sn ((u:Int)+1) S i):
  D7 217 #[Ey x,Z ((u:Int)+1)] w Ep λw'=>w'=Lt (w.setCell (Y g (u*3+1)) (.bool false)) sn ((u:Int)+1) S 9:=by
 have q0:0<=(u:Int):=U;have q1:(u:Int)<n:=U;have e1:IntKind.i64.wrap ((u:Int)+1-1)=(u:Int):=Iz;have e2:IntKind.i64.wrap (u:Int)=u:=Iz;have⟨hx,hg⟩:=KM x7 c1;obtain⟨m,h⟩:∃m,w.setCell (Y g (u*3+1)) (.bool false)=m:=⟨_,rfl⟩;have HN:Hid (∀i,i<9->∃r,iZ (Lt m sn ((u:Int)+1) S i) sn i r/\(¬(r.D5=(u:Int)+1/\r.DK<3)->Lt m sn ((u:Int)+1) S i=Lt m sn ((u:Int)+1) S (i+1))/\((r.D5=(u:Int)+1/\r.DK<3)->(Lt m sn ((u:Int)+1) S i).setCell (Y sn (i*10+4)) (Z 4)=Lt m sn ((u:Int)+1) S (i+1))):=λi hi=>(T m h.symm i U).next hl hi
 have HX:=T m h.symm;rw[h];have Q:=Dx h;clear T h hl;go_enter func217,ntmps217;go_wp2;rw[Dw Q];go_loopw [4] (λiv wr=>∃i:Nat,i<=9/\iv=Z i/\wr=Lt m sn ((u:Int)+1) S i) (λiv _=>9-(intOf iv).toNat)
 case atStart=>exact⟨0,U,rfl,rfl⟩
 case round=>
  obtain⟨i,hi,rfl,f⟩:=hrel;have O:=HX i hi;have MU:=O.MU;rw[<-f]at MU;have ab:=Gv MU;by_cases X:i<9
  ·have p0:0<=(i:Int):=U;have p1:(i:Int)<9:=U;have z4:wr.frozen? (Y sn (i*10+4))=false:=by
    rw[f];exact Eb O.mem
   have⟨r,hc,B,D⟩:=HN i X;rw[<-f]at hc B D;have⟨s0,s1,s2,s3,s4,s5,s6,s7,s8,s9⟩:=hc;have aa:=Gv s0;clear O f;by_cases y:r.D5=(u:Int)+1
   ·have k1:(r.D5==(u:Int)+1)=true:=by simp[y]
    by_cases M:r.DK<3
    ·have HE:=Dx (D ⟨y,M⟩);have k2:decide (r.DK<3)=true:=by simp[M]
     clear B D y M;go_wp2;exact aaN
    ·have HE:=Dx (B (λq=>M q.2));have k2:decide (r.DK<3)=false:=Fy;clear B D y M;go_wp2;exact aaN
   ·have k1:(r.D5==(u:Int)+1)=false:=by simp[y]
    have HE:=Dx (B (λq=>y q.1));clear B D y;go_wp2;exact aaN
  ·obtain rfl:i=9:=U;have HE:=Dx f;clear O f;go_wp2;go_returns;exact⟨rfl,HE⟩
theorem RM.aa3(h:RM x v F G w)(hl:G.DN.length=9)(hn:G.Dy.length<=255)(h1:1<=D5)(h2:D5<=(G.Dy.length:Int)):∃w1 v1 F1,ET 217 #[Ey x,Z D5] w (λe w'=>e=.returned Ep/\w'=w1)/\RM x v1 F1 (R.GR G D5) w1/\v1.S=v.S/\v1.N=v.N/\D8 F F1 w w1:=by
 obtain⟨u,rfl⟩:∃u:Nat,D5=(u:Int)+1:=⟨(D5-1).toNat,U⟩;have an:u<G.Dy.length:=U;obtain⟨s,al⟩:∃s,G.Dy[u]?=some s:=⟨_,Ah an⟩;have⟨z,hz,aS⟩:=K4 h.zs al;have hzl:v.zs.length=G.Dy.length:=by rw[<-h.zs,AX]
 have⟨g,cap,T,aN,B,ac⟩:=Jx MD U h.Iw hz;have hrow:=h.Iw;rw[T]at hrow;have c1:=B 1 _ U rfl;have x7:EB w x 7 (EJ g v.zs.length cap):=ED h.bx 7 _ (by rw[<-T];rfl);have hk:DF (λk=>k=g) w (w.setCell (Y g (u*3+1)) (.bool false)):=EV _;have ak:¬x=g:=λe=>by
  exact wR
 have⟨av,ad⟩:=J3 hrow rfl;have nb:∀{b:Nat} {ys:Array Value} {t:Ag},w.heap[b]?=some (.cells ys t (0,0))->t≠271->¬b=g:=λhb h1 e=>by
  subst e;exact ES hb ad h1 rfl
 have Q:=Qr MD hrow (y':=({z.1 with Fj:=false},z.2)) hz (j:=1) U (u:=.bool false) rfl;have O:=h.I4.keep hk (λhb q=>nb hb (by rcases q with rfl|rfl|rfl<;>decide)) (λ_ q=>q);have ah:QH (w.setCell (Y g (u*3+1)) (.bool false)) F (v.zs.set u ({z.1 with Fj:=false},z.2)) v.J G.EF:=by
  have D:∀(i:Nat) (y:R.Sv×Value),(v.zs.set u ({z.1 with Fj:=false},z.2))[i]?=some y->∃M,v.zs[i]?=some M/\y.2=M.2/\y.1.log=M.1.log:=λi y f=>by
   rw[Bf]at f;by_cases e:u=i
   ·subst e;rw[Ay rfl,Ay U]at f;cases f;exact⟨z,hz,rfl,rfl⟩
   ·rw[Ao e]at f;exact⟨y,f,rfl,rfl⟩
  refine⟨λy f=>?_,λi j y y' f ao ae=>?_,O.EF⟩
  ·have⟨i,hi⟩:=Bp.1 f;have⟨M,q1,q2,q3⟩:=D i y hi;rw[q2,q3];exact O.I4 M (Ap q1)
  ·have⟨M,q1,q2,_⟩:=D i y f;have⟨y1,r1,r2,_⟩:=D j y' ao;rw[q2,r2];exact h.I4.apart i j M y1 q1 r1 ae
 have hT:=h.kj (K:=v.V) (zs:=v.zs.set u ({z.1 with Fj:=false},z.2)) (hk.mono (λk _ e=>Am (by rw[T,e];rfl))) (hk.at h.bx ak) (by rw[T,BG];exact Q) (F2:=F) (λk q=>Aj q) (λ_ q=>q) (λk q=>Ai (h.lt k q) hk.size) ah (λj hj=>Aj hj);have⟨F',X,aa⟩:=hT;have am:v.Sn≠x:=λe=>ES h.DN (e ▸ h.bx) Em rfl
 have m:=bI.all (D5:=(u:Int)+1) hl am X.DN (EI X.bx 11);have h9:=m 9 (Ar _);have⟨r1,r2⟩:=X.JE h9.keep h9.mem;refine⟨_,{v with V:=v.V,zs:=v.zs.set u ({z.1 with Fj:=false},z.2)},F',nP hl U U x7 c1 (ac _) (λW hW=>by
  rw[hW];exact m),?_,rfl,rfl,aa.trans r2⟩
 have hE:R.GR G ((u:Int)+1)={G with Dy:=(v.zs.set u ({z.1 with Fj:=false},z.2)).map (·.1),DN:=Li ((u:Int)+1) G.DN 9}:=by
  unfold R.GR;rw[pG hl,C4,h.zs,show ((u:Int)+1-1).toNat=u by omega];congr 1;apply BF;intro j
  grind
 rw[hE];exact r1
theorem RM.end_(h:RM x v F G w)(hl:G.DN.length=9)(hn:G.Dy.length<=255)(y:1<=D5)(B:D5<=(G.Dy.length:Int)):D7 217 #[Ey x,Z D5] w Ep λw'=>∃f m,RM x f m (R.GR G D5) w'/\f.S=v.S/\f.N=v.N/\D8 F m w w':=by
 have⟨w1,X,D,H,M,O,Q,T⟩:=h.aa3 hl hn y B;refine cs H ?_
 grind
theorem rJ(h:R.MX G.c G.DX G.DN G.EF)(hu:1<=D5):R.MX (R.GR G D5).c (R.GR G D5).DX (R.GR G D5).DN (R.GR G D5).EF:=by
 refine⟨h.ll,h.lv,by simp[R.GR,h.sl],λi r D=>?_,h.jl,h.jb⟩;have f:(G.DN.map λr=>if r.D5=D5/\r.DK<3 then {r with DK:=4} else r)[i]?=some r:=D;rw[BP]at f;cases hq:G.DN[i]? with
 |none=>rw[hq]at f;cases f
 |some r0=>
  rw[hq]at f;have m:=h.sn i r0 hq;obtain rfl:=Option.some.inj f;show R.Tm (G.DX.getD (i / 3) 0) (if r0.D5=D5/\r0.DK<3 then {r0 with DK:=4} else r0);split
  ·rename_i y;have B:r0.D4≠0:=λe=>by
    have:=m.zero e;rw[this]at y;have:(0:Int)=D5:=y.1;omega
   grind [R.Tm]
  ·exact m
abbrev agt(c:R.Cf)(v:RV):List Value:=[Z c.DI,Z c.DV,Z c.Ew,Z c.DW,Z c.FF,v.N,v.S,v.V,v.Fl,v.C,EJ v.L 3 3,EJ v.Sn 9 9,v.J]
theorem RM.uE(h:RM x v F G w)(B:DY w W)(D:W.grownBy wz v.N.ownBlock)(f:wz.ownsRow 0 9 1 K (G.Eu.length+1) (KG G.Eu++[.string (str name)]))(m:K.ownBlock=v.N.ownBlock\/K.ownBlock=some j0)(M:w.heap.size<=j0):wz.heap[x]?=w.heap[x]?/\∃y,RM x {v with N:=K} y {G with Eu:=G.Eu++[name]} (wz.setCell (Y x 5) K)/\D8 F y w (wz.setCell (Y x 5) K):=by
 have O:=h.bx;have⟨d1,d2,d3,d4⟩:=OQ (o:=5) O h.Eu Em B D f m M;refine⟨(Kd h.bx h.Eu Em B D).trans h.bx.symm,h.tQ d3 d2 ?_ d4⟩
 grind [KG]
theorem RM.mX(h:RM x v F G w)(B:DY w W)(D:W.grownBy wz v.S.ownBlock){u:Int}(f:wz.ownsRow 0 3 1 K (G.Ec.length+1) (GK G.Ec++[Z u]))(m:K.ownBlock=v.S.ownBlock\/K.ownBlock=some j0)(M:w.heap.size<=j0):wz.heap[x]?=w.heap[x]?/\∃y,RM x {v with S:=K} y {G with Ec:=G.Ec++[u]} (wz.setCell (Y x 6) K)/\D8 F y w (wz.setCell (Y x 6) K):=by
 have O:=h.bx;have⟨d1,d2,d3,d4⟩:=OQ (o:=6) O h.Ec Em B D f m M;refine⟨(Kd h.bx h.Ec Em B D).trans h.bx.symm,h.Wo d3 d2 ?_ d4⟩
 grind [GK]
theorem QH.snoc(h:QH w F zs J js)(Dz:Int):QH w F (zs++[(⟨Dz,true,[]⟩,.slice none 0 0)]) J js:=by
 have f:∀(i:Nat) (y:R.Sv×Value),(zs++[(⟨Dz,true,[]⟩,.slice none 0 0)])[i]?=some y->zs[i]?=some y\/y=(⟨Dz,true,[]⟩,.slice none 0 0):=λi y m=>by
  grind
 refine⟨λz hz=>?_,λi j z y hz m B k hk=>?_,h.EF⟩
 ·rcases Bj.1 hz with q|q
  ·exact h.I4 z q
  ·rw[Bg.1 q];exact⟨⟨[],rfl,AZ _ _ _ _,λy m=>by cases m⟩,λj D=>by cases D⟩
 ·rcases f i z hz with q|q
  ·rcases f j y m with r|r
   ·exact h.apart i j z y q r B k hk
   ·rw[r];intro e;cases e
  ·rw[q]at hk;cases hk
theorem RM.ZG(h:RM x v F G w)(hb:DY w W)(B:W.grownBy wz v.V.ownBlock){Dz:Int}(f:wz.ownsRow 0 271 3 K (v.zs.length+1) (tab svc v.zs++[Z Dz,.bool true,.slice none 0 0]))(y:K.ownBlock=v.V.ownBlock\/K.ownBlock=some j0)(M:w.heap.size<=j0):wz.heap[x]?=w.heap[x]?/\∃X m,RM x X m {G with Dy:=G.Dy++[⟨Dz,true,[]⟩]} (wz.setCell (Y x 7) K)/\D8 F m w (wz.setCell (Y x 7) K):=by
 have O:=h.bx;have⟨d1,d2,d3,d4⟩:=OQ (o:=7) O h.Iw Em hb B f y M;refine⟨(Kd h.bx h.Iw Em hb B).trans h.bx.symm,?_⟩;have Q:∀{b:Nat} {ys:Array Value} {t:Ag},w.heap[b]?=some (.cells ys t (0,0))->t≠229->t≠271->¬(b=x\/v.V.ownBlock=some b):=λhb h1 h2 e=>by
  exact ace
 have⟨m,D,T⟩:=h.kj (K:=K) (zs:=v.zs++[(⟨Dz,true,[]⟩,.slice none 0 0)]) d3 d2 (by
  rw[AJ,Jn];exact d1) (F2:=F) (λk q=>Aj q) (λ_ q=>q) (λk q=>Ai (h.lt k q) d3.size) ((h.I4.keep d3 (λhb q=>Q hb (by rcases q with rfl|rfl|rfl<;>decide) (by rcases q with rfl|rfl|rfl<;>decide)) (λ_ q=>q)).snoc Dz) d4
 rw[C8,h.zs]at D;exact⟨_,m,D,T⟩
theorem Q9:∀l:List Int,GK l=tab (λn=>[Value.int .i64 n]) l
 |[]=>rfl
 |a :: l=>by
  have f:=Q9 l;simp only[GK,tab,Cq,Ci,List.singleton_append]at f ⊢;rw[f]
theorem RM.Qv(h:RM x v F G w){k:Nat}{u0:Int}(hk:G.Ec[k]?=some u0)(u:Int):∃g cap,v.S=EJ g G.Ec.length cap/\EB w g k (Z u0)/\w.frozen? (Y g k)=false/\∃Q,RM x v Q {G with Ec:=G.Ec.set k u} (w.setCell (Y g k) (Z u))/\D8 F Q w (w.setCell (Y g k) (Z u)):=by
 have e1:=Q9 G.Ec;have hrow:=h.Ec;rw[e1]at hrow;have⟨g,cap,D,T,m,M⟩:=Jx (f:=λn=>[Value.int .i64 n]) (size:=1) (λ_=>rfl) U hrow hk;have c0:=m 0 (Z u0) U rfl;simp only[Nat.mul_one,Cz]at c0;refine⟨g,cap,D,c0,M _,?_⟩;rw[D]at hrow;have B:=Qr (f:=λn=>[Value.int .i64 n]) (size:=1) (λ_=>rfl) hrow (y':=u) hk (j:=0) U (u:=Z u) rfl;simp only[Nat.mul_one,Cz]at B;have y:DF (λj=>j=g) w (w.setCell (Y g k) (Z u)):=by grind [DF.setCell,DF.refl]
 have O:¬x=g:=λe=>by
  exact wR
 refine h.Wo (K:=v.S) (y.mono (λj _ e=>Am (by rw[D,e];rfl))) (y.at h.bx O) ?_ (λj X=>Aj X)
 grind [Q9]
theorem jJ:(prog.info? 9).map (λi=>(i.zero,i.size,i.bytes))=some (some (.string ⟨#[]⟩),1,16):=EL
theorem Xk:(prog.info? 3).map (λi=>(i.zero,i.size,i.bytes))=some (some (Z 0),1,8):=EL
theorem sw:(prog.info? 271).map (λi=>(i.zero,i.size,i.bytes))=some (some (.agg #[Z 0,.bool false,.slice none 0 0]),3,40):=EL
theorem LH(w:Aa)(t:Ag)(l:Ae)(j:Nat)(u:Ad)(h:l[j]?=some u):(w.alloc (.cells l.toArray t)).cell? (((EN w 0):Addr).add j)=some u:=by grind [Addr.add_lit,World.cell?_alloc_new]
theorem zX(w:Aa)(x:Nat)(S:Ab)(Dz e0:Int)(nm:Bool)(en:Int)(Q T:Af)(y X O cV:Nat)(H212:Hid (∀w,D7 215 #[.string S] w (.bool nm) λw'=>w'=w))(H213:Hid (D7 216 #[Ey x,.string S] w (Z en) λw'=>w'=w))(x5:EB w x 5 (.slice Q y X))(x7:EB w x 7 (.slice T O cV))
  (h:(nm=false/\e0=10)\/(nm=true/\(Dz<0\/2<Dz)/\e0=9)\/(nm=true/\¬Dz<0/\¬2<Dz/\en<0/\y=6/\e0=12)\/(nm=true/\¬Dz<0/\¬2<Dz/\¬(en<0/\y=6)/\O=255/\e0=11)):
  D7 159 #[Ey x,.string S,Z Dz] w (.tuple #[Z 0,Z e0]) λw'=>w'=w:=by
 have hx:=Gv x5;rcases h with ⟨f,m⟩|⟨f,m,B⟩|⟨f,m,B,h4,D,M⟩|⟨f,m,B,h4,D,M⟩
 ·subst f m;exact pg
 ·subst f B;by_cases hk:Dz<0
  ·exact pg
  ·have aa:2<Dz:=U;exact pg
 ·subst f D M;exact pg
 ·subst f D M;by_cases he:en<0
  ·have ab:((y:Int)==6)=false:=Fy;exact pg
  ·exact pg
end Go.Proofs.YtblomippkddgiaaGreatDoor
