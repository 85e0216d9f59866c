import Derived.Test.YtblomippkddgiaaGreatDoorJ06
set_option maxRecDepth 100000
set_option maxHeartbeats 1000000
namespace Go.Proofs.YtblomippkddgiaaGreatDoor.V
open Go.Proofs.Tryz
open Go.RowKit
variable {s:ByteArray}{k0:List Bool}{v:List It}{qs:List Nat}{l:List UInt8}{M b c c2 f k p:Nat}{E:Nat→List It→GB}{O' O1:Nat→Prop}{O:Value}{w w' w0 w1:World}
structure Kept(O O':Nat->Prop)(w w':Aa):Prop where
 size:w.heap.size<=w'.heap.size
 block:∀k,k<w.heap.size->¬O k->w'.heap[k]?=w.heap[k]?
 row:∀k,O' k->O k\/w.heap.size<=k
theorem Kept.refl(O:Nat->Prop)(w:Aa):Kept O O w w:=⟨Ar _,λ_ _ _=>rfl,λ_ h=>Aj h⟩
theorem Kept.trans{O e:Nat->Prop}{g:Aa}(h:Kept O O1 w w1)(k:Kept O1 e w1 g):Kept O e w g:=by grind [Kept]
theorem Kept.of_below{O:Nat->Prop}(h:DY w w'):Kept O O w w':=⟨h.size,λk hk _=>h.block k hk,λ_ h=>Aj h⟩
theorem Kept.cell{O:Nat->Prop}(h:Kept O O' w w'){o:Nat}(hk:k<w.heap.size)(e:¬O k):w'.cell? (Y k o)=w.cell? (Y k o):=by grind [Kept,World.cell?_of_block]
structure GX(σ:Type) where
 tid:Nat
 Vj:Nat
 rW:Nat
 er:Nat
 ptr:Addr
 w0:World
 St:World->Nat->σ->(Nat->Prop)->Prop
 num:Int->Int->σ->Option (Int×σ)
 IE:σ->Option σ
variable {σ:Type}
abbrev GX.I(C:GX σ):Value:=.iface C.tid (.pointer (some C.ptr))
def GX.Lv(C:GX σ)(O:Nat->Prop)(c:Nat)(x':σ)(w w':Aa):Prop:=∃c' O',c'<=c/\C.St w' c' x' O'/\Kept O O' w w'
def GX.No(C:GX σ)(P:Prop)(w':Aa):Prop:=P/\Below C.w0.heap.size C.w0 w'
structure PS(C:GX σ):Prop where
 DG:∀{w c x O},C.St w c x O->Below C.w0.heap.size C.w0 w
 fresh:∀{w c x O},C.St w c x O->∀k,O k->C.w0.heap.size<=k/\k<w.heap.size
 go:∀{w c x O w'},C.St w c x O->Below w.heap.size w w'->C.St w' c x O
 range:∀{lo hi x n x'},C.num lo hi x=some (n,x')->lo<=n/\n<=hi
 Zi:bJ C.tid C.Vj C.ptr
 adj:aej C.tid C.rW C.ptr
 number:∀{w c x O} (lo hi:Int),C.St w c x O->c<=40000->(lo=0/\hi<=65535\/lo=-32768/\hi=32767)->Calls prog C.Vj #[.pointer (some C.ptr),Z lo,Z hi] w
  (xY C.er (C.No (C.num lo hi x=none)) (λi w'=>∃x',C.num lo hi x=some (i,x')/\C.Lv O (c+1) x' w w'))
 text:∀{w c x O},C.St w c x O->c<=40000->Calls prog C.rW #[.pointer (some C.ptr)] w
  (SE C.er (C.No (C.IE x=none)) (λw'=>∃x',C.IE x=some x'/\C.Lv O (c+1) x' w w'))
def Ml(C:GX σ)(r:Option σ)(O:Nat->Prop)(c:Nat)(w:Aa):Ending->World->Prop:=
 SE C.er (C.No (r=none)) (λw'=>∃x',r=some x'/\C.Lv O c x' w w')
def kD(C:GX σ)(T:Ad)(E:σ->Option σ)(M:Nat):Prop:=∀w c x O,C.St w c x O->c+M<=40000->Calls prog 125 #[T,C.I] w (Ml C (E x) O (c+M) w)
theorem kD.mono{C:GX σ}{T:Ad}{E:σ->Option σ}{g:Nat}(h:kD C T E M)(Q:M<=g):kD C T E g:=by
 intro w c x O y hc;refine(h w c x O y U).mono ?_;rintro e w' (h|⟨rfl,D,B,j,O',u,m⟩)
 ·exact Aj h
 ·exact Am ⟨rfl,D,B,j,O',U,m⟩
def Gt(E:Nat->σ->Option σ):List Nat->σ->Option σ
 |[],x=>some x
 |q :: qs,x=>(E q x).bind (Gt E qs)
theorem RX(E:Nat->σ->Option σ):∀(a b:List Nat) (x:σ),Gt E (a++b) x=(Gt E a x).bind (Gt E b):=by
 intro a;induction a with
 |nil=>intro b x;rfl
 |cons q a ih=>
  intro b x;simp only[BB,Gt];cases E q x with
  |none=>rfl
  |some y=>exact ih b y
theorem Wj{E:Nat->σ->Option σ}{q:Nat}(h:qs[k]?=some q)(x:σ):Gt E (qs.take (k+1)) x=(Gt E (qs.take k) x).bind (E q):=by
 rw[Bh,h,RX];congr 1;funext y;simp only[Cm,Gt];cases E q y<;>rfl
theorem Wi{E:Nat->σ->Option σ}{x:σ}(h:Gt E (qs.take k) x=none):Gt E qs x=none:=by grind [List.take_append_drop,RX]
def Es(num:Int->Int->σ->Option (Int×σ))(IE:σ->Option σ)(g:Nat->Nat):Nat->Nat->σ->Option σ
 |0,_,_=>none
 |f+1,p,x=>
  if g p=115 then IE x
  else if g p=97 then Gt (Es num IE g f) (List.replicate (g (p+1)-48) (p+2)) x
  else if g p=114 then Gt (Es num IE g f) (Pt.EW g f p) x
  else (num (FZ (g p)) (FD g f p) x).bind λr=>
   if g p=117 then Es num IE g f (Gj (Pt.EW g f p) r.1) r.2
   else if g p=113 then Gt (Es num IE g f) (List.replicate r.1.toNat (p+2)) r.2
   else some r.2
structure Far(C:GX σ)(E:Nat->σ->Option σ)(qs:List Nat)(x:σ)(c M:Nat)(O:Nat->Prop)(w:Aa)(k:Nat)(w':Aa)(xk:σ)(c':Nat)(O':Nat->Prop):Prop where
 D4:Gt E (qs.take k) x=some xk
 le:c'<=c+k*M
 st:C.St w' c' xk O'
 kept:Kept O O' w w'
def acI(C:GX σ)(E:Nat->σ->Option σ)(qs:List Nat)(x:σ)(c M:Nat)(O:Nat->Prop)(w:Aa)(k:Nat)(w':Aa):Prop:=∃xk c' O',Far C E qs x c M O w k w' xk c' O'
theorem YP{C:GX σ}{E:Nat->σ->Option σ}{x:σ}{O:Nat->Prop}{q:Nat}{u:σ}{y:Nat}(h:Far C E qs x c M O w k w' u y O')(X:qs[k]?=some q)(Q:Kept O' O' w' w1):
  ∀e m,Ml C (E q u) O' (y+M) w1 e m->SE C.er (C.No (Gt E qs x=none)) (acI C E qs x c M O w (k+1)) e m:=by
 have B:Gt E (qs.take (k+1)) x=E q u:=by rw[Wj X,h.D4];rfl
 rintro e m (⟨rfl,hn,hw⟩|⟨rfl,x',hx,c2,D,T,j,g⟩)
 ·exact Aj ⟨rfl,Wi (B.trans hn),hw⟩
 ·refine Am ⟨rfl,x',c2,D,B.trans hx,?_,j,h.kept.trans (Q.trans g)⟩;have:=h.le
  grind
theorem U2{C:GX σ}(hC:PS C){u y:Int}{B:Af}{Q D:Nat}{E:Nat->σ->Option σ}{q:Nat}(HK:kD C (.agg #[.int .u8 u,Z y,.slice B Q D]) (E q) M)(n:Nat)(hn:n<=9){x:σ}{O:Nat->Prop}(hs:C.St w c x O)(hc:c+n*M<=40000):
  ET 193 #[Z n,.agg #[.int .u8 u,Z y,.slice B Q D],C.I] w (Ml C (Gt E (List.replicate n q) x) O (c+n*M) w):=by
 have T:=(AA w.heap.size w).alloc (Ar _) (.cells #[.int .u8 u,Z y,.slice B Q D] 153);have g:¬O w.heap.size:=λh=>by have:=(hC.fresh hs _ h).2;omega
 have⟨t0,t1,t2,_⟩:=(NZ.new w (.int .u8 u) (Z y) (.slice B Q D)).facts;refine(iP C.tid C.er C.ptr w u y B Q D n (C.No (Gt E (List.replicate n q) x=none)) (acI C E (List.replicate n q) x c M O (w.alloc (.cells #[.int .u8 u,Z y,.slice B Q D] 153))) hn ⟨x,c,O,rfl,U,hC.go hs T,Kept.refl _ _⟩ ?_).mono ?_
 ·rintro j w' hj ⟨xj,X,O',h⟩;have m:w.heap.size<(w.alloc (.cells #[.int .u8 u,Z y,.slice B Q D] 153)).heap.size:=Ev;refine⟨(h.kept.cell m g).trans t0,(h.kept.cell m g).trans t1,(h.kept.cell m g).trans t2,?_⟩;refine(HK w' X xj O' h.st ?_).mono (YP h (q:=q) ?_ (Kept.refl _ _))
  ·have e1:(j+1)*M<=n*M:=BL M hj;rw[Nat.add_mul,Nat.one_mul]at e1;have:=h.le;omega
  grind
 ·rintro e w' (h|⟨rfl,x',X,O',h⟩)
  ·exact Aj h
  ·refine Am ⟨rfl,x',?_,X,O',h.le,h.st,(Kept.of_below T).trans h.kept⟩;have:=h.D4
   grind
theorem nQ{S:Nat->Prop}{g:Nat->Nat}{c0 c1 c2:Ad}(h:NP w0 S g (f+1) p c0 c1 c2):c0=.int .u8 (g p)/\c1=Z (Gl g p)/\∃B vc,c2=.slice B (Pt.EW g f p).length vc/\(∀j q,(Pt.EW g f p)[j]?=some q->∃e y0 y1 ya yn yk,B=some (Y e 0) /\
   (∀w,DY w0 w->w.cell? (Y e (j*3))=some (.int .u8 y0)/\w.cell? (Y e (j*3+1))=some (Z y1)/\w.cell? (Y e (j*3+2))=some (.slice ya yn yk))/\NP w0 S g f q (.int .u8 y0) (Z y1) (.slice ya yn yk)):=by
 have⟨T,h1,xs,ho,hi⟩:=h;obtain⟨B,vc,y⟩:∃a c,c2=.slice a (Pt.EW g f p).length c:=by
  rcases ho.1.2 with ⟨rfl,T⟩|⟨e,cap,Q,rfl,_⟩;all_goals grind
 refine⟨T,h1,B,vc,y,λj q hq=>?_⟩;have⟨d0,d1,d2,a0,a1,a2,hr⟩:=hi j q hq;subst y;obtain⟨e,rfl,u⟩:∃e,B=some (Y e 0)/\e<w0.heap.size:=by
  rcases ho.1.2 with ⟨hv,T⟩|⟨e,cap,Q,hv,_,hh,_⟩;all_goals grind
 have m:=ho.1.cells (g:=e) rfl;have D:∀o,((Y e 0):Addr).add o=(Y e o):=λo=>by simp[Addr.add];omega
 obtain⟨⟨x0,rfl⟩,⟨x1,rfl⟩,⟨ea,en,ec,rfl⟩⟩:=GN hr;refine⟨e,x0,x1,ea,en,ec,rfl,λw X=>⟨?_,?_,?_⟩,hr⟩
 ·rw[X.cell (p:=(Y e (j*3))) u,<-D,BZ];exact m _ _ a0
 ·rw[X.cell (p:=(Y e (j*3+1))) u,<-D,BZ];exact m _ _ a1
 ·rw[X.cell (p:=(Y e (j*3+2))) u,<-D,BZ];exact m _ _ a2
theorem le_top{l:List Nat}{a:Nat}(h:a∈l):a<=Pt.top l:=by
 induction l with
 |nil=>cases h
 |cons b l ih=>grind [Pt.top]
def QF(C:GX σ)(s:Ab)(f:Nat):Prop:=∀p S c0 c1 c2,NP C.w0 S (nx s) f p c0 c1 c2->N4 s f p->kD C (.agg #[c0,c1,c2]) (Es C.num C.IE (nx s) f p) (10 ^ Pt.Lj (nx s) f p)
variable {σ:Type}
theorem S8{C:GX σ}{r:Option (Int×σ)}{E:Option σ}(m:E=r.bind λr=>some r.2){O:Nat->Prop}(y:Kept O O w w1)(Q:1<=M):
  ∀e w',SE C.er (C.No (r=none)) (λw'=>∃i g,r=some (i,g)/\C.Lv O (c+1) g w1 w') e w'->Ml C E O (c+M) w e w':=by
 rintro e w' (⟨rfl,h,B⟩|⟨rfl,i,g,h,u,O',D,j,hk⟩)
 ·exact Aj ⟨rfl,by rw[m,h];rfl,B⟩
 ·exact Am ⟨rfl,g,by rw[m,h];rfl,u,O',U,j,y.trans hk⟩
theorem au{C:GX σ}{E:Option σ}{O:Nat->Prop}(h1:Kept O O w w1)(hc:c<=c2):
  ∀e w',Ml C E O c w1 e w'->Ml C E O c2 w e w':=by
 exact abO
theorem Wl{C:GX σ}{E g:Option σ}{O:Nat->Prop}(h1:Kept O O1 w w1)(j:g=E)(hc:c<=c2):
  ∀e w',Ml C E O1 c w1 e w'->Ml C g O c2 w e w':=by
 subst j;exact abO
theorem dh{C:GX σ}(hC:PS C)(ih:QF C s f):QF C s (f+1):=by
 intro p S c0 c1 c2 hR hO;obtain⟨rfl,rfl,va,vc,rfl,aS⟩:=nQ hR;obtain⟨T,hT⟩:∃T,T=Pt.top ((Pt.EW (nx s) f p).map (Pt.Lj (nx s) f)):=⟨_,rfl⟩;have hM:10 ^ Pt.Lj (nx s) (f+1) p=10*10 ^ T:=by rw[Pt.Lj,<-hT,Nat.pow_succ,BZ]
 have be:1<=10 ^ T:=Nat.one_le_pow _ _ Em;have KK:∀j q,(Pt.EW (nx s) f p)[j]?=some q->N4 s f q->∃y X y1 ya yn yk,va=some (Y y 0) /\
   (∀w,DY C.w0 w->EB w y (j*3) (.int .u8 X)/\EB w y (j*3+1) (Z y1)/\EB w y (j*3+2) (.slice ya yn yk))/\kD C (.agg #[.int .u8 X,Z y1,.slice ya yn yk]) (Es C.num C.IE (nx s) f q) (10 ^ T):=by
  intro j q D ho;have⟨y,X,y1,ya,yn,yk,ad,g,hr⟩:=aS j q D;refine⟨y,X,y1,ya,yn,yk,ad,g,(ih q S _ _ _ hr ho).mono ?_⟩;refine CS Em ?_;rw[hT];exact le_top (Cy.2 ⟨q,Ap D,rfl⟩)
 rw[hM];generalize 10 ^ T=M at *;intro w c x O hs hc;have aw:=hC.DG hs;have u:∀o,DY w (w.alloc o):=λo=>(AA w.heap.size w).alloc (Ar _) o
 have aN:¬O w.heap.size:=λh=>by have:=(hC.fresh hs _ h).2;omega
 rcases J2 hO with (h|h|h|h)|⟨h,_,az,FU⟩|⟨h,_,az,FU,ak⟩|⟨h,_,az,FU,ak⟩|hl
 ·have e:((nx s p:Nat):Int)=98:=by rw[h];rfl
  rw[e];refine(ad3 C.tid C.Vj C.er C.ptr hC.Zi w _ _ _ _ _ _ (hC.number 0 1 (hC.go hs (u _)) U (Aj ⟨rfl,Em⟩))).mono (S8 ?_ (Kept.of_below (u _)) U);simp[Es,h,FZ,FD]
 ·have e:((nx s p:Nat):Int)=99:=by rw[h];rfl
  rw[e];refine(ad4 C.tid C.Vj C.er C.ptr hC.Zi w _ _ _ _ _ _ (hC.number 0 65535 (hC.go hs (u _)) U (Aj ⟨rfl,Em⟩))).mono (S8 ?_ (Kept.of_below (u _)) U);simp[Es,h,FZ,FD]
 ·have e:((nx s p:Nat):Int)=105:=by rw[h];rfl
  rw[e];refine(ad6 C.tid C.Vj C.er C.ptr hC.Zi w _ _ _ _ _ _ (hC.number (-32768) 32767 (hC.go hs (u _)) U (Am ⟨rfl,rfl⟩))).mono (S8 ?_ (Kept.of_below (u _)) U);simp[Es,h,FZ,FD]
 ·have e:((nx s p:Nat):Int)=115:=by rw[h];rfl
  rw[e];have hE:Es C.num C.IE (nx s) (f+1) p x=C.IE x:=by simp[Es,h]
  refine(ad9 C.tid C.rW C.er C.ptr hC.adj w _ _ _ _ _ _ (hC.text (hC.go hs (u _)) U)).mono ?_;rw[hE];exact au (Kept.of_below (u _)) U
 ·have e:((nx s p:Nat):Int)=101:=by rw[h];rfl
  have ae:Gl (nx s) p=(nx s (p+1):Int)-48:=by simp[Gl,h]
  rw[e,ae];refine(ad5 C.tid C.Vj C.er C.ptr hC.Zi w _ _ _ _ _ _ U (hC.number 0 _ (hC.go hs (u _)) U (Aj ⟨rfl,U⟩))).mono (S8 ?_ (Kept.of_below (u _)) U);simp[Es,h,FZ,FD]
 ·have e:((nx s p:Nat):Int)=97:=by rw[h];rfl
  obtain⟨n,hn⟩:∃n,n=nx s (p+1)-48:=⟨_,rfl⟩;have ae:Gl (nx s) p=(n:Int):=by simp[Gl,h];omega
  have hk:Pt.EW (nx s) f p=[p+2]:=by simp[Pt.EW,h]
  obtain⟨y,X,y1,ya,yn,yk,rfl,g,B⟩:=KK 0 (p+2) (by rw[hk];rfl) ak;have hE:Es C.num C.IE (nx s) (f+1) p x=Gt (Es C.num C.IE (nx s) f) (List.replicate n (p+2)) x:=by simp[Es,h,hn]
  rw[e,ae,hE];have av:∀o,DY w (w.alloc o).drew:=λo=>(u o).drew
  have hf:=λo=>g (w.alloc o) (aw.trans ((u o).mono aw.size))
  have b7:n*M<=9*M:=BL M U;refine(ad2 C.tid C.er C.ptr w n y _ _ X y1 ya yn yk _ _ (by rw[hk];simp) (λo=>(hf o).1) (λo=>(hf o).2.1) (λo=>(hf o).2.2) (U2 hC B n U (hC.go hs (av _)) U)).mono ?_;exact au (Kept.of_below (av _)) U
 ·have e:((nx s p:Nat):Int)=113:=by rw[h];rfl
  obtain⟨m,hm⟩:∃m,m=nx s (p+1)-48:=⟨_,rfl⟩;have ae:Gl (nx s) p=(m:Int):=by simp[Gl,h];omega
  have hk:Pt.EW (nx s) f p=[p+2]:=by simp[Pt.EW,h]
  obtain⟨y,X,y1,ya,yn,yk,rfl,g,B⟩:=KK 0 (p+2) (by rw[hk];rfl) ak;have hE:Es C.num C.IE (nx s) (f+1) p x=(C.num 0 m x).bind λr=>Gt (Es C.num C.IE (nx s) f) (List.replicate r.1.toNat (p+2)) r.2:=by
   have:((nx s (p+1):Nat):Int)-48=(m:Int):=U;simp[Es,h,FZ,FD,this]
  rw[e,ae];have⟨t0,t1,t2,_⟩:=(NZ.new w (.int .u8 113) (Z m) (EJ y (Pt.EW (nx s) f p).length vc)).facts;refine ad7 C.tid C.Vj C.er C.ptr hC.Zi w m y _ _ X y1 ya yn yk (C.No (Es C.num C.IE (nx s) (f+1) p x=none)) _ (λi w'=>∃Q,C.num 0 m x=some (i,Q)/\C.Lv O (c+1) Q (w.alloc (Gb 113 m (some (Y y 0)) (Pt.EW (nx s) f p).length vc)) w') (by rw[hk];simp) ((hC.number 0 m (hC.go hs (u _)) U (Aj ⟨rfl,U⟩)).mono ?_) ?_
  ·rintro e w' (⟨rfl,hr,hb⟩|h)
   ·exact Aj ⟨rfl,by rw[hE,hr];rfl,hb⟩
   ·exact Am h
  ·rintro i w' ⟨Q,hx,c',O',b1,ac,aa⟩;have⟨b3,b4⟩:=hC.range hx;obtain⟨n,rfl⟩:∃n:Nat,i=n:=⟨i.toNat,U⟩;have ah:w.heap.size<(w.alloc (Gb 113 m (some (Y y 0)) (Pt.EW (nx s) f p).length vc)).heap.size:=Ev;have⟨f0,f1,f2⟩:=g w' (hC.DG ac);have b7:n*M<=9*M:=BL M U;refine⟨(aa.cell ah aN).trans t2,f0,f1,f2,(U2 hC B n U ac U).mono ?_⟩;refine Wl ((Kept.of_below (u _)).trans aa) ?_ U;rw[hE,hx];simp
 ·rcases hl.here with h|h
  ·have e:((nx s p:Nat):Int)=114:=by rw[h];rfl
   have hE:Es C.num C.IE (nx s) (f+1) p x=Gt (Es C.num C.IE (nx s) f) (Pt.EW (nx s) f p) x:=by simp[Es,h]
   have h6:=Jj (nx s) f p;rw[e,hE];refine(ad8 C.tid C.er C.ptr w _ va _ vc (C.No (Gt (Es C.num C.IE (nx s) f) (Pt.EW (nx s) f p) x=none)) (acI C (Es C.num C.IE (nx s) f) (Pt.EW (nx s) f p) x c M O (w.alloc (Gb 114 (Gl (nx s) p) va (Pt.EW (nx s) f p).length vc))) h6 ⟨x,c,O,rfl,U,hC.go hs (u _),Kept.refl _ _⟩ ?_).mono ?_
   ·rintro j w' hj ⟨xj,c',O',hF⟩;obtain⟨q,D⟩:∃q,(Pt.EW (nx s) f p)[j]?=some q:=⟨_,Ah hj⟩;have⟨y,X,y1,ya,yn,yk,ad,g,B⟩:=KK j q D (JQ hl q (Ap D)).2;have⟨f0,f1,f2⟩:=g w' (hC.DG hF.st);have ar:∀o,DY w' (w'.alloc o):=λo=>(AA w'.heap.size w').alloc (Ar _) o
    refine⟨y,X,y1,ya,yn,yk,ad,f0,f1,f2,(B _ c' xj O' (hC.go hF.st (ar _)) ?_).mono (YP hF D (Kept.of_below (ar _)))⟩;have e1:(j+1)*M<=6*M:=BL M U;rw[Nat.add_mul,Nat.one_mul]at e1;have:=hF.le;omega
   ·rintro e w' (h|⟨rfl,Q,c',O',hF⟩)
    ·exact Aj h
    ·have D:=hF.D4;rw[A7 (Ar _)]at D;refine Am ⟨rfl,Q,D,c',O',?_,hF.st,(Kept.of_below (u _)).trans hF.kept⟩;have e1:=BL M h6;have:=hF.le;omega
  ·have e:((nx s p:Nat):Int)=117:=by rw[h];rfl
   have h6:=Jj (nx s) f p;have hE:Es C.num C.IE (nx s) (f+1) p x=(C.num 0 (((Pt.EW (nx s) f p).length:Int)-1) x).bind λr=>Es C.num C.IE (nx s) f (Gj (Pt.EW (nx s) f p) r.1) r.2:=by simp[Es,h,FZ,FD]
   have b9:∃q,(Pt.EW (nx s) f p)[0]?=some q:=by simp[Pt.EW,h]
   have⟨q0,aV⟩:=b9;obtain⟨y,_,_,_,_,_,rfl,_,_⟩:=KK 0 q0 aV (JQ hl q0 (Ap aV)).2;rw[e];have⟨t0,t1,t2,_⟩:=(NZ.new w (.int .u8 117) (Z (Gl (nx s) p)) (EJ y (Pt.EW (nx s) f p).length vc)).facts;refine aea C.tid C.Vj C.er C.ptr hC.Zi w _ y _ vc (C.No (Es C.num C.IE (nx s) (f+1) p x=none)) _ (λj w'=>j<(Pt.EW (nx s) f p).length/\∃Q,C.num 0 (((Pt.EW (nx s) f p).length:Int)-1) x=some ((j:Int),Q)/\C.Lv O (c+1) Q (w.alloc (Gb 117 (Gl (nx s) p) (some (Y y 0)) (Pt.EW (nx s) f p).length vc)) w') h6 ((hC.number 0 _ (hC.go hs (u _)) U (Aj ⟨rfl,U⟩)).mono ?_) ?_
   ·rintro e w' (⟨rfl,hr,hb⟩|⟨i,rfl,Q,hx,b6⟩)
    ·exact Aj ⟨rfl,by rw[hE,hr];rfl,hb⟩
    ·have⟨b3,b4⟩:=hC.range hx;obtain⟨n,rfl⟩:∃n:Nat,i=n:=⟨i.toNat,U⟩;exact Am ⟨_,rfl,n,rfl,U,U,Q,hx,b6⟩
   ·rintro j w' ⟨hj,Q,hx,c',O',b1,ac,aa⟩;obtain⟨q,D⟩:∃q,(Pt.EW (nx s) f p)[j]?=some q:=⟨_,Ah hj⟩;have⟨bg,X,y1,ya,yn,yk,ad,g,B⟩:=KK j q D (JQ hl q (Ap D)).2;cases ad;have⟨f0,f1,f2⟩:=g w' (hC.DG ac);have ah:w.heap.size<(w.alloc (Gb 117 (Gl (nx s) p) (some (Y y 0)) (Pt.EW (nx s) f p).length vc)).heap.size:=Ev;refine⟨X,y1,ya,yn,yk,(aa.cell ah aN).trans t2,f0,f1,f2,(B w' c' Q O' ac U).mono ?_⟩;refine Wl ((Kept.of_below (u _)).trans aa) ?_ U;rw[hE,hx];simp[Gj,D]
theorem VI{C:GX σ}(hC:PS C)(s:Ab):∀f,QF C s f:=by
 intro f;induction f with
 |zero=>intro p S c0 c1 c2 h;exact h.elim
 |succ f ih=>exact dh hC ih
abbrev str(l:Ac):ByteArray:=⟨l.toArray⟩
theorem Er(l:Ac):(str l).size=l.length:=by simp[ByteArray.size]
theorem Ho(l:Ac)(a b:Nat):(str l).extract a b=str ((l.drop a).take (b-a)):=by
 exact wO
theorem UG(w:Aa)(l:Ac)(M:Array Value)(e:M.size=l.length):
  (Builtin.copy_ #[199,9] 3 #[EJ w.heap.size l.length l.length,.string (str l)]).run prog (w.alloc (.cells M 5))=.ok (goInt l.length) ((w.alloc (.cells M 5)).setRow w.heap.size (Ku l).toArray):=by
 have h:=Lib.run_copy_row_string (P:=prog) (w.alloc (.cells M 5)) 199 9 3 5 w.heap.size 0 l.length l.length (str l) M 5 underlying199 EL (AF w _) (by rw[Er];exact Ar _) (by rw[Er];omega);exact abQ
theorem Tv(w:Aa)(M:Array Value)(e:Array Value)(n:Nat):DY w (((w.alloc (.cells M 5)).setRow w.heap.size e).freeze (EN w 0) n):=by
 exact afU
theorem UH(w:Aa)(l:Ac)(M:Array Value)(e:l≠[])(hl:l.length<=1000):
  (Builtin.unsafeString_ #[338,3] 9 #[.pointer (some (EN w 0)),Z l.length]).run prog ((w.alloc (.cells M 5)).setRow w.heap.size (Ku l).toArray)=.ok (.string (str l)) (((w.alloc (.cells M 5)).setRow w.heap.size (Ku l).toArray).freeze (EN w 0) l.length):=by
 have g:=setRow_heap (w.alloc (.cells M 5)) w.heap.size M (Ku l).toArray 5 (0,0) (AF w _);have h:(Ku l).toArray.size=l.length:=by simp[Ku]
 refine Lib.run_unsafeString_row (P:=prog) _ 338 3 9 5 underlying338 EL w.heap.size l.length ?_ l e (Ar _) U λj x m=>?_
 ·grind [World.shape?]
 ·refine Lib.cells_of_row g l.length j _ ?_
  grind [Ku]
theorem QN(l:Ac)(w:Aa)(hl:l.length<=1000):D7 229 #[.string (str l)] w (.string (str l)) λw'=>DY w w':=by
 have hsz:=Er l;by_cases h0:l=[]
 ·exact acD
 ·have⟨i0,hi,hz0,hz1,hz2⟩:=A1 info5;have e:=Cg.2 h0;obtain⟨M,hM⟩:∃M,M=madeCells (Value.int .u8 0).cells (l.length*1):=⟨_,rfl⟩;have hMs:M.size=l.length:=by rw[hM,Dg];omega
  have g:∀W:World,(Instr.makeSlice 199 (Z (l.length:Int)) (Z (l.length:Int))).run prog W=.ok (EJ W.heap.size l.length l.length) (W.alloc (.cells M 5)):=λW=>by
   exact afR
  exact afw
theorem Kr(l:Ac)(w:Aa)(hl:l.length<=1000):D7 184 #[.string (str l)] w (.string (str l)) λw'=>DY w w':=by
 have H:=Dx (QN l w hl);generalize hS:str l=S at *;clear hS;exact acd
def Rd(w:Aa)(b:Nat)(l:Ac)(O:Ad):Prop:=w.heap[b]?=some (.cells #[.string (str l),Z 6,O] 310 (0,0))
theorem Rd.left(h:Rd w b l O):w.cell? (Y b 0)=some (.string (str l)):=by grind [Rd,World.cell?]
theorem Rd.WC(h:Rd w b l O):w.cell? (Y b 1)=some (Z 6):=by grind [Rd,World.cell?]
theorem Rd.Gz(h:Rd w b l O):w.cell? (Y b 2)=some O:=by
 unfold Rd at h;simp[World.cell?,h]
theorem Rd.thaw(h:Rd w b l O)(o:Nat):w.frozen? (Y b o)=false:=by grind [Rd,World.frozen?]
theorem Rd.lt(h:Rd w b l O):b<w.heap.size:=Dv h
theorem Rd.set0(h:Rd w b l O)(l':Ac):Rd (w.setCell (Y b 0) (.string (str l'))) b l' O:=by grind [Rd,World.setCell]
theorem Rd.set1(h:Rd w b l O)(x:Ad):Rd (w.setCell (Y b 2) x) b l x:=by
 unfold Rd at h ⊢;exact xw
theorem Rd.DG(h:Rd w b l O)(e:DY w w'):Rd w' b l O:=by
 have hl:=h.lt;unfold Rd at h ⊢;rw[e.block b hl];exact h
theorem RQ(g:EB w b 1 (Z 6)):ET 120 #[.pointer (some (Y b 0))] w λe w'=>e=EQ 6 0/\w'=w:=by
 go_enter func120,ntmps120;go_wp2;exact⟨rfl,rfl,rfl⟩
theorem JR(b:Nat)(l:Ac)(O:Ad)(w:Aa)(h:Rd w b l O):ET 120 #[.pointer (some (Y b 0))] w λe w'=>e=EQ 6 0/\w'=w:=RQ h.WC
theorem ME(b:Nat)(l:Ac)(O:Ad)(n:Nat)(w:Aa)(h:Rd w b l O)(hn:n<=l.length)(hl:l.length<=1000):
  D7 190 #[.pointer (some (Y b 0)),Z n] w (.string (str (l.take n))) λw'=>w'=w.setCell (Y b 0) (.string (str (l.drop n))):=by
 have e:=h.left;have g:=h.thaw 0;have hsz:=Er l;have e1:(str l).extract 0 n=str (l.take n):=by rw[Ho];simp
 have e2:(str l).extract n (str l).size=str (l.drop n):=by
  exact wI
 generalize hS:str l=S at *;generalize hA:str (l.take n)=A at *;generalize hB:str (l.drop n)=B at *;clear hS hA hB h;exact adR
abbrev WSt:=List It×List UInt8
def QC(lo hi:Int)(x:WSt):Option (Int×WSt):=match x.1 with
 |[]=>none
 |i :: r=>if i.2.size=0/\lo<=i.1/\i.1<=hi then some (i.1,(r,x.2++EU i.1)) else none
def Rq(x:WSt):Option WSt:=match x.1 with
 |[]=>none
 |i :: r=>if i.1=0/\i.2.size<=14 then some (r,x.2++KL true i) else none
def O9(w0:Aa)(Ov:Ad):Nat->Prop:=λk=>k=w0.heap.size\/Ov.ownBlock=some k
def Im(w0:Aa):GX WSt where
 tid:=203
 Vj:=281
 rW:=282
 er:=4
 ptr:=(EN w0 0)
 w0:=w0
 St:=λw c x O=>∃L Ov,WS w0 w L x.1 Ov x.2/\O=O9 w0 Ov/\x.1.length<=9000000000000/\x.2.length<=17*c
 num:=QC
 IE:=Rq
theorem Wk.kept{O':Ad}(h:Wk w0.heap.size O O' w w'):Kept (O9 w0 O) (O9 w0 O') w w':=by grind [Wk,Kept,O9]
theorem Xd{x:It}(h:x.2.size<=14):(KL true x).length<=17:=jA true x (λ_=>h)
theorem U8(w0:Aa):PS (Im w0) where
 DG:=by
  rintro w c x O ⟨L,m,h,_⟩;exact h.DG
 fresh:=by
  rintro w c x O ⟨L,m,h,rfl,_⟩ k (rfl|hk)
  ·exact⟨Ar _,h.wr.lt⟩
  ·have:=h.row hk;exact⟨by simp only[Im];omega,this.2⟩
 go:=by
  rintro w c x O w' ⟨L,m,h,r⟩ j;exact⟨L,m,h.go j,r⟩
 range:=by
  rintro lo hi ⟨v,out⟩ n D h;simp only[Im,QC]at h;cases v with
  |nil=>cases h
  |cons i r=>
   simp only at h;split at h
   ·rename_i hc;cases h;exact⟨hc.2.1,hc.2.2⟩
   ·cases h
 Zi:=⟨λ_=>by kernel_rfl,λ_ _=>rfl⟩
 adj:=⟨λ_=>by kernel_rfl,λ_ _=>rfl⟩
 number:=by
  rintro w c ⟨v,out⟩ O lo hi ⟨L,m,h,rfl,hn,X⟩ hc _;simp only at h hn X;cases v with
  |nil=>
   refine cm (Zs h) λw' j=>?_
   exact Aj ⟨rfl,rfl,j⟩
  |cons x v=>
   simp only[A4]at hn;by_cases g:x.2.size=0/\lo<=x.1/\x.1<=hi
   ·refine cm (mK h U (toList_nil.2 g.1) U U U) ?_;rintro w' ⟨T,O',B,y⟩;refine Am ⟨x.1,rfl,(v,out++EU x.1),by simp[Im,QC,g],c+1,O9 w0 O',Ar _,⟨T,O',B,rfl,by simp only;omega,?_⟩,y.kept⟩;simp only[AJ,EU,A4,List.length_nil];omega
   ·have u:(Im w0).num lo hi (x :: v,out)=none:=by simp only[Im,QC];rw[Ao g]
    have fin:∀e w',e=EQ 4 0/\DY w0 w'->xY (Im w0).er ((Im w0).No ((Im w0).num lo hi (x :: v,out)=none)) (λi w'=>∃D,(Im w0).num lo hi (x :: v,out)=some (i,D)/\(Im w0).Lv (O9 w0 m) (c+1) D w w') e w':=by
     rintro e w' ⟨rfl,j⟩;exact Aj ⟨rfl,u,j⟩
    by_cases Q:x.2.toList=[]
    ·have:=toList_nil.1 Q;by_cases hl:x.1<lo
     ·exact(Zp h U Q hl).mono fin
     ·exact(Zr h U Q hl U).mono fin
    ·exact(Zo h U Q).mono fin
 text:=by
  rintro w c ⟨v,out⟩ O ⟨L,m,h,rfl,hn,X⟩ hc;simp only at h hn X;cases v with
  |nil=>
   refine cm (o8 h) λw' j=>?_
   exact Aj ⟨rfl,rfl,j⟩
  |cons x v=>
   simp only[A4]at hn;by_cases g:x.1=0/\x.2.size<=14
   ·refine cm (aav h U g.1 g.2 U) ?_;rintro w' ⟨T,O',B,y⟩;refine Am ⟨rfl,(v,out++KL true x),by simp[Im,Rq,g],c+1,O9 w0 O',Ar _,⟨T,O',B,rfl,by simp only;omega,?_⟩,y.kept⟩;have:=Xd g.2;simp only[AJ];omega
   ·have u:(Im w0).IE (x :: v,out)=none:=by simp only[Im,Rq];rw[Ao g]
    have fin:∀e w',e=EQ 4 0/\DY w0 w'->SE (Im w0).er ((Im w0).No ((Im w0).IE (x :: v,out)=none)) (λw'=>∃D,(Im w0).IE (x :: v,out)=some D/\(Im w0).Lv (O9 w0 m) (c+1) D w w') e w':=by
     rintro e w' ⟨rfl,j⟩;exact Aj ⟨rfl,u,j⟩
    by_cases hN:x.1=0
    ·exact(o7 h U (by simp[hN]) U).mono fin
    ·exact(oZ h U (by simpa using hN)).mono fin
theorem LM:∀(k1 k2:List Bool) (v:List It),k1.length<=v.length->Et (k1++k2) v=Et k1 v++Et k2 (v.drop k1.length):=by
 intro k1;induction k1 with
 |nil=>intro k2 v _;simp[Et]
 |cons a k1 ih=>
  intro k2 v h;cases v with
  |nil=>simp at h
  |cons x v=>grind [Et]
def Ss(v:List It)(out:Ac)(e:GB):Option WSt:=e.map λa=>(a.2,out++Et a.1 v)
theorem Rp{r:List It}{out:Ac}(g:r=v.drop k0.length)(hk:k0.length<=v.length)(e:GB):Ss v out (Gu k0 e)=Ss r (out++Et k0 v) e:=by
 cases e with
 |none=>rfl
 |some a=>grind [Gu,Ss,LM]
theorem ay{F:Nat->WSt->Option WSt}:∀(qs:List Nat),(∀q∈qs,Mk (E q))->(∀q∈qs,∀v out,F q (v,out)=Ss v out (E q v))->∀v out,Gt F qs (v,out)=Ss v out (E6 E qs v):=by
 intro qs;induction qs with
 |nil=>intro _ _ v out;simp[Gt,E6,Ss,Et]
 |cons q qs ih=>
  intro g e v out;simp only[Gt,E6];rw[e q Ev v out]
  grind [Mk,Ss,Rp]
theorem lC(g:Nat->Nat):∀f p v out,Es QC Rq g f p (v,out)=Ss v out (Hg g f p v):=by
 intro f;induction f with
 |zero=>intro p v out;rfl
 |succ f ih=>
  intro p v out;have y:=λqs=>ay (E:=Hg g f) (F:=Es QC Rq g f) qs (λq _=>Hs g f q) (λq _=>ih q)
  by_cases h:g p=97
  ·have e:EO g f p v=some ([],List.replicate (g (p+1)-48) (p+2),v):=by simp[EO,h]
   rw[H9 e,KU,<-y];simp[Es,h]
  by_cases m:g p=114
  ·have e:EO g f p v=some ([],Pt.EW g f p,v):=by simp[EO,m]
   rw[H9 e,KU,<-y];simp[Es,m]
  cases v with
  |nil=>grind [EO,La,Es,Rq,QC,Ss]
  |cons x v=>
   by_cases u:g p=115
   ·by_cases hc:x.1=0/\x.2.size<=14
    ·have e:EO g f p (x :: v)=some ([true],[],v):=by simp[EO,u,hc]
     rw[H9 e]
     grind [Es,Rq,E6,Gu,Ss,Et]
    grind [EO,La,Es,Rq,Ss]
   ·by_cases hc:x.2.size=0/\FZ (g p)<=x.1/\x.1<=FD g f p
    ·have hn:QC (FZ (g p)) (FD g f p) (x :: v,out)=some (x.1,(v,out++EU x.1)):=by simp[QC,hc]
     have B:out++EU x.1=out++Et [false] (x :: v):=by simp[Et,KL]
     have j:Es QC Rq g (f+1) p (x :: v,out)=if g p=117 then Es QC Rq g f (Gj (Pt.EW g f p) x.1) (v,out++EU x.1) else if g p=113 then Gt (Es QC Rq g f) (List.replicate x.1.toNat (p+2)) (v,out++EU x.1) else some (v,out++EU x.1):=by grind [Es]
     have e:EO g f p (x :: v)=some ([false],(if g p=117 then [Gj (Pt.EW g f p) x.1] else if g p=113 then List.replicate x.1.toNat (p+2) else []),v):=by simp[EO,h,m,u,hc]
     rw[H9 e,Rp (k0:=[false]) (v:=x :: v) (r:=v) rfl Ev,<-B,j];exact abm
    exact abm
def IK(ks:List Bool)(v:List It):Prop:=∀(i:Nat) (k:Bool) (x:It),ks[i]?=some k->v[i]?=some x->(k=true->x.2.size<=14)/\(k=false->-32768<=x.1/\x.1<=65535)
theorem Ud{k1 k2:List Bool}{r:List It}(h:r=v.drop k1.length)(e:IK k1 v)(g:IK k2 r):IK (k1++k2) v:=by grind [IK]
def WJ(E:List It->GB)(M:Nat):Prop:=∀v ks r,E v=some (ks,r)->ks.length<=M/\IK ks v
theorem oG:∀qs:List Nat,(∀q∈qs,Mk (E q))->(∀q∈qs,WJ (E q) M)->WJ (E6 E qs) (qs.length*M):=by
 intro qs;induction qs with
 |nil=>intro _ _ v u r h;simp[E6]at h;obtain⟨rfl,rfl⟩:=h;exact⟨Ev,λi k x hk=>by simp at hk⟩
 |cons a qs ih=>
  intro j m v u r h;simp only[E6]at h;cases ha:E a v with
  |none=>rw[ha]at h;cases h
  |some e=>
   have⟨k,g⟩:=e;rw[ha]at h;simp only at h;have⟨y,B⟩:=j a Ev v k g ha;have⟨s1,s2⟩:=m a Ev v k g ha;cases hs:E6 E qs g with
   |none=>rw[hs]at h;cases h
   |some e'=>grind [WJ,Gu,Ud,Nat.add_mul]
theorem aeN(h:N4 s (f+1) p):FD (nx s) f p<=65535:=by
 have j:=Jj (nx s) f p;rcases J2 h with (h|h|h|h)|⟨h,_,e,FU⟩|⟨h,_,e,FU,g⟩|⟨h,_,e,FU,g⟩|hl
 ·simp[FD,h]
 ·simp[FD,h]
 ·simp[FD,h]
 ·simp[FD,h];omega
 ·simp[FD,h];omega
 ·simp[FD,h];omega
 ·simp[FD,h];omega
 ·rcases hl.here with h|h;all_goals grind [FD]
theorem aeT(c:Nat):-32768<=FZ c/\FZ c<=0:=by grind [FZ]
theorem dV(h:N4 s (f+1) p){r:List It}(e:EO (nx s) f p v=some (k0,qs,r)):
  k0.length<=1/\IK k0 v/\k0.length+qs.length<=10/\∀q∈qs,q∈Pt.EW (nx s) f p/\N4 s f q:=by
 have T:=aeN h;have X:=aeT (nx s p);have h6:=Jj (nx s) f p;have u:IK [] v:=λi k x hk=>by simp at hk
 unfold EO at e;split at e
 ·rename_i Q;cases e;rcases J2 h with (h|h|h|h)|⟨h,_,g,FU⟩|⟨h,_,g,FU,m⟩|⟨h,_,g,FU,m⟩|hl;all_goals grind [Pt.EW,WH]
 ·rename_i Q;split at e
  ·rename_i D;cases e;have hl:WH s f p:=⟨Aj D,h⟩;exact⟨Ev,u,Fy,λq j=>⟨j,(JQ hl q j).2⟩⟩
  ·rename_i D;cases v with
   |nil=>cases e
   |cons x v=>
    simp only at e;split at e
    ·split at e
     ·rename_i hc;cases e;refine⟨Ev,?_,Ev,λq j=>by simp at j⟩;intro i k y hk hy;all_goals grind
     ·cases e
    ·rename_i hs;split at e
     ·rename_i hc;cases e;refine⟨Ev,?_,?_,?_⟩
      ·intro i k y hk hy;all_goals grind
      ·split
       ·simp
       ·split
        ·rename_i j;have:FD (nx s) f p<=9:=by
          rcases J2 h with (h|h|h|h)|⟨h,_,g,FU⟩|⟨h,_,g,FU,m⟩|⟨h,_,g,FU,m⟩|hl
          ·omega
          ·omega
          ·omega
          ·omega
          ·omega
          ·omega
          ·simp[FD,h];omega
          ·have:=hl.here;omega
         simp;omega
        ·simp
      ·split
       ·rename_i hu;have hl:WH s f p:=⟨Am hu,h⟩;intro q j;simp at j;subst j;have ab:0<=x.1:=by all_goals grind [FZ]
        have ac:x.1<=((Pt.EW (nx s) f p).length:Int)-1:=by all_goals grind [FD]
        have aa:x.1.toNat<(Pt.EW (nx s) f p).length:=U;have B:Gj (Pt.EW (nx s) f p) x.1∈Pt.EW (nx s) f p:=by all_goals grind [Gj]
        exact⟨B,(JQ hl _ B).2⟩
       ·split;all_goals grind [Pt.EW,J2,WH]
     ·cases e
theorem QO(s:Ab):∀f p,N4 s f p->WJ (Hg (nx s) f p) (10 ^ Pt.Lj (nx s) f p):=by
 intro f;induction f with
 |zero=>intro p _ v g r h;cases h
 |succ f ih=>
  intro p X v g r h;obtain⟨T,j⟩:∃T,T=Pt.top ((Pt.EW (nx s) f p).map (Pt.Lj (nx s) f)):=⟨_,rfl⟩;have B:10 ^ Pt.Lj (nx s) (f+1) p=10*10 ^ T:=by rw[Pt.Lj,<-j,Nat.pow_succ,BZ]
  have m:1<=10 ^ T:=Nat.one_le_pow _ _ Em;rw[B];cases hh:EO (nx s) f p v with
  |none=>rw[La hh]at h;cases h
  |some a=>
   have⟨k0,qs,u⟩:=a;rw[H9 hh]at h;have⟨y,h2⟩:=Qe hh;have⟨g1,g2,g3,g4⟩:=dV X hh;cases hs:E6 (Hg (nx s) f) qs u with
   |none=>rw[hs]at h;cases h
   |some e'=>
    have⟨k',r2⟩:=e';rw[hs]at h;simp only[Gu,Option.some.injEq,Prod.mk.injEq]at h;obtain⟨rfl,rfl⟩:=h;have⟨s1,s2⟩:=oG (M:=10 ^ T) qs (λq _=>Hs _ f q) (λq hq v g r D=>by
     have⟨Q,e⟩:=g4 q hq;have⟨t1,t2⟩:=ih q e v g r D;refine⟨Br t1 (CS Em ?_),t2⟩;rw[j];exact le_top (Cy.2 ⟨q,Q,rfl⟩)) u k' r2 hs
    refine⟨?_,Ud y g2 s2⟩;generalize 10 ^ T=M at *;rw[AJ];have e1:=BL M g3
    grind
end Go.Proofs.YtblomippkddgiaaGreatDoor.V
