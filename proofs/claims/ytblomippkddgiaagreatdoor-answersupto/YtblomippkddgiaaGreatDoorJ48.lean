import Derived.Test.YtblomippkddgiaaGreatDoorJ47
set_option maxRecDepth 100000
set_option maxHeartbeats 4000000
namespace Go.Proofs.YtblomippkddgiaaGreatDoor
open Go.Proofs.Tryz
open Go.RowKit
variable {v:List V.It}{A b c cc i n:Nat}{o:LD}{t:Tw}{K lv:Value}{w w0 wr:World}
theorem mF(c:Int)(n:Nat)(hc:Ya c)(hn:0<n)(u:n<=1000000000001):∃k:Nat,k<n/\∀w,D7 55 #[Z c,Z n] w (Z k) λy=>y=w:=by
 have⟨B,D⟩:=hc;have f:¬(n:Int)=0:=U;by_cases m:c<0
 ·have h:=Int.emod_nonneg (-(c+1)) f;have j:=Int.emod_lt_of_pos (-(c+1)) (show (0:Int)<n by omega);refine⟨((-(c+1)) % n).toNat,U,λw=>?_⟩;have e:(-(c+1)).tmod n=(((-(c+1)) % n).toNat:Int):=by rw[Ca U];omega
  rw[Int.neg_tmod]at e;have g:=Dx e;clear e h j;go_enter func55,ntmps55;go_wp2
  go_ret
  rw[Dw g];exact⟨rfl,rfl⟩
 ·have h:=Int.emod_nonneg c f;have j:=Int.emod_lt_of_pos c (show (0:Int)<n by omega);obtain⟨k,hk⟩:∃k:Nat,c % n=(k:Int):=⟨(c % n).toNat,U⟩;refine⟨k,U,λw=>?_⟩;have g:=Dx hk;clear hk h j;go_enter func55,ntmps55;go_wp2
  go_ret
  rw[Dw g];exact⟨rfl,rfl⟩
theorem fy(hk:o.Dz=7)(y B:World->Prop)(u:Hid (∀g,w.alloc (.cells o.cells 72)=g->D7 52 #[ptr b,fI o.W] g (.bool true) λf=>y f))
  (Q:Hid (∀f,y f->b<f.heap.size/\D7 56 #[.pointer (some (Y b 1))] f (.bool true) λm=>B m)):
  D7 26 #[ptr b,o.val] w (.bool true) λf=>B f:=by
 obtain⟨g,e⟩:∃g,w.alloc (.cells o.cells 72)=g:=⟨_,rfl⟩;have⟨M,j⟩:=FU (u g e) e;have k0:o.Dz<7↔False:=by rw[hk];decide
 have X:decide (o.Dz<7)=false:=by rw[hk];rfl
 have k7:(o.Dz==7)=true:=by rw[hk];rfl
 clear e u hk;go_enter func26,ntmps26;go_wp2_with fail
 rw[Dw j];refine cm M λw2 D=>?_
 have⟨lb,h⟩:=Q _ D;have O:=Dx h;clear D h;go_wp2_with fail
 refine cm O λw3 h=>?_
 have T:=Dx h;clear h;go_wp2;go_returns;exact⟨rfl,T⟩
theorem mR(hk:7<o.Dz){a:Af}(h:EB w b 0 (.slice a 0 cc))(u:World->Prop)
  (m:Hid (∀f,w.alloc (.cells o.cells 72)=f->D7 56 #[.pointer (some (Y b 1))] f (.bool true) λj=>u j)):
  D7 26 #[ptr b,o.val] w (.bool true) λO=>u O:=by
 obtain⟨f,e⟩:∃f,w.alloc (.cells o.cells 72)=f:=⟨_,rfl⟩;have⟨B,g⟩:=FU (m f e) e;have lb:=Gv h;have M:decide (o.Dz<7)=false:=Fy;have Q:(o.Dz==7)=false:=Fy;clear e m hk;go_enter func26,ntmps26;go_wp2_with fail
 rw[Dw g];refine cm B λT y=>?_
 have D:=Dx y;clear y;go_wp2;go_returns;exact⟨rfl,D⟩
theorem fA(hk:7<o.Dz){g:Nat}(hi:i<n)(M:w.cell? (Y b 0)=some (EJ g n cc))(O:w.cell? (Y g (i*2))=some (ptr t.p.x))(aa:w.cell? (Y g (i*2+1))=some (Ey t.x))(hn:n<=1000000000001)
  (HP:Hid (∀w,ET 55 #[Z o.on,Z n] w λe f=>e=.returned (Z i)/\f=w)) (Q1 Q2:World->Prop)
  (H1:Hid (∀m,w.alloc (.cells o.cells 72)=m->ET 54 #[ptr b,t.val,o.val] m.drew λe f=>e=.returned (.bool true)/\Q1 f))
  (H2:Hid (∀f,Q1 f->b<f.heap.size/\ET 56 #[.pointer (some (Y b 1))] f λe ae=>e=.returned (.bool true)/\Q2 ae)):
  ET 26 #[ptr b,o.val] w λe f=>e=.returned (.bool true)/\Q2 f:=by
 obtain⟨m,y⟩:∃m,w.alloc (.cells o.cells 72)=m:=⟨_,rfl⟩;have G1:=Dx ((Dw H1) m y);have ac:=Dx y;have lb:=lt_of_cell M;have lg:=lt_of_cell O;have av:decide (o.Dz<7)=false:=Fy;have k7:(o.Dz==7)=false:=Fy;obtain⟨n0,i0,i1⟩:(0:Int)<n/\(0:Int)<=i/\(i:Int)<n:=U;have B:m.heap[w.heap.size]?=some (.cells o.cells 72 (0,0)):=by
  rw[<-y];exact AF w _
 have f0:=ED B 0 _ rfl;have D:Below w.heap.size w m:=by
  rw[<-y];exact(AA _ _).alloc (Ar _) _
 have x0:=(D.cell (p:=Y b 0) lb).trans M;have lx:=lt_of_cell x0;have lw:=Dv B;have HT:Hid (m.drew.cell? (Y b 0)=some (EJ g n cc)/\m.drew.cell? (Y w.heap.size 1)=some (Z o.on)/\m.drew.rangeAt g (i*2) (Vv t)/\m.drew.rangeAt w.heap.size 0 o.cells.toList):=by
  refine⟨x0,ED B 1 _ rfl,λj u X=>?_,λj u X=>?_⟩
  ·have ad:j=0\/j=1:=by
    have:=(Bi.1 X).1;simp[Vv]at this;omega
   rcases ad with rfl|rfl
   ·cases X;exact(D.cell (p:=(Y g (i*2))) lg).trans O
   ·cases X;exact(D.cell (p:=(Y g (i*2+1))) lg).trans aa
  ·rw[Cr];exact ED B j u (by simpa using X)
 clear y H1 hk B D M O aa;go_enter func26,ntmps26
 go_upto_region 1 with fail
 rw[Dw ac]
 go_upto_region 7 with fail
 refine WK.begin (S:=λ_=>True) (T:=λf=>f.cell? (Y b 0)=some (EJ g n cc)/\f.cell? (Y w.heap.size 1)=some (Z o.on)/\f.rangeAt g (i*2) (Vv t)/\f.rangeAt w.heap.size 0 o.cells.toList) (k:=16) EL BR ?_ ?_
 ·exact Dw HT
 refine WK.take (i:=0) (v:=?_) rfl EL EL EL rfl (λ_ _ _ h=>h) (Aj ⟨Ky,?_⟩) ?_;rotate_left
 ·intro w _;go_simp;try with_reducible rfl
 try simp only[Act.put,Al,Av,Ax,Az,Aq]
 refine WK.take (i:=1) (v:=?_) rfl EL EL EL rfl (λ_ _ _ h=>h) (Aj ⟨Ky,?_⟩) ?_;rotate_left
 ·intro w _;go_simp;try with_reducible rfl
 try simp only[Act.put,Al,Av,Ax,Az,Aq,Au]
 refine WK.take (i:=2) (v:=?_) rfl EL EL EL rfl (λ_ _ _ h=>h) (Aj ⟨Ky,?_⟩) ?_;rotate_left
 ·intro w _;go_simp;try with_reducible rfl
 try simp only[Act.put,Al,Av,Ax,Az,Aq,Au]
 refine WK.take (i:=3) (v:=?_) rfl EL EL EL rfl (λ_ _ _ h=>h) (Aj ⟨Ky,?_⟩) ?_;rotate_left
 ·intro w _;go_simp;try with_reducible rfl
 try simp only[Act.put,Al,Av,Ax,Az,Aq,Au]
 refine WK.take2 (i:=4) (v:=?_) rfl EL EL EL rfl (Hr.more (Hr.of (k:=16) (i:=14) EL) (Hr.more (Hr.of (k:=14) (i:=13) EL) (Hr.of (k:=13) (i:=4) EL))) (λ_ _ _ h=>h) (Aj ⟨Ky,?_⟩) ?_;rotate_left
 ·exact wP
 try simp only[Act.put,Al,Av,Ax,Az,Aq,Au]
 refine WK.take (i:=5) (v:=?_) rfl EL EL EL rfl (λ_ _ _ h=>h) (Aj ⟨Ky,?_⟩) ?_;rotate_left
 ·intro w _;go_simp;try with_reducible rfl
 try simp only[Act.put,Al,Av,Ax,Az,Aq,Au]
 refine WK.take2 (i:=6) (v:=?_) rfl EL EL EL rfl (Hr.more (Hr.of (k:=16) (i:=14) EL) (Hr.more (Hr.of (k:=14) (i:=13) EL) (Hr.more (Hr.of (k:=13) (i:=12) EL) (Hr.of (k:=12) (i:=6) EL)))) (λ_ _ _ h=>h) (Aj ⟨Ky,?_⟩) ?_;rotate_left
 ·exact wP
 try simp only[Act.put,Al,Av,Ax,Az,Aq,Au]
 refine WK.take (i:=7) (v:=?_) rfl EL EL EL rfl (λ_ _ _ h=>h) (Aj ⟨Ky,?_⟩) ?_;rotate_left
 ·intro w _;go_simp;try with_reducible rfl
 try simp only[Act.put,Al,Av,Ax,Az,Aq,Au]
 refine WK.take (i:=8) (v:=?_) rfl EL EL EL rfl (λ_ _ _ h=>h) (Aj ⟨Ky,?_⟩) ?_;rotate_left
 ·intro w _;go_simp;try with_reducible rfl
 try simp only[Act.put,Al,Av,Ax,Az,Aq,Au]
 refine WK.take (i:=9) (v:=?_) rfl EL EL EL rfl (λ_ _ _ h=>h) (Aj ⟨Ky,?_⟩) ?_;rotate_left
 ·intro w _;go_simp;try with_reducible rfl
 try simp only[Act.put,Al,Av,Ax,Az,Aq,Au]
 refine WK.take2 (i:=10) (v:=?_) rfl EL EL EL rfl (Hr.more (Hr.of (k:=16) (i:=14) EL) (Hr.more (Hr.of (k:=14) (i:=13) EL) (Hr.more (Hr.of (k:=13) (i:=12) EL) (Hr.more (Hr.of (k:=12) (i:=11) EL) (Hr.of (k:=11) (i:=10) EL))))) (λ_ _ _ h=>h) (Aj ⟨Ky,?_⟩) ?_;rotate_left
 ·exact wP
 try simp only[Act.put,Al,Av,Ax,Az,Aq,Au]
 refine WK.take (i:=11) (v:=?_) rfl EL EL EL rfl (λ_ _ _ h=>h) (Aj ⟨Ky,?_⟩) ?_;rotate_left
 ·intro w _;go_simp;try with_reducible rfl
 try simp only[Act.put,Al,Av,Ax,Az,Aq,Au]
 refine WK.take2 (i:=15) rfl EL EL EL rfl (Hr.of (k:=16) (i:=15) EL) (λ_ _ _ h=>h) (yieldsIf_load_mid Ky 72 (.tmp 3) rfl w.heap.size 0 rfl o.cells.toList _ (λw h=>h.2.2.2.2) underlying72 rfl afc) ?_;try simp only[Act.put,Al,Av,Ax,Az,Aq,Au]
 refine WK.one (i:=12) EL rfl (λK Q=>?_);go_simp;refine((Dw HP) _).mono ?_;rintro e w5 ⟨rfl,ab⟩;rw[ab];clear ab;go_wp2_with fail
 refine Q.out _ _ BR (Dw HT) ?_;clear Q K;try simp only[Act.put,Al,Av,Ax,Az,Aq,Au]
 refine WK.take (i:=13) (v:=?_) rfl EL EL EL rfl (λ_ _ _ h=>h) (Aj ⟨Ky,?_⟩) ?_;rotate_left
 ·intro w _;go_simp;try with_reducible rfl
 try simp only[Act.put,Al,Av,Ax,Az,Aq,Au]
 refine WK.take2 (i:=14) rfl EL EL EL rfl (Hr.of (k:=16) (i:=14) EL) (λ_ _ _ h=>h) (yieldsIf_load_mid Ky 109 (.tmp 39) rfl g (i*2) rfl (Vv t) _ (λw h=>h.2.2.2.1) underlying109 rfl abf) ?_;try simp only[Act.put,Al,Av,Ax,Az,Aq,Au]
 refine WK.store EL rfl (λK Q=>?_);go_simp;refine(Dw G1).mono ?_;rintro e w6 ⟨rfl,h6⟩;have H6:=Dx h6;clear h6;go_wp2_with fail
 refine Q.out _ _ BR ?_;clear Q K;try simp only[Act.put,Al,Av,Ax,Az,Aq,Au]
 refine WK.take (i:=17) (v:=?_) rfl EL EL EL rfl (λ_ _ _ h=>h) (Aj ⟨Ky,?_⟩) ?_;rotate_left
 ·intro w _;go_simp;try with_reducible rfl
 try simp only[Act.put,Al,Av,Ax,Az,Aq,Au]
 refine WK.done EL ?_;have⟨aw,h7⟩:=(Dw H2) _ (Dw H6);have G2:=Dx h7;clear h7;go_wp2_with fail
 refine(Dw G2).mono ?_;rintro e w7 ⟨rfl,h8⟩;have H8:=Dx h8;clear h8;go_wp2;go_returns;exact⟨rfl,Dw H8⟩
theorem ZD{z:Nat->Option Obj}{N:Nat}{u:List Tw}{L:List V.Kp}(h:Hn w0 z b N u L lv K w)(o:LD)(y:acL o v (HF b u L lv K) w)(hk:7<=o.Dz/\o.Dz<=22)(ht:JI w0)(hN:N<=900000000000)(hL:L.length<=900000000000)(ao:u.length<=900000000000):
  D7 26 #[ptr b,o.val] w (.bool true) λm=>∃f Q j K',Hn w0 z b (N+1) f Q j K' m/\Q.length<=L.length+2/\f.length<=u.length+1/\∀t,u=[t]->7<o.Dz->∃t',f=[t']/\t'.G=KP t.G o v:=by
 have M:DY w (w.alloc (.cells o.cells 72)):=F9;have looks:∀{N':Nat} {f:List Tw} {Q:List V.Kp} {j K':Ad} {m:Aa},Hn w0 z b N' f Q j K' m->Q.length<=1000000000000->b<m.heap.size/\D7 56 #[.pointer (some (Y b 1))] m (.bool true) λO=>Hn w0 z b N' f Q j K' O:=λh' hl=>⟨Dv h'.bo.cell,(V.cK _ b _ _ _ h'.bo hl).mono (by
  rintro e O ⟨rfl,hb⟩;exact⟨rfl,h'.DG hb⟩)⟩
 by_cases h7:o.Dz=7
 ·refine(fy h7 (λm=>∃f j,Hn w0 z b (N+1) f L j K m/\f.length<=u.length+1) (λm=>∃f j,Hn w0 z b (N+1) f L j K m/\f.length<=u.length+1) (λW1 B=>?_) (λm hq=>?_)).mono ?_
  ·rw[<-B];refine cm (Nn ((h.DG M).more (Nat.le_succ N)) o.W U) ?_;rintro m ⟨f,j,h1,h2,_⟩;exact⟨rfl,f,j,h1,h2⟩
  ·have⟨f,j,h1,h2⟩:=hq;have⟨q1,q2⟩:=looks h1 U;refine⟨q1,q2.mono ?_⟩;rintro e O ⟨rfl,h3⟩;exact⟨rfl,f,j,h3,h2⟩
  grind
 ·cases hT:u with
  |nil=>
   have T:=h.row;rw[hT]at T;have⟨a,cc,X⟩:=E8 T;refine(mR U (ED h.bo.cell 0 _ (by rw[X];rfl)) (λm=>Hn w0 z b (N+1) u L lv K m) (λW1 B=>?_)).mono ?_
   ·rw[<-B];exact(looks ((h.DG M).more (Nat.le_succ N)) U).2
   grind
  |cons t0 Ts0=>
   rw[<-hT];have ab:0<u.length:=by rw[hT];simp
   have⟨i,hi,HP⟩:=mF o.on u.length y.on ab U;obtain⟨t,ac⟩:∃t,u[i]?=some t:=⟨_,Ah hi⟩;have⟨g,cap,X,aq,D,_⟩:=Jx kw U h.row ac;have e0:=D 0 _ U rfl;have e1:=D 1 _ U rfl;have aa:acL o v (HF b u L lv K) (w.alloc (.cells o.cells 72)).drew:=⟨y.s,y.Gz.DG M.drew,y.len,y.off,y.c,y.on⟩;refine(fA U hi (ED h.bo.cell 0 _ (by rw[X];rfl)) e0 e1 U HP (λm=>HnS w0 z b (N+1) u i L lv (KP t.G o v) m) (λm=>HnS w0 z b (N+1) u i L lv (KP t.G o v) m) (λW1 B=>?_) (λm hq=>?_)).mono ?_
   ·rw[<-B];exact bc (h.DG M.drew) ac o aa U ht U U
   ·have⟨t',Q,K',h1,h2,h3⟩:=hq;have⟨q1,q2⟩:=looks h1 U;refine⟨q1,q2.mono ?_⟩;rintro e O ⟨rfl,h4⟩;exact⟨rfl,t',Q,K',h4,h2,h3⟩
   grind [HnS]
def yb(k a c:Int)(s:Ac)(L:Ad):LD:=⟨k,0,a,0,c,0,s,[],L,⟨0,0,0,0,0,0,0,0,false,[]⟩,⟨0,0,0,0,0⟩⟩
def He(A:Nat):Nat->LD
 |0=>yb 8 0 0 [115,117,109] (.slice none 0 0)
 |1=>yb 8 1 0 [119,97,108,108] (.slice none 0 0)
 |2=>yb 10 0 0 [115,117,109] (.slice none 0 0)
 |3=>yb 10 1 0 [115,117,109] (.slice none 0 0)
 |4=>yb 10 1 0 [119,97,108,108] (.slice none 0 0)
 |_=>yb 11 0 1 [] (.slice (some ⟨A,0,none⟩) 1 1)
def QR(i:Nat):List V.It:=if i=5 then [(5,⟨#[]⟩)] else []
def yC:R.Cf:=⟨2,2,3,2,2⟩
def dM:Nat->R.Wd
 |0=>J0 yC
 |i+1=>KP (dM i) (He 0 i) (QR i)
theorem YR:(dM 6).Ej.length=1:=Kx
theorem dO(A i:Nat)(G:R.Wd)(v:List R.It):KP G (He A i) v=KP G (He 0 i) v:=by
 unfold He;split<;>rfl
def Xx(o:LD):List Value:=o.cells.toList
def firstCells(A:Nat):List Value:=tab (λi=>Xx (He A i)) (List.range 6)
def zA(A:Nat)(k:Nat):Option Obj:=if k=A then some (.cells #[Z 5,.string ⟨#[]⟩] 106 (0,0)) else if k=A+1 then some (.cells (firstCells A).toArray 72 (0,0)) else none
theorem dN(h:w.heap[A+1]?=some (.cells (firstCells A).toArray 72 (0,0)))(hi:i<6):∀(j:Nat) (u:Ad),(He A i).cells[j]?=some u->w.cell? ⟨A+1,i*24+j,none⟩=some u:=λj u g=>by
 have e:=(AB.1 g).1;refine E7 h ?_;have:=Jh (f:=λi=>Xx (He A i)) (n:=24) (λ_=>rfl) (List.range 6) i j i (by simp[hi]) e;unfold firstCells;rw[this];simpa [Xx] using g
theorem VT{n:Int}(h:-1000<=n/\n<=1000):Ya n:=by unfold Ya;omega
theorem rU(hi:i<6):(7<(He A i).Dz/\(He A i).Dz<=18)/\(He A i).s.length<=1000/\Ya (He A i).c/\Ya (He A i).on:=by
 have:i=0\/i=1\/i=2\/i=3\/i=4\/i=5:=U;rcases this with rfl|rfl|rfl|rfl|rfl|rfl<;>exact⟨by simp[He,yb],by simp[He,yb],VT (by simp[He,yb]),VT (by simp[He,yb])⟩
theorem YS(f:w.heap[A]?=some (.cells #[Z 5,.string ⟨#[]⟩] 106 (0,0)))(hi:i<6):V.Ff w (He A i).L (QR i):=by
 have e:V.Ff w (.slice none 0 0) []:=⟨none,0,rfl,Ar _,Aj rfl⟩;have:i=0\/i=1\/i=2\/i=3\/i=4\/i=5:=U;rcases this with rfl|rfl|rfl|rfl|rfl|rfl
 ·exact e
 ·exact e
 ·exact e
 ·exact e
 ·exact e
 ·refine⟨some (Y A 0),1,rfl,Em,Am ⟨A,0,rfl,Dv f,λj x h=>?_⟩⟩;have g:j=0:=by grind [QR]
  subst g;obtain rfl:x=(5,⟨#[]⟩):=by simpa [QR] using h.symm
  exact⟨EI f 0,EI f 1⟩
theorem lS(hi:i<6){off:Nat}(h:(He A i).L=.slice (some (Y b off)) n c):b=A:=by
 have:i=0\/i=1\/i=2\/i=3\/i=4\/i=5:=U;rcases this with rfl|rfl|rfl|rfl|rfl|rfl
 ·cases h
 ·cases h
 ·cases h
 ·cases h
 ·cases h
 ·cases h;rfl
def Aw(w0:Aa)(b A i:Nat)(wr:Aa):Prop:=∃t L lv K,Hn w0 (zA A) b (i+1) [t] L lv K wr/\t.G=dM i/\L.length<=2*i
theorem Aw.begin{f W:Aa}(h:Hn w0 (λ_=>none) b 0 [t] [] lv K f)(j:t.G=J0 yC)(g:W=(f.alloc (.cells #[Z 5,.string ⟨#[]⟩] 106)).alloc (.cells (firstCells f.heap.size).toArray 72)):Aw w0 b f.heap.size 0 W:=by
 have u:(f.alloc (.cells #[Z 5,.string ⟨#[]⟩] 106)).heap.size=f.heap.size+1:=Ev;have m:DY f W:=by
  rw[g];exact F9.alloc U _
 refine⟨t,[],lv,K,((h.DG m).more (AV 1)).kh (λk o hz=>?_) (λk hk=>?_),j,Ar _⟩
 ·unfold zA at hz;split at hz
  ·rename_i e;cases hz;rw[e,g,AL _ _ _ U];exact AF f _
  ·split at hz
   ·rename_i e;cases hz;rw[e,g,<-u];exact AF _ _
   ·cases hz
 ·have:=h.lt k hk;unfold zA;rw[Ao U,Ao U]
theorem Aw.mem(h:Aw w0 b A i wr):wr.heap[A]?=some (.cells #[Z 5,.string ⟨#[]⟩] 106 (0,0))/\wr.heap[A+1]?=some (.cells (firstCells A).toArray 72 (0,0)):=by
 have⟨t,L,lv,K,h,_⟩:=h;exact⟨h.kept A _ (by unfold zA;rw[Ay rfl]),h.kept (A+1) _ (by unfold zA;rw[Ao U,Ay rfl])⟩
theorem Aw.adu(h:Aw w0 b A i wr)(hi:i<6)(T:JI w0):D7 26 #[ptr b,(He A i).val] wr (.bool true) λm=>Aw w0 b A (i+1) m:=by
 have⟨X,m2⟩:=h.mem;have⟨t,L,lv,K,h,Q,hL⟩:=h;obtain⟨o1,o2,o3,o4⟩:=rU hi;have hz:∀k,HF b [t] L lv K k->k≠A:=λk hk e=>by
  have:=h.aa0 k hk;unfold zA at this;rw[Ay e]at this;cases this
 refine(ZD h (He A i) (v:=QR i) ⟨U,YS X hi,by unfold QR;split<;>decide,λ_ D off n c q f=>hz D f (lS hi q),o3,o4⟩ ⟨U,U⟩ T U U Ev).mono ?_;rintro e m ⟨rfl,B,y,j,u,M,h2,_,O⟩;obtain⟨t',rfl,g⟩:=O t rfl o1.1;exact⟨rfl,t',y,j,u,M,by rw[g,Q,dO];rfl,U⟩
theorem Aw.over(h:Aw w0 b A 6 wr):∃t L lv K g cap,Hn w0 (λ_=>none) b 7 [t] L lv K wr/\L.length<=12/\EB wr b 0 (EJ g 1 cap)/\EB wr g 0 (ptr t.p.x)/\D7 17 #[ptr t.p.x] wr (Z 1) λB=>B=wr:=by
 have⟨t,L,lv,K,h,m,u⟩:=h;have⟨g,cap,j,y,e,_⟩:=Jx (i:=0) kw U h.row rfl;have e0:=e 0 _ U rfl;have f:=(h.tw t Ev).l.Ej;rw[m,YR]at f;refine⟨t,L,lv,K,g,cap,h.kh (λk o q=>by cases q) (λ_ _=>rfl),u,ED h.bo.cell 0 _ (by rw[j];rfl),by simpa using e0,f⟩
theorem kL(w0:Aa)(b:Nat)(w:Aa)(h:Hn w0 (λ_=>none) b 0 [] [] (.slice none 0 0) (.slice none 0 0) w)(ht:JI w0):
  D7 25 #[ptr b] w (.bool true) λD=>∃t L lv K,Hn w0 (λ_=>none) b 7 [t] L lv K D/\L.length<=12:=by
 have Q:Hid (D7 52 #[ptr b,.agg #[Z 2,Z 2,Z 3,Z 2,Z 2]] w (.bool true) λD=>∃t lv cc a,Hn w0 (λ_=>none) b 0 [t] [] lv (.slice none 0 0) D/\t.G=J0 yC/\lv=.slice a 1 cc):=by
  refine cm (Nn h yC Ev) ?_;rintro D ⟨aa,j,X,_,m⟩;obtain⟨t,rfl,B⟩:=m (by unfold R.GA;decide);have⟨a,cc,f⟩:=E8 X.row;exact⟨rfl,t,j,cc,a,X,B,f⟩
 have HT:=Dx ht;clear h ht;go_enter func25,ntmps25;go_wp2_with fail
 refine cm Q ?_;rintro y ⟨t,lv,cc,a,m,B,f⟩;subst f;have x0:=EI m.bo.cell 0;have lb:=Gv x0;have HA:=Dx (λW hW=>Aw.begin (W:=W) m B hW);clear m B Q;go_wp2_with fail
 go_loopw [3,5] (λok iv wr=>ok=.bool true/\∃i:Nat,i<=6/\iv=Z i/\Aw w0 b y.heap.size i wr) (λ_ iv _=>6-(intOf iv).toNat)
 case atStart=>exact⟨rfl,0,U,rfl,HA _ rfl⟩
 case round=>
  obtain⟨rfl,i,hi,rfl,e⟩:=hrel;by_cases u:i<6
  ·have HP:=Dx (e.adu u HT);have T:=dN e.mem.2 u;have la:=Dv e.mem.2;generalize He y.heap.size i=o at *;clear e x0;have FC:=Dx T;have i1:(i:Int)<6:=U;have i0:0<=(i:Int):=U;clear T
   go_upto_region 8 with fail
   refine Dh ?_;refine MF rfl (.tmp 0) rfl (ptr b) rfl ?_;refine MF rfl (.tmp 4) rfl (.slice (some ⟨y.heap.size+1,0,none⟩) 6 6) rfl ?_;refine MF rfl (.tmp 5) rfl (Z i) rfl ?_;simp only[Act.put,Al,Av,Ax];refine aZ rfl (.pointer (some ⟨y.heap.size+1,i*24,none⟩)) (by go_simp;try with_reducible rfl) ?_;simp only[Act.put,Al,Av,Ax];refine xS rfl (.tmp 41) rfl (y.heap.size+1) (i*24) rfl o FC ?_;exact afI
  ·obtain rfl:i=6:=U;have⟨t',L',j,K',g,cap,h4,hL,y0,y1,hF⟩:=e.over;have⟨lg,ac⟩:=KM y1 y0;have⟨M,O⟩:=FU hF (And.intro h4 hL);clear e h4 hF hL;go_wp2_with fail
   refine cs M ?_;go_wp2;go_returns;exact⟨rfl,t',L',j,K',O.1,O.2⟩
theorem sD{X:Ad}(h:V.Ff w X v)(f:v≠[]){off:Nat}(e:X=.slice (some (Y b off)) n c):b<w.heap.size:=by grind [V.Ff]
def Up(w0:Aa)(b i:Nat)(wr:Aa):Prop:=∃N Ts L lv K,Hn w0 (λ_=>none) b N Ts L lv K wr/\N<=i+7/\L.length<=2*i+14/\Ts.length<=i+7
theorem Up.next(h:Up w0 b i wr):Up w0 b (i+1) wr:=by grind [Up]
theorem Up.adu(h:Up w0 b i wr)(hi:i<=400000000000){u off:Nat}{v:List V.It}(e:qh w0 u off o v)(hk:7<=o.Dz/\o.Dz<=22)(j:JI w0):D7 26 #[ptr b,o.val] wr (.bool true) λy=>Up w0 b (i+1) y:=by
 have⟨N,B,L,lv,K,h,D,M,O⟩:=h;refine(ZD h o (v:=v) ⟨e.s,e.Gz.DG h.U9,e.len,λm g off n c q f=>?_,e.c,e.on⟩ hk j U U U).mono ?_
 ·have Q:=sD e.Gz m q;have T:=h.base g f;omega
 ·grind [Up]
theorem Up.DG(h:Up w0 b i wr):DY w0 wr:=by
 have⟨N,e,L,lv,K,h,_⟩:=h;exact h.U9
theorem xN(w:Aa):Hn w (λ_=>none) w.heap.size 0 [] [] (.slice none 0 0) (.slice none 0 0) (w.alloc (.cells #[.slice none 0 0,.slice none 0 0] 69)):=by
 refine⟨⟨AF w _,AZ _ _ _ _,λk hk=>(by cases hk)⟩,AZ _ _ _ _,λt e=>(by cases e),λi j t s hi=>(by simp at hi),λt e=>(by cases e),F9,λk hk=>?_,λk o q=>(by cases q),λ_ _=>rfl⟩;rcases hk with (q|q|⟨g,f,_⟩)|q|⟨t,e,_⟩
 ·omega
 ·cases q
 ·cases f
 ·cases q
 ·cases e
theorem xM(lo hi:Int)(M:7<=lo)(D:hi<=22)(va:Af)(g vc:Nat)(w:Aa)(hV:bK w va g)(aS:g<=400000000000)(ht:JI w):
  D7 8 #[.slice va g vc,Z lo,Z hi] w (.bool true) λw'=>DY w w':=by
 have m:=xN w;obtain⟨W1,h⟩:∃W1,w.alloc (.cells #[.slice none 0 0,.slice none 0 0] 69)=W1:=⟨_,rfl⟩;rw[h]at m;have⟨HA,ab,HT,HV,aa,X⟩:=hd6 (kL w w.heap.size W1 m ht) h ht hV M D;clear m h ht hV M D;go_enter func8,ntmps8;go_wp2_with fail
 rw[Dw ab];refine cm HA ?_;rintro w2 ⟨t,L,lv,K,h2,hL⟩;have HU:Hid (Up w w.heap.size 0 w2):=⟨7,[t],L,lv,K,h2,U,U,Ev⟩;clear h2 hL HA;go_wp2_with fail
 go_loopw [8,9] (λok iv wr=>ok=.bool true/\∃i:Nat,i<=g/\iv=Z i/\Up w w.heap.size i wr) (λ_ iv _=>g-(intOf iv).toNat)
 case atStart=>exact⟨rfl,0,U,rfl,HU⟩
 case round=>
  obtain⟨rfl,i,aN,rfl,e⟩:=hrel;by_cases ae:i<g
  ·rcases Dw HV with h0|⟨y,off,am,O,hS⟩
   ·omega
   ·subst am;have⟨o,v,Q⟩:=hS i ae;have f:=e.DG;have B:∀(j:Nat) (u:Ad),o.cells[j]?=some u->EB wr y (off+i*24+j) u:=λj u hj=>(f.cell (p:=Y y _) O).trans (Q.cell j u hj)
    have lv:=Ai O f.size;have HN:=Dx e.next;by_cases hk:lo<=o.Dz/\o.Dz<=hi
    ·have HP:=Dx (e.adu U Q ⟨Dj aa hk.1,Dj hk.2 (Dw X)⟩ HT);have k1:decide (lo<=o.Dz)=true:=by simp[hk.1]
     have k2:decide (o.Dz<=hi)=true:=by simp[hk.2]
     clear e Q f hS hk;have f0:EB wr y (off+i*24) (Z o.Dz):=B 0 _ rfl;have FC:=Dx B;have i1:(i:Int)<g:=U;have i0:0<=(i:Int):=U;clear B
     go_upto_region 7 with fail
     refine Dh ?_;refine MF rfl (.tmp 7) rfl (ptr w.heap.size) rfl ?_;refine MF rfl (.tmp 0) rfl (.slice (some (Y y off)) g vc) rfl ?_;refine MF rfl (.tmp 9) rfl (Z i) rfl ?_;simp only[Act.put,Al,Av,Ax];refine aZ rfl (.pointer (some (Y y (off+i*24)))) (by go_simp;try with_reducible rfl) ?_;simp only[Act.put,Al,Av,Ax];refine xS rfl (.tmp 42) rfl (y) (off+i*24) rfl o FC ?_;exact afI
    ·obtain⟨T,ah⟩:∃T,decide (lo<=o.Dz)=T:=⟨_,rfl⟩;obtain⟨q2,ak⟩:∃q2,decide (o.Dz<=hi)=q2:=⟨_,rfl⟩;have hq:T=false\/(T=true/\q2=false):=by
      rw[<-ah,<-ak];by_cases e1:lo<=o.Dz
      ·by_cases e2:o.Dz<=hi
       ·exact absurd ⟨e1,e2⟩ hk
       ·exact Am ⟨by simp[e1],by simp[e2]⟩
      ·exact Aj (by simp[e1])
     have f0:EB wr y (off+i*24) (Z o.Dz):=B 0 _ rfl;clear e Q f hS hk B;rcases hq with rfl|⟨rfl,rfl⟩;all_goals
      go_wp2_with fail
      go_roundw
      case rel=>exact⟨rfl,i+1,U,Kc,HN⟩
      case measure=>exact Kt
  ·have HB:=Dx e.DG;clear e;go_wp2;go_returns;exact⟨rfl,HB⟩
end Go.Proofs.YtblomippkddgiaaGreatDoor
namespace Go.Proofs.YtblomippkddgiaaGreatDoor.V
open Go.Proofs.Tryz
open Go.RowKit
open Go.ChangeShapes Go.WideShapes Go.ChangeAt
open Go.ChangeMaps (open_string shut_string)
theorem we:∃e f:Field,prog.underlying 106=some (.struct #[e,f])/\e.offset=0/\f.offset=1/\e.type=3/\f.type=9:=⟨_,_,underlying106,rfl,rfl,rfl,rfl⟩
theorem sF{H:Type}{enc:TypeId×Value->H}{W:Aa}{v:Ad}{d:DataW H}{p:List MemPlace}{a0:Af}{n0 c0:Nat}(T:v=.slice a0 n0 c0)(h:DataW.Trod enc prog W 0 (λ_=>true) true 44 v d p):
  (v=.slice none 0 0)\/∃(M:Addr) (cap:Nat) (l:List It) (u sp:List (DataW H)),v=.slice (some M) l.length cap/\Ff W v l/\d=.slice u sp/\u.length=l.length:=by
 subst T;have⟨fuel,h⟩:=h;simp only[Value.cells]at h;have⟨f0,f1,Q,o0,o1,B,D⟩:=we;rcases Deep.open_slice_pairs underlying44 Q EL o0 o1 (by rw[B];kernel_rfl) (by rw[D];kernel_rfl) h with ⟨h1,_⟩|⟨a,len,cap,m,n,V0,V1,D0,D1,P0,P1,h1,_,hl,hm,hmm,hx,hc⟩
 ·left;simpa using h1
 ·right;have w:Value.slice a0 n0 c0=.slice (some a) len cap:=by simpa using h1
  rw[Ay rfl]at hmm;have each:∀i,i<len->∃x:It,V0 i=Z x.1/\V1 i=.string x.2:=by
   intro i hi;have⟨_,_,g0,g1⟩:=hc i U;rw[B]at g0;rw[D]at g1;have⟨k,e0,_⟩:=DataW.trod_int underlying3 g0;have⟨S,e1,_⟩:=DataW.trod_string underlying9 g1;exact⟨(k,S),by simpa using e0,by simpa using e1⟩
  obtain⟨X,hX⟩:∃X:Nat->It,∀i,i<len->V0 i=Z (X i).1/\V1 i=.string (X i).2:=by
   refine⟨λi=>if h:i<len then Classical.choose (each i h) else (0,⟨#[]⟩),λi hi=>?_⟩
   grind
  have e:((List.range len).map X).length=len:=Ev;simp only[Prod.mk.injEq]at hx;refine⟨a,cap,(List.range len).map X,_,_,by rw[e];exact w,?_,hx.1,Ev⟩;rw[w];refine⟨some a,cap,by rw[e],by rw[e];exact hl,?_⟩;by_cases O:len=0
  ·left;rw[O];rfl
  ·right;have⟨g,_,_,_⟩:=hc 0 U;have f:a.spot=none:=by
    cases f:a.spot with
    |none=>rfl
    |some y=>grind [World.cell?,Addr.add]
   have⟨b,off,aa⟩:=a;simp only at f;subst f;refine⟨b,off,rfl,Gv (o:=off+0*2) (v:=V0 0) (by simpa [Addr.add] using g),λj x hj=>?_⟩
   grind [Addr.add]
theorem yA:prog.bytesOf 106=24:=EL
end Go.Proofs.YtblomippkddgiaaGreatDoor.V
namespace Go.Proofs.YtblomippkddgiaaGreatDoor
open Go.Proofs.Tryz
open Go.ChangeShapes Go.WideShapes Go.ChangeAt Go.WideMaps Go.WideElems Go.RowKit
variable {v:Value}
theorem acZ{k:Int}(e:(Lit.int .i64 k).wf=true):Ya k:=by
 unfold Ya;simp[Lit.wf]at e;have f:IntKind.i64.min=-9223372036854775808:=Em;rw[f]at e;exact e
theorem agm:prog.cellsOf 41=10:=EL
theorem agl:prog.cellsOf 26=5:=EL
theorem ae2:prog.cellsOf 72=24:=EL
theorem agk:prog.bytesOf 72=232:=EL
theorem acP{s:Ab}:s=str s.data.toList:=by
 apply CJ;simp
section
variable {H:Type} {enc:TypeId×Value->H} {W:Aa}
theorem KH{q:Nat}{y:DataW H×List MemPlace}(h:DataW.trod enc prog W 0 (λ_=>true) true q 3 [v]=some y):∃k,v=Z k/\Ya k:=by
 have⟨k,e,_,f⟩:=DataW.trod_int underlying3 h
 grind [acZ]
theorem vw{q:Nat}{y:DataW H×List MemPlace}(h:DataW.trod enc prog W 0 (λ_=>true) true q 9 [v]=some y):∃s:List UInt8,v=.string (str s)/\y.1=.lit (.string s):=by
 have⟨s,e,f,_⟩:=DataW.trod_string underlying9 h;refine⟨s.data.toList,?_,by rw[f]⟩;rw[<-acP];simpa using e
theorem adA{q:Nat}{y:DataW H×List MemPlace}(h:DataW.trod enc prog W 0 (λ_=>true) true q 4 [v]=some y):∃b,v=.bool b:=by
 have⟨b,e,_⟩:=DataW.trod_bool underlying4 h;exact⟨b,by simpa using e⟩
theorem agj{q:Nat}{cs:Ae}{y:DataW H×List MemPlace}(h:DataW.trod enc prog W 0 (λ_=>true) true q 41 cs=some y):∃P:Pk,cs=[Z P.Dz,Z P.DJ,Z P.DR,Z P.DZ,Z P.D4,Z P.D5,Z P.Ez,Z P.off,.bool P.Fs,.string (str P.Ef)]:=by
 have⟨D,n,_,_,hl,f,e⟩:=DataW.trod_struct underlying41 h;rw[agm]at hl;match cs,hl,D,f,e with
 |[v0,v1,v2,v3,v4,v5,v6,v7,v8,v9],_,[x0,x1,x2,x3,x4,x5,x6,x7,x8,x9],_,e=>
  obtain⟨k0,rfl,_⟩:=KH (show DataW.trod enc prog W 0 (λ_=>true) true n 3 [v0]=some x0 from e 0 _ rfl);obtain⟨g,rfl,_⟩:=KH (show DataW.trod enc prog W 0 (λ_=>true) true n 3 [v1]=some x1 from e 1 _ rfl);obtain⟨k2,rfl,_⟩:=KH (show DataW.trod enc prog W 0 (λ_=>true) true n 3 [v2]=some x2 from e 2 _ rfl);obtain⟨j,rfl,_⟩:=KH (show DataW.trod enc prog W 0 (λ_=>true) true n 3 [v3]=some x3 from e 3 _ rfl);obtain⟨m,rfl,_⟩:=KH (show DataW.trod enc prog W 0 (λ_=>true) true n 3 [v4]=some x4 from e 4 _ rfl);obtain⟨u,rfl,_⟩:=KH (show DataW.trod enc prog W 0 (λ_=>true) true n 3 [v5]=some x5 from e 5 _ rfl);obtain⟨w,rfl,_⟩:=KH (show DataW.trod enc prog W 0 (λ_=>true) true n 3 [v6]=some x6 from e 6 _ rfl);obtain⟨B,rfl,_⟩:=KH (show DataW.trod enc prog W 0 (λ_=>true) true n 3 [v7]=some x7 from e 7 _ rfl);obtain⟨b8,rfl⟩:=adA (show DataW.trod enc prog W 0 (λ_=>true) true n 4 [v8]=some x8 from e 8 _ rfl);obtain⟨s9,rfl,_⟩:=vw (show DataW.trod enc prog W 0 (λ_=>true) true n 9 [v9]=some x9 from e 9 _ rfl);exact⟨⟨k0,g,k2,j,m,u,w,B,b8,s9⟩,rfl⟩
theorem agi{q:Nat}{cs:Ae}{y:DataW H×List MemPlace}(h:DataW.trod enc prog W 0 (λ_=>true) true q 26 cs=some y):∃C:R.Cf,cs=[Z C.DI,Z C.DV,Z C.Ew,Z C.DW,Z C.FF]:=by
 have⟨u,n,_,_,hl,f,e⟩:=DataW.trod_struct underlying26 h;rw[agl]at hl;match cs,hl,u,f,e with
 |[v0,v1,v2,v3,v4],_,[x0,x1,x2,x3,x4],_,e=>
  obtain⟨k0,rfl,_⟩:=KH (show DataW.trod enc prog W 0 (λ_=>true) true n 3 [v0]=some x0 from e 0 _ rfl);obtain⟨g,rfl,_⟩:=KH (show DataW.trod enc prog W 0 (λ_=>true) true n 3 [v1]=some x1 from e 1 _ rfl);obtain⟨k2,rfl,_⟩:=KH (show DataW.trod enc prog W 0 (λ_=>true) true n 3 [v2]=some x2 from e 2 _ rfl);obtain⟨j,rfl,_⟩:=KH (show DataW.trod enc prog W 0 (λ_=>true) true n 3 [v3]=some x3 from e 3 _ rfl);obtain⟨m,rfl,_⟩:=KH (show DataW.trod enc prog W 0 (λ_=>true) true n 3 [v4]=some x4 from e 4 _ rfl);exact⟨⟨k0,g,k2,j,m⟩,rfl⟩
theorem adB{q:Nat}{y:DataW H×List MemPlace}(h:DataW.trod enc prog W 0 (λ_=>true) true q 44 [v]=some y)(w:(DataW.weights prog 44 y.1).all (·<=reachBytes)=true):∃l:List V.It,V.Ff W v l/\l.length<=9000000000000:=by
 have g:∃a n c,v=.slice a n c:=by
  rcases Deep.open_slice underlying44 h with ⟨O,_⟩|⟨a,len,cap,m,n,D,Pl,O,_⟩;all_goals grind
 have⟨a,n,c,j⟩:=g;have M:DataW.trod enc prog W 0 (λ_=>true) true q 44 v.cells.toList=some (y.1,y.2):=by rw[j];rw[j]at h;exact h
 rcases V.sF (d:=y.1) (p:=y.2) j ⟨q,M⟩ with e|⟨ad,u,l,B,X,T,Q,hd,f⟩
 ·exact⟨[],⟨none,0,by rw[e];rfl,Ar _,Aj rfl⟩,Ev⟩
 ·refine⟨l,Q,?_⟩;rw[hd]at w;have:=CL.1 w ((B.length+X.length)*prog.bytesOf 106) (by simp[DataW.weights,underlying44]);rw[V.yA,f]at this;have hr:=reachBytes_lt;all_goals grind
theorem s_op{q:Nat}{cs:Ae}{y:DataW H×List MemPlace}(h:DataW.trod enc prog W 0 (λ_=>true) true q 72 cs=some y)(m:(DataW.weights prog 72 y.1).all (·<=reachBytes)=true):∃(o:LD) (l:List V.It),cs=o.cells.toList/\o.s.length<=1000000000000000/\V.Ff W o.L l/\l.length<=9000000000000/\Ya o.c/\Ya o.on:=by
 have⟨xs,n,_,w,hl,u,e⟩:=DataW.trod_struct underlying72 h;rw[ae2]at hl;match cs,hl,xs,u,e,w with
 |[v0,v1,v2,v3,v4,v5,v6,v7,v8,v9,v10,v11,v12,v13,v14,v15,v16,v17,v18,v19,v20,v21,v22,v23],_,[x0,x1,x2,x3,x4,x5,x6,x7,x8,x9,Tf],_,e,w=>
  have f:∀(j:Nat) (t:Ag) (d:DataW H),([3,3,3,3,3,3,9,9,44,41,26]:List TypeId)[j]?=some t->([x0.1,x1.1,x2.1,x3.1,x4.1,x5.1,x6.1,x7.1,x8.1,x9.1,Tf.1]:List (DataW H))[j]?=some d->(DataW.weights prog t d).all (·<=reachBytes)=true:=λj t d O hd=>by
   rw[w]at m;simp only[DataW.weights,underlying72]at m;refine CL.2 λz hz=>?_
   exact CL.1 m z (DataW.weights_mem_each (ts:=[3,3,3,3,3,3,9,9,44,41,26]) O hd z hz)
  obtain⟨k0,rfl,_⟩:=KH (show DataW.trod enc prog W 0 (λ_=>true) true n 3 [v0]=some x0 from e 0 _ rfl);obtain⟨Q,rfl,i1⟩:=KH (show DataW.trod enc prog W 0 (λ_=>true) true n 3 [v1]=some x1 from e 1 _ rfl);obtain⟨k2,rfl,_⟩:=KH (show DataW.trod enc prog W 0 (λ_=>true) true n 3 [v2]=some x2 from e 2 _ rfl);obtain⟨T,rfl,_⟩:=KH (show DataW.trod enc prog W 0 (λ_=>true) true n 3 [v3]=some x3 from e 3 _ rfl);obtain⟨X,rfl,i4⟩:=KH (show DataW.trod enc prog W 0 (λ_=>true) true n 3 [v4]=some x4 from e 4 _ rfl);obtain⟨k5,rfl,_⟩:=KH (show DataW.trod enc prog W 0 (λ_=>true) true n 3 [v5]=some x5 from e 5 _ rfl);obtain⟨s6,rfl,e6⟩:=vw (show DataW.trod enc prog W 0 (λ_=>true) true n 9 [v6]=some x6 from e 6 _ rfl);obtain⟨s7,rfl,_⟩:=vw (show DataW.trod enc prog W 0 (λ_=>true) true n 9 [v7]=some x7 from e 7 _ rfl);have⟨l,M,g⟩:=adB (show DataW.trod enc prog W 0 (λ_=>true) true n 44 [v8]=some x8 from e 8 _ rfl) (f 8 44 x8.1 rfl rfl);have⟨P,D⟩:=agj (show DataW.trod enc prog W 0 (λ_=>true) true n 41 [v9,v10,v11,v12,v13,v14,v15,v16,v17,v18]=some x9 from e 9 _ rfl);have⟨C,hC⟩:=agi (show DataW.trod enc prog W 0 (λ_=>true) true n 26 [v19,v20,v21,v22,v23]=some Tf from e 10 _ rfl);have B:=f 6 9 x6.1 rfl rfl;rw[e6]at B;simp only[DataW.weights,List.all_cons,List.all_nil,Bool.and_true,Db]at B;have hr:=reachBytes_lt;simp only[List.cons.injEq,and_true]at D hC;obtain⟨rfl,rfl,rfl,rfl,rfl,rfl,rfl,rfl,rfl,rfl⟩:=D;obtain⟨rfl,rfl,rfl,rfl,rfl⟩:=hC;exact⟨⟨k0,Q,k2,T,X,k5,s6,s7,v8,P,C⟩,l,rfl,show s6.length<=_ by omega,M,g,i4,i1⟩
theorem oC{d:DataW H}{p:List MemPlace}{a0:Af}{n0 c0:Nat}(hv:v=.slice a0 n0 c0)(h:DataW.Trod enc prog W 0 (λ_=>true) true 22 v d p)(T:(DataW.weights prog 22 d).all (·<=reachBytes)=true):bK W a0 n0/\n0<=800000000000:=by
 subst hv;have⟨fuel,h⟩:=h;simp only[Value.cells]at h;rcases Deep.open_slice underlying22 h with ⟨B,_⟩|⟨a,len,cap,m,n,D,Pl,B,_,hl,hm,Q,hx,hc⟩
 ·have:Value.slice a0 n0 c0=.slice none 0 0:=by simpa using B
  cases this;exact⟨Aj rfl,AV _⟩
 ·have hV:Value.slice a0 n0 c0=.slice (some a) len cap:=by simpa using B
  cases hV;rw[Ay rfl]at Q;have hd:=(Prod.mk.inj hx).1;rw[hd]at T;simp only[DataW.weights,underlying22,List.all_cons,Dk,List.all_append]at T;have⟨ah,X,_⟩:=T;have ak:∀i,i<n0->(DataW.weights prog 72 (D i)).all (·<=reachBytes)=true:=λi hi=>by
   have w:∀(l:List (DataW H)),(DataW.weightsAll prog 72 l).all (·<=reachBytes)=true->∀x∈l,(DataW.weights prog 72 x).all (·<=reachBytes)=true:=λl=>by
    induction l with
    |nil=>intro _ x hx;cases hx
    |cons y l ih=>grind [DataW.weightsAll]
   exact w _ X (D i) (Cy.2 ⟨i,by simpa using hi,rfl⟩)
  have hn:n0<=800000000000:=by
   have hr:=reachBytes_lt
   grind [agk]
  refine⟨?_,hn⟩;by_cases h0:n0=0
  ·exact Aj h0
  ·right;rw[ae2]at hc;have each:∀i,i<n0->∃(o:LD) (l:List V.It),(∀j u,o.cells[j]?=some u->W.cell? (a.add (i*24+j))=some u)/\o.s.length<=1000000000000000/\V.Ff W o.L l/\l.length<=9000000000000/\Ya o.c/\Ya o.on:=λi hi=>by
    have⟨ab,g1,g2⟩:=hc i U;have⟨_,aa,O⟩:=World.cells?_some g1
    grind [s_op,Deep.add_add]
   have⟨o0,_,g,_⟩:=each 0 U;have f:=g 0 _ rfl;have e:a.spot=none:=by
    cases e:a.spot with
    |none=>rfl
    |some y=>grind [World.cell?,Addr.add]
   have⟨b,off,al⟩:=a;simp only at e;subst e;have M:∀o,((Y b off):Addr).add o=(Y b (off+o)):=λo=>by simp[Addr.add]
   rw[M]at f;refine⟨b,off,rfl,Gv f,λi hi=>?_⟩;have⟨o,l,e1,e2,e3,e4,e5,e6⟩:=each i hi;refine⟨o,l,λj u hj=>?_,e2,e3,e4,e5,e6⟩
   grind
end
end Go.Proofs.YtblomippkddgiaaGreatDoor
