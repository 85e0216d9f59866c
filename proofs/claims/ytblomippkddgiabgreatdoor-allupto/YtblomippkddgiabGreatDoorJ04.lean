import Derived.Test.YtblomippkddgiabGreatDoorJ03
set_option maxRecDepth 100000
set_option maxHeartbeats 2000000
namespace Go.Proofs.YtblomippkddgiabGreatDoor
open Go.Proofs.Tryz RowKit
variable {cur:Array Value}{E F F':D9}{l:List R.It}{xs:List Value}{B b n nm s size:Nat}{z:Nat×Nat}{e t:TypeId}{K W v:Value}{w w':World}
namespace V
variable {hi lo n':Int}{v:List It}{l r:List UInt8}{B' k:Nat}{a c:UInt8}{O O' O1 Ov c0 c1 c2:Value}{w0 w1:World}
theorem Qy(b:Nat)(l:Ac)(O:Ad)(n:Nat)(w:Aa)(h:Rd w b l O)(hn:¬n<=l):
  ET 246 #[.pointer (Y b 0),Z n] w λe f=>e=EQ 6 0/\DY w f:=by
 have g:=h.left;have a:=Er l;have c:=Dx (JR b l O w h);generalize hS:str l=S at *;clear hS h;have d:((S.size:Int)<(n:Int)):=U;clear hn a
 delta ET
 go_in
 go_wp2_with fail
 refine cs c ?_;go_wp2;exact⟨I,I,AA _ _⟩
theorem WR(b:Nat)(O:Ad)(w:Aa)(h:Rd w b [] O):ET 206 #[.pointer (Y b 0)] w λe c=>e=EQ 6 0/\DY w c:=by
 have H:=Dx (Qy b [] O 1 w h Ev);clear h
 delta ET
 go_in
 go_wp2_with fail
 refine cm H λd a=>?_
 go_wp2;exact⟨I,I,a⟩
theorem PW(b:Nat)(c:UInt8)(r:Ac)(O:Ad)(w:Aa)(h:Rd w b (c :: r) O)(hl:r.length<=900):D7 206 #[.pointer (Y b 0)] w (Z c.toNat) λa=>a=w.setCell (Y b 0) (.string (str r)):=by
 have H:=Dx (ME b (c :: r) O 1 w h Ev Fy);rw[show (c :: r).take 1=[c] from rfl,show (c :: r).drop 1=r from rfl]at H;have i0:(str [c])[0]'(by rw[Er];simp)=c:=rfl;have hc:=c.toNat_lt;have d:wrap64 (c.toNat:Int)=(c.toNat:Int):=NU;clear h;exact acv
theorem aQ(h:Rd w b l O)(hn:¬2<=l.length):
  ET 207 #[.pointer (Y b 0)] w λe j=>e=EQ 6 0/\Below b w j:=by
 match l,h,hn with
 |[],h,_=>
  have g:=h.lt;have H:=Dx (WR b O w h);clear h
  delta ET
  go_in
  go_wp2_with fail
  refine cm H λn d=>?_
  go_wp2;exact⟨I,I,d.mono U⟩
 |[a],h,_=>
  have g:=h.lt;have⟨H,i⟩:=FU (PW b a [] O w h Ev) (WR b O _ (h.set0 []));have k:=a.toNat_lt;have m:wrap64 ((a.toNat:Int)*256)=(a.toNat:Int)*256:=NU;clear h
  delta ET
  go_in
  go_wp2_with fail
  refine cs H ?_;go_wp2_with fail
  refine cm i λo f=>?_
  go_wp2;exact⟨I,I,((AA b w).setCell Ev _).trans (f.mono Fy)⟩
 |a :: c :: r,_,hn=>exact absurd Ev hn
theorem Xy(a c:Nat)(d:a<256)(hc:c<256):bits .or .i64 ((a*256:Nat):Int) c=((a*256+c:Nat):Int):=by
 have e:a*256 ||| c=a*256+c:=by
  have h:=Nat.two_pow_add_eq_or_of_lt (i:=8) (b:=c) U a
  grind
 exact afA
def E5(a c:UInt8):Nat:=a.toNat*256+c.toNat
theorem aR(h:Rd w b (a :: c :: r) O)(hl:r.length<=500):
  D7 207 #[.pointer (Y b 0)] w (Z (E5 a c)) λd=>d=(w.setCell (Y b 0) (.string (str (c :: r)))).setCell (Y b 0) (.string (str r)):=by
 have H:=Dx (PW b a (c :: r) O w h Fy);have H2:=Dx (PW b c r O _ (h.set0 (c :: r)) U);have e:=a.toNat_lt;have hc:=c.toNat_lt;have g:wrap64 ((a.toNat:Int)*256)=(a.toNat:Int)*256:=NU;have f:bits .or .i64 ((a.toNat:Int)*256) (c.toNat:Int)=((E5 a c:Nat):Int):=by
  have:=Xy a.toNat c.toNat U U;exact acw
 clear h;exact abp
theorem sO(n cap:Nat)(w:Aa):D7 110 #[.slice none n cap] w Dz λb=>b=w:=by
 have a:=isNil n cap
 delta D7
 go_in
 go_wp2
 go_ret
 exact DN
theorem pM(O:Ad)(n cap:Nat)(w:Aa):D7 113 #[O,.slice none n cap] w DC λb=>b=w:=by
 have a:=isNil n cap
 delta D7
 go_in
 go_wp2
 go_ret
 exact DN
structure RS(w0 w:Aa)(l:Ac)(O:Ad)(v:List It):Prop where
 rd:Rd w w0.heap.size l O
 h:Below w0.heap.size w0 w
 own:w.ownsRow (w0.heap.size+1) 73 2 O v.length (flat v)
theorem RS.row(h:RS w0 w l O v)(hk:O.ownBlock=k):w0<k/\k<w:=by
 have:=h.own.lt k hk;omega
theorem RS.go(h:RS w0 w l O v)(a:DY w w'):RS w0 w' l O v:=
 ⟨h.rd.h a,h.h.trans (a.mono h.h.size),ER h.own a⟩
theorem RS.J(h:RS w0 w l O v)(l':Ac):RS w0 (w.setCell (EN w0 0) (.string (str l'))) l' O v/\Wk w0 O O w (w.setCell (EN w0 0) (.string (str l'))):=
 ⟨⟨h.rd.set0 l',h.h.setCell Ev _,Qq h.own U⟩,⟨Ev,λk _ a _=>AU _ _ _ _ (by simpa using a),Aj rfl⟩⟩
theorem RS.drewN(h:RS w0 w l O v)(q:Nat):RS w0 (w.drewN q) l O v:=⟨h.rd,Ed h.h q,h.own⟩
theorem Wk.drewN(h:Wk b O O' w w')(q:Nat):Wk b O O' w (w'.drewN q):=⟨h.size,h.block,h.row⟩
theorem QS:∀(v:List It) (x:It),flat (v++[x])=flat v++[Z x.1,.string x.2]
 |[],x=>rfl
 |y :: v,x=>by simp only[BB,flat,QS v x]
theorem Tc{x:It}{o:Obj}(h:RS w0 w l O v)(b:w1.ownsRow (w0+1) 73 2 O1 (v+1) (flat v++[Z x.1,.string x.2]))(hg:(w.alloc o).grownBy w1 O.ownBlock)(c:O1.ownBlock=O.ownBlock\/O1.ownBlock=(w.alloc o).heap.size):
  Rd w1 w0 l O/\RS w0 (w1.setCell (EN w0 2) O1) l O1 (v++[x])/\Wk w0 O O1 w (w1.setCell (EN w0 2) O1):=by
 have g:=h.rd.lt;have d:(w.alloc o).heap.size=w.heap.size+1:=Ev;have i:=hg.size;have keep:∀k,k<w.heap.size->O.ownBlock≠some k->w1.heap[k]?=w.heap[k]?:=by
  exact afj
 have hrow:∀k,O.ownBlock=some k->w0.heap.size<k:=λk hk=>(h.row hk).1
 have a:Rd w1 w0.heap.size l O:=by
  have:=h.rd;unfold Rd at this ⊢;all_goals grind
 refine⟨a,⟨a.set1 O1,?_,?_⟩,⟨Fy,λk hk f hr=>?_,?_⟩⟩
 .exact afi
 all_goals grind [Qq,QS,Below.heap_setCell]
theorem Jd(w:Aa)(x:It):∀(j:Nat) (u:Ad),([Value.int .i64 x.1,.string x.2]:Ae)[j]?=u->(w.alloc (.cells #[Z x.1,.string x.2] 73)).cell? (((EN w 0):Addr).add j)=u:=by
 intro j u a;match j,a with
 |0,a=>simp at a;subst a;simp[Addr.add,go_sem]
 |1,a=>simp at a;subst a;simp[Addr.add,go_sem]
 |j+2,a=>simp at a
theorem KF(x:It):∀u∈([Value.int .i64 x.1,.string x.2]:Ae),u.oneCell'=true:=by
 intro u hu;simp at hu;rcases hu with rfl|rfl
 .rfl
 .rfl
theorem aT(h:RS w0 w (a :: c :: r) O v)(hl:r.length<=500):
  D7 207 #[.pointer (EN w0 0)] w (Z (E5 a c)) λb=>RS w0 b r O v/\Wk w0 O O w b:=by
 refine cs (aR h.rd hl) ?_;have⟨d,f⟩:=h.J (c :: r);have⟨e,k2⟩:=d.J r;exact⟨I,e,f.trans k2⟩
theorem Xv(a c:UInt8):E5 a c<65536:=by
 have b:=a.toNat_lt;have hc:=c.toNat_lt;unfold E5;omega
def Ht(lo hi n:Int):Int:=if lo<0/\hi<n then n-65536 else n
theorem Z2(hn:n<65536)(a:Ht lo hi n<lo\/hi<Ht lo hi n)
  (H:D7 207 #[.pointer (EN w0 0)] w (Z n) λb=>RS w0 b l O v/\Wk w0 O O w b):
  ET 285 #[.pointer (EN w0 0),Z lo,Z hi] w λe b=>e=EQ 6 0/\DY w0 b:=by
 have HH:=Dx H;clear H;unfold Ht at a;by_cases c:lo<0
 .by_cases d:hi<(n:Int)
  .rw[Ay ⟨c,d⟩]at a;by_cases f:(n:Int)-65536<lo
   .delta ET
    go_in
    exact xh
   .have g:hi<(n:Int)-65536:=U
    delta ET
    go_in
    exact xh
  .rw[Ao (λh=>d h.2)]at a;have f:(n:Int)<lo:=U;omega
 .rw[Ao (λh=>c h.1)]at a;by_cases f:(n:Int)<lo
  .delta ET
   go_in
   exact xh
  .have g:hi<(n:Int):=U
   delta ET
   go_in
   exact xh
theorem Qp(H:ET 207 #[.pointer (EN w0 0)] w λe a=>e=EQ 6 0/\DY w0 a):
  ET 285 #[.pointer (EN w0 0),Z lo,Z hi] w λe a=>e=EQ 6 0/\DY w0 a:=by
 have b:=Dx H;clear H
 delta ET
 go_in
 go_wp2_with fail
 refine cm b λd c=>?_
 go_wp2;exact⟨I,I,c⟩
theorem gf(hn:n<65536)(c:n'=Ht lo hi n)(f:¬n'<lo/\¬hi<n')(q:v.length<=100000)
  (H:D7 207 #[.pointer (EN w0 0)] w (Z n) λe=>RS w0 e l O v/\Wk w0 O O w e):
  D7 285 #[.pointer (EN w0 0),Z lo,Z hi] w (Z n') λe=>∃h,RS w0 e l h (v++[(n',⟨#[]⟩)])/\Wk w0 O h w e:=by
 have j:=Dx H;clear H;have⟨o,p⟩:=f;have⟨i0,hi0,hz0,hz1,hz2⟩:=A1 LQ;have b:(lo<0/\hi<(n:Int)/\n'=(n:Int)-65536)\/(lo<0/\¬hi<(n:Int)/\n'=(n:Int))\/(¬lo<0/\n'=(n:Int)):=by
  unfold Ht at c;split at c<;>omega
 clear c;rcases b with ⟨i,k,rfl⟩|⟨i,k,rfl⟩|⟨i,rfl⟩;all_goals
  delta D7
  go_in
  go_wp2_with fail
  refine cm j ?_;rintro w1 ⟨a,d⟩;have⟨r,on,s,g⟩:=Ei a.own;subst g;have hO:=a.rd.J;have how:=a.own;have m:=a.rd.lt;have⟨HRS,HWK⟩:=FU a d;clear a d
 .go_wp2_with (at_builtin;refine AQ _ I (.tmp 37) (.tmp 40) 37 I (w0.heap.size+1) 73 i0 _ 2 24 underlying37 hi0 hz0 hz1 hz2 I Em _ v.length (flat v) I (by exact how.alloc _) (EN w1 0) 1 1 [Z ((n:Int)-65536),.string ⟨#[]⟩] I I (by exact Jd w1 ((n:Int)-65536,⟨#[]⟩)) (by exact KF ((n:Int)-65536,⟨#[]⟩)) JG U Fy ?_)
  intro O1 w2 hown hgrow _ hat;have⟨ta,tn,tc,hts⟩:=Ei hown;subst hts;have⟨hrd,hrs2,hwk2⟩:=Tc (x:=((n:Int)-65536,⟨#[]⟩)) HRS hown hgrow (by simpa using hat);have k1:=hrd.J;have k2:=hrd.thaw 2;have⟨HR2,HK2⟩:=FU hrs2 (HWK.trans hwk2);clear hown hgrow hat hrd hrs2 hwk2 how hO;go_wp2
  go_ret
  exact⟨I,_,HR2,HK2⟩
 .exact afl
 .exact afl
theorem UF(H:ET 207 #[.pointer (EN w0 0)] w λe a=>e=EQ 6 0/\DY w0 a):
  ET 286 #[.pointer (EN w0 0)] w λe a=>e=EQ 6 0/\DY w0 a:=by
 have b:=Dx H;clear H
 delta ET
 go_in
 go_wp2_with fail
 refine cm b λd c=>?_
 go_wp2;exact⟨I,I,c⟩
theorem gI(hn:¬n<=14)
  (H:D7 207 #[.pointer (EN w0 0)] w (Z n) λa=>RS w0 a l O v/\Wk w0 O O w a):
  ET 286 #[.pointer (EN w0 0)] w λe a=>e=EQ 6 0/\DY w0 a:=by
 have HH:=Dx H;have b:(14:Int)<n:=U;clear H hn
 delta ET
 go_in
 exact xh
theorem Z8(hn:n<=14)(i:¬n<=l)
  (H:D7 207 #[.pointer (EN w0 0)] w (Z n) λb=>RS w0 b l O v/\Wk w0 O O w b):
  ET 286 #[.pointer (EN w0 0)] w λe b=>e=EQ 6 0/\DY w0 b:=by
 have f:=Dx H;have h:¬(14:Int)<n:=U;clear H
 delta ET
 go_in
 go_wp2_with fail
 refine cm f ?_;rintro j ⟨a,_⟩;have d:=a.h;have g:=Dx (Qy w0.heap.size l O n j a.rd i);clear a;go_wp2_with fail
 refine cm g λk c=>?_
 go_wp2;exact⟨I,I,d.trans (c.mono d.size)⟩
theorem gH(hn:n<=14)(J:n<=l)(hl:l.length<=500)(L:v.length<=100000)(F:n % 2=0)
  (H:D7 207 #[.pointer (EN w0 0)] w (Z n) λm=>RS w0 m l O v/\Wk w0 O O w m):
  D7 286 #[.pointer (EN w0 0)] w Ep λm=>∃B,RS w0 m (l.drop n) B (v++[(0,str (l.take n))])/\Wk w0 O B w m:=by
 have z:=Dx H;have E:¬(14:Int)<n:=U;have h:=Dx (λw=>M2 n w hn);rw[show (n % 2==1)=false by simp[F]]at h;have o:(l.take n).length<=1000:=by rw[Bv];omega
 have y:=Dx (λw=>Kr (l.take n) w o);have⟨i0,p,s,t,u⟩:=A1 LQ;clear H
 delta D7
 go_in
 go_wp2_with fail
 refine(Dw z).mono ?_;rintro e C ⟨rfl,g,k⟩;have A:=Dx (ME w0.heap.size l O n C g.rd J U);have⟨c,d⟩:=g.J (l.drop n);have⟨b,i⟩:=FU c (k.trans d);clear g k c d z;generalize hSS:str (l.take n)=S at *;go_wp2_with fail
 refine(Dw A).mono ?_;rintro e X ⟨rfl,rfl⟩;generalize C.setCell {block:=w0.heap.size,off:=0} (.string (str (l.drop n)))=W2 at *;go_wp2_with fail
 refine((Dw y) _).mono ?_;rintro e w3 ⟨rfl,f⟩;have a:=(Dw b).go f;have j:=Dx ((Dw i).trans (Wk.of_below f));clear f b i A y;go_wp2_with fail
 refine((Dw h) _).mono ?_;rintro e D ⟨rfl,rfl⟩;have⟨N,on,P,q⟩:=Ei a.own;subst q;have hO:=a.rd.J;have how:=a.own;have G:=a.rd.lt;have b:=Dx a;clear a;go_wp2_with (at_builtin;refine AQ _ I (.tmp 37) (.tmp 40) 37 I (w0.heap.size+1) 73 i0 _ 2 24 underlying37 p s t u I Em _ v.length (flat v) I (by exact how.alloc _) (EN D 0) 1 1 [Z 0,.string S] I I (by exact Jd D (0,S)) (by exact KF (0,S)) JG U Fy ?_)
 intro K w5 hown hgrow _ hat;have⟨Q,W,T,r⟩:=Ei hown;subst r;have⟨hrd,hrs2,hwk2⟩:=Tc (x:=(0,S)) (Dw b) hown hgrow (by simpa using hat);have M:=hrd.J;have k2:=hrd.thaw 2;have⟨HR2,HK2⟩:=FU hrs2 ((Dw j).trans hwk2);exact ab6
theorem ot(hn:n<=14)(A:n=l)(hl:l.length<=500)(z:n % 2=1)
  (H:D7 207 #[.pointer (EN w0 0)] w (Z n) λp=>RS w0 p l O v/\Wk w0 O O w p):
  ET 286 #[.pointer (EN w0 0)] w λe p=>e=EQ 6 0/\DY w0 p:=by
 have x:=Dx H;have C:¬(14:Int)<n:=U;have f:=Dx (λw=>M2 n w hn);rw[show (n % 2==1)=true by simp[z]]at f;have k:(l.take n).length<=1000:=by rw[Bv];omega
 have⟨u,h,q⟩:=Ll (λw=>Kr (l.take n) w k) A hl;clear H A hl z k
 delta ET
 go_in
 go_wp2_with fail
 refine(Dw x).mono ?_;rintro e B ⟨rfl,d,t⟩;have y:=Dx (ME w0.heap.size l O n B d.rd (by have:=Dw h;omega) (by have:=Dw q;omega));have⟨c,o⟩:=d.J (l.drop n);have g:=Dx c;clear d t c o x;generalize hSS:str (l.take n)=S at *;go_wp2_with fail
 refine(Dw y).mono ?_;rintro e E ⟨rfl,rfl⟩;generalize B.setCell {block:=w0.heap.size,off:=0} (.string (str (l.drop n)))=W2 at *;go_wp2_with fail
 refine((Dw u) _).mono ?_;rintro e F ⟨rfl,i⟩;have b:=(Dw g).go i;clear i g y u;go_wp2_with fail
 refine((Dw f) _).mono ?_;rintro e D ⟨rfl,rfl⟩;have m:l.drop n=[]:=List.drop_of_length_le (by have:=Dw h;omega);have a:=b.rd;rw[m]at a;have r:=Dx (WR w0.heap.size O D a);have j:=b.h;clear b a m;go_wp2_with fail
 refine(Dw r).mono ?_;rintro e G ⟨rfl,s⟩;go_wp2;exact⟨I,I,j.trans (s.mono j.size)⟩
theorem ow(hn:n<=14)(E:n<=l)(hd:l.drop n=c :: r)(hc:c≠0)(hl:l.length<=500)(D:n % 2=1)
  (H:D7 207 #[.pointer (EN w0 0)] w (Z n) λq=>RS w0 q l O v/\Wk w0 O O w q):
  ET 286 #[.pointer (EN w0 0)] w λe q=>e=EQ 6 0/\DY w0 q:=by
 have C:=Dx H;have J:¬(14:Int)<n:=U;have K:((c.toNat:Int) != 0)=true:=by
  rw[bne_iff_ne];intro h;exact hc (UInt8.toNat_inj.1 (by simpa using h))
 have i:=Dx (λw=>M2 n w hn);rw[show (n % 2==1)=true by simp[D]]at i;have m:(l.take n).length<=1000:=by rw[Bv];omega
 have⟨A,t,g,B⟩:=bE (λw=>Kr (l.take n) w m) E hl hd;clear H E hl D m hd hc
 delta ET
 go_in
 go_wp2_with fail
 refine(Dw C).mono ?_;rintro e F ⟨rfl,f,z⟩;have u:=Dx (ME w0.heap.size l O n F f.rd (Dw t) (by have:=Dw g;omega));have⟨a,p⟩:=f.J (l.drop n);rw[Dw B]at u a;have j:=Dx a;clear f z a p C;generalize hSS:str (l.take n)=S at *;go_wp2_with fail
 refine(Dw u).mono ?_;rintro e L ⟨rfl,rfl⟩;generalize F.setCell {block:=w0.heap.size,off:=0} (.string (str (c :: r)))=W2 at *;go_wp2_with fail
 refine((Dw A) _).mono ?_;rintro e M ⟨rfl,k⟩;have b:=(Dw j).go k;clear k j u A;go_wp2_with fail
 refine((Dw i) _).mono ?_;rintro e G ⟨rfl,rfl⟩;have o:(c :: r).length<=500:=by
  rw[<-Dw B,A9];have:=Dw g;omega
 have x:=Dx (PW w0.heap.size c r O G b.rd (by simp only[A4]at o;omega));have⟨d,_⟩:=b.J r;have y:=d.h;have s:=Dx (JR w0.heap.size r O _ d.rd);clear b d o;go_wp2_with fail
 refine(Dw x).mono ?_;rintro e N ⟨rfl,rfl⟩;generalize G.setCell {block:=w0.heap.size,off:=0} (.string (str r))=W5 at *;go_wp2_with fail
 refine(Dw s).mono ?_;rintro e P ⟨rfl,rfl⟩;go_wp2;exact⟨I,I,y⟩
theorem ou(hn:n<=14)(T:n<=l)(hd:l.drop n=0 :: r)(hl:l.length<=500)(hv:v.length<=100000)(Q:n % 2=1)
  (H:D7 207 #[.pointer (EN w0 0)] w (Z n) λz=>RS w0 z l O v/\Wk w0 O O w z):
  D7 286 #[.pointer (EN w0 0)] w Ep λz=>∃P,RS w0 z r P (v++[(0,str (l.take n))])/\Wk w0 O P w z:=by
 have N:=Dx H;have aa:¬(14:Int)<n:=U;have m:=Dx (λw=>M2 n w hn);rw[show (n % 2==1)=true by simp[Q]]at m;have t:(l.take n).length<=1000:=by rw[Bv];omega
 have L:=Dx (λw=>Kr (l.take n) w t);have⟨i0,D,G,J,K⟩:=A1 LQ;have⟨B,k,M⟩:=Ll T hl hd;clear H T hl Q t hd
 delta D7
 go_in
 go_wp2_with fail
 refine(Dw N).mono ?_;rintro e W ⟨rfl,j,y⟩;have C:=Dx (ME w0.heap.size l O n W j.rd (Dw B) (by have:=Dw k;omega));have⟨b,d⟩:=j.J (l.drop n);rw[Dw M]at C b d;have⟨p,s⟩:=FU b (y.trans d);clear j y b d N;generalize hSS:str (l.take n)=S at *;go_wp2_with fail
 refine(Dw C).mono ?_;rintro e w2 ⟨rfl,rfl⟩;generalize W.setCell {block:=w0.heap.size,off:=0} (.string (str (0 :: r)))=W2 at *;go_wp2_with fail
 refine((Dw L) _).mono ?_;rintro e w3 ⟨rfl,i⟩;have c:=(Dw p).go i;have f:=Dx ((Dw s).trans (Wk.of_below i));clear i p C L s;go_wp2_with fail
 refine((Dw m) _).mono ?_;rintro e X ⟨rfl,rfl⟩;have u:(0 :: r).length<=500:=by
  rw[<-Dw M,A9];have:=Dw k;omega
 have q:=Dx (PW w0.heap.size 0 r O X c.rd (by simp only[A4]at u;omega));rw[show (((0:UInt8).toNat:Nat):Int)=0 from rfl]at q;have⟨g,h⟩:=c.J r;clear u;have⟨o,A⟩:=FU g ((Dw f).trans h);clear c g h f;go_wp2_with fail
 refine(Dw q).mono ?_;rintro e w5 ⟨rfl,rfl⟩;generalize X.setCell {block:=w0.heap.size,off:=0} (.string (str r))=W5 at *;have a:=Dw o;have⟨oa,on,oc,E⟩:=Ei a.own;subst E;have hO:=a.rd.J;have how:=a.own;have ab:=a.rd.lt;clear a;go_wp2_with (at_builtin;refine AQ _ I (.tmp 37) (.tmp 40) 37 I (w0.heap.size+1) 73 i0 _ 2 24 underlying37 D G J K I Em _ v.length (flat v) I (by exact how.alloc _) (EN W5 0) 1 1 [Z 0,.string S] I I (by exact Jd W5 (0,S)) (by exact KF (0,S)) JG U Fy ?_)
 intro O1 w6 hown hgrow _ hat;have⟨ta,tn,tc,F⟩:=Ei hown;subst F;have⟨hrd,hrs2,hwk2⟩:=Tc (x:=(0,S)) (Dw o) hown hgrow (by simpa using hat);have k1:=hrd.J;have k2:=hrd.thaw 2;have⟨HR2,HK2⟩:=FU hrs2 ((Dw A).trans hwk2);exact ab6
abbrev OJ:=List UInt8×List It
def Fx(lo hi:Int)(x:OJ):Option (Int×OJ):=match x.1 with
 |a :: c :: r=>if Ht lo hi (E5 a c)<lo\/hi<Ht lo hi (E5 a c) then none else some (Ht lo hi (E5 a c),(r,x.2++[(Ht lo hi (E5 a c),⟨#[]⟩)]))
 |_=>none
def Il(x:OJ):Option OJ:=match x.1 with
 |a :: c :: r=>if E5 a c<=14/\E5 a c<=r.length then
   (if E5 a c % 2=0 then some (r.drop (E5 a c),x.2++[(0,str (r.take (E5 a c)))])
    else match r.drop (E5 a c) with
    |p :: r'=>if p=0 then some (r',x.2++[(0,str (r.take (E5 a c)))]) else none
    |[]=>none)
   else none
 |_=>none
def Jw(w0:Aa):GX OJ where
 tid:=307
 b:=285
 c:=286
 er:=6
 ptr:=(EN w0 0)
 w0:=w0
 St:=λw c x O=>∃Ov,RS w0 w x.1 Ov x.2/\O=O9 w0 Ov/\x.1.length<=490/\x.2<=c
 num:=Fx
 a:=Il
theorem Xu(h:RS w0 w l O v)(hn:¬2<=l.length):ET 207 #[.pointer (EN w0 0)] w λe a=>e=EQ 6 0/\DY w0 a:=by
 refine cm (aQ h.rd hn) λa b=>?_
 exact⟨I,h.h.trans b⟩
theorem nZ{c:Nat}(h:RS w0 w l Ov v)(hl:l.length<=490)(p:v<=c)(hc:c<=40000):
  ET 285 #[.pointer (EN w0 0),Z lo,Z hi] w
   (xY 6 ((Jw w0).No (Fx lo hi (l,v)=none)) (λi f=>∃j,Fx lo hi (l,v)=(i,j)/\(Jw w0).Lv (O9 w0 Ov) (c+1) j w f)):=by
 have d:Fx lo hi (l,v)=none->∀e f,e=EQ 6 0/\DY w0 f->xY 6 ((Jw w0).No (Fx lo hi (l,v)=none)) (λi f=>∃j,Fx lo hi (l,v)=some (i,j)/\(Jw w0).Lv (O9 w0 Ov) (c+1) j w f) e f:=by
  rintro k e f ⟨rfl,g⟩;exact Aj ⟨I,k,g⟩
 match l,h,hl,d with
 |[],h,_,d=>exact(Qp (Xu h Ev)).mono (d rfl)
 |[a],h,_,d=>exact(Qp (Xu h Ev)).mono (d rfl)
 |a :: b :: r,h,hl,d=>
  simp only[A4]at hl;have H:=aT h U;by_cases g:Ht lo hi (E5 a b)<lo\/hi<Ht lo hi (E5 a b)
  .exact(Z2 (Xv a b) g H).mono (d (by simp only[Fx];rw[Ay g]))
  .refine cm (gf (Xv a b) I ⟨λh=>g (Aj h),λh=>g (Am h)⟩ U H) ?_;rintro f ⟨o,m,n⟩;refine Am ⟨_,I,(r,v++[(Ht lo hi (E5 a b),⟨#[]⟩)]),by simp only[Fx];rw[Ao g],c+1,O9 w0 o,Ar _,⟨o,m,I,by simp only;omega,?_⟩,n.kept⟩
   grind
theorem oz{c:Nat}(h:RS w0 w l Ov v)(hl:l.length<=490)(C:v<=c)(hc:c<=40000):
  ET 286 #[.pointer (EN w0 0)] w
   (SE 6 ((Jw w0).No (Il (l,v)=none)) (λj=>∃k,Il (l,v)=some k/\(Jw w0).Lv (O9 w0 Ov) (c+1) k w j)):=by
 have d:Il (l,v)=none->∀e j,e=EQ 6 0/\DY w0 j->SE 6 ((Jw w0).No (Il (l,v)=none)) (λj=>∃k,Il (l,v)=some k/\(Jw w0).Lv (O9 w0 Ov) (c+1) k w j) e j:=by
  rintro t e j ⟨rfl,A⟩;exact Aj ⟨I,t,A⟩
 have i:∀m S,Il (l,v)=some (m,v++[(0,S)])->m.length<=490->∀e j,(e=.returned Ep/\∃q,RS w0 j m q (v++[(0,S)])/\Wk w0.heap.size Ov q w j)->SE 6 ((Jw w0).No (Il (l,v)=none)) (λj=>∃k,Il (l,v)=some k/\(Jw w0).Lv (O9 w0 Ov) (c+1) k w j) e j:=by
  rintro m S B x e j ⟨rfl,q,y,z⟩;refine Am ⟨I,_,B,c+1,O9 w0 q,Ar _,⟨q,y,I,x,?_⟩,z.kept⟩
  grind
 match l,h,hl,d,i with
 |[],h,_,d,_=>exact(UF (Xu h Ev)).mono (d rfl)
 |[a],h,_,d,_=>exact(UF (Xu h Ev)).mono (d rfl)
 |a :: b :: r,h,hl,d,i=>
  simp only[A4]at hl;have H:=aT h U;have g:Il (a :: b :: r,v)=if E5 a b<=14/\E5 a b<=r.length then
    (if E5 a b % 2=0 then some (r.drop (E5 a b),v++[(0,str (r.take (E5 a b)))])
     else match r.drop (E5 a b) with
     |p :: m=>if p=0 then some (m,v++[(0,str (r.take (E5 a b)))]) else none
     |[]=>none)
    else none:=rfl
  generalize E5 a b=n at H g;by_cases f:n<=14
  .by_cases o:n<=r.length
   .rw[Ay ⟨f,o⟩]at g;by_cases s:n % 2=0
    .rw[Ay s]at g;exact(gH f o U U s H).mono (i _ _ g (by rw[A9];omega))
    .rw[Ao s]at g;cases hd:r.drop n with
     |nil=>
      rw[hd]at g;have:r.length=n:=by grind [List.length_drop]
      exact(ot f this.symm U U H).mono (d g)
     |cons p m=>
      rw[hd]at g;simp only at g;by_cases u:p=0
      .subst u;rw[Ay rfl]at g;refine(ou f o hd U U U H).mono (i _ _ g ?_)
       grind [List.length_drop]
      .rw[Ao u]at g;exact(ow f o hd u U U H).mono (d g)
   .exact(Z8 f o H).mono (d (by rw[g,Ao (λh=>o h.2)]))
  .exact(gI f H).mono (d (by rw[g,Ao (λh=>f h.1)]))
theorem Uy(w0:Aa):PS (Jw w0) where
 h:=by
  rintro w c x O ⟨d,h,_⟩;exact h.h
 fresh:=by
  rintro w c x O ⟨d,h,rfl,_⟩ k (rfl|hk)
  .exact⟨Ar _,h.rd.lt⟩
  .have:=h.row hk;exact⟨by simp only[Jw];omega,this.2⟩
 go:=by
  rintro w c x O g ⟨d,h,r⟩ f;exact⟨d,h.go f,r⟩
 range:=by
  rintro lo hi ⟨l,v⟩ n i h;simp only[Jw,Fx]at h;split at h
  .split at h
   .cases h
   .rename_i f;cases h;omega
  .cases h
 a:=⟨λ_=>by kernel_rfl,λ_ _=>rfl⟩
 b:=⟨λ_=>by kernel_rfl,λ_ _=>rfl⟩
 number:=by
  rintro w c ⟨l,v⟩ O lo hi ⟨d,h,rfl,hl,e⟩ hc _;exact nZ h hl e hc
 text:=by
  rintro w c ⟨l,v⟩ O ⟨d,h,rfl,hl,e⟩ hc;exact oz h hl e hc
theorem GL{v:Ad}(h:w.ownsRow B e size v n xs)(hB:B'<=B):w.ownsRow B' e size v n xs:=by
 have⟨hl,h⟩:=h;refine⟨hl,?_⟩;rcases h with h|⟨g,cap,a,b,c,r⟩
 .exact Aj h
 .exact Am ⟨g,cap,a,b,U,r⟩
def Row(w:Aa)(B:Nat)(O:Ad)(v:List It):Prop:=w.ownsRow B 73 2 O v.length (flat v)
theorem uN(w:Aa)(f x1:Int)(b:Af)(en c:Nat)(S:Ab)(hn:70<S.size):
  ET 181 #[.agg #[.int .u8 f,Z x1,.slice b en c],.string S] w λe d=>e=EQ 5 0/\DY w d:=by
 have a:=Dx (λw=>Mf S.size w);rw[show decide (70<S.size)=true by simp[hn]]at a;clear hn
 delta ET
 go_in
 go_wp2_with fail
 refine cs (a _) ?_;go_wp2;exact⟨I,I,F9⟩
theorem Q6(w:Aa)(f x1:Int)(b:Af)(en c:Nat)(l:Ac)(hn:¬70<l.length)
  (h:ET 225 #[.agg #[.int .u8 f,Z x1,.slice b en c],.iface 307 (.pointer (DG w 0))] ((w.alloc (Gb f x1 b en c)).alloc (.cells #[.string (str l),Z 6,Dz] 306)) λe d=>e=EQ 6 0/\DY w d):
  ET 181 #[.agg #[.int .u8 f,Z x1,.slice b en c],.string (str l)] w λe d=>e=EQ 6 0/\DY w d:=by
 have⟨a,g⟩:=FU h (λw=>Mf (str l).size w);rw[show decide (70<(str l).size)=false by rw[Er];simp;omega]at g;clear h hn;generalize str l=S at *
 delta ET
 go_in
 go_wp2_with fail
 refine cs (g _) ?_;go_wp2_with fail
 refine cm a λj i=>?_
 go_wp2;exact⟨I,I,i⟩
theorem yU(b:Nat)(w:Aa)(h:EB w b 0 (.string (str []))):D7 155 #[.pointer (Y b 0)] w Ep λa=>w=a:=by
 delta D7
 go_in
 go_wp2
 go_end0
 exact DN
theorem acW(b:Nat)(l:Ac)(w:Aa)(h:EB w b 0 (.string (str l)))(a:EB w b 1 (Z 6))(hl:¬l=[]):ET 155 #[.pointer (Y b 0)] w λe f=>e=EQ 6 0/\w=f:=by
 have c:(0:Int)<((str l).size:Int):=by
  rw[Er];have:=Cg.2 hl;omega
 have d:=Dx (RQ a);clear hl a;generalize str l=S at *
 delta ET
 go_in
 go_wp2_with fail
 refine cs d ?_;go_wp2;exact⟨I,I,I⟩
structure aa1(w w':Aa)(l:Ac)(O:Ad)(v:List It):Prop where
 left:w'.cell? ⟨w.heap.size+1,0,none⟩=some (.string (str l))
 WC:w'.cell? ⟨w.heap.size+1,1,none⟩=some (Z 6)
 out:w'.cell? ⟨w.heap.size+1,2,none⟩=some O
 row:Row w' (w.heap.size+2) O v
 h:Below w.heap.size w w'
theorem nJ(w:Aa)(n x1:Int)(h:Af)(en i:Nat)(l l':Ac)(v:List It)(hn:¬70<l.length)
  (o:D7 225 #[.agg #[.int .u8 n,Z x1,.slice h en i],.iface 307 (.pointer (DG w 0))] ((w.alloc (Gb n x1 h en i)).alloc (.cells #[.string (str l),Z 6,Dz] 306)) Ep λd=>∃O,aa1 w d l' O v):
  ET 181 #[.agg #[.int .u8 n,Z x1,.slice h en i],.string (str l)] w λe d=>(if l'=[] then ∃O,e=.returned O/\Row d (w+2) O v else e=EQ 6 0)/\DY w d:=by
 have⟨c,f⟩:=FU o (λw=>Mf (str l).size w);rw[show decide (70<(str l).size)=false by rw[Er];simp;omega]at f;clear o hn;generalize str l=S at *;by_cases j:l'=[]
 .subst j;simp only[CQ]
  delta ET
  go_in
  go_wp2_with fail
  refine cs (f _) ?_;go_wp2_with fail
  refine cm c ?_;rintro m ⟨O,a⟩;have c1:=a.out;have⟨s,on,t,k⟩:=Ei a.row;subst k;have⟨g,p⟩:=FU (yU (w.heap.size+1) m a.left) a;clear a;go_wp2_with fail
  refine cm g λr b=>?_
  subst b;go_wp2
  go_ret
  exact⟨⟨_,I,p.row⟩,p.h⟩
 .simp only[j,agv]
  delta ET
  go_in
  go_wp2_with fail
  refine cs (f _) ?_;go_wp2_with fail
  refine cm c ?_;rintro m ⟨O,a⟩;have q:=a.h;have g:=Dx (acW (w.heap.size+1) l' m a.left a.WC j);clear a;generalize str l'=S' at *;go_wp2_with fail
  refine cm g λr b=>?_
  subst b;go_wp2;exact⟨I,I,q⟩
def MO(r:Option OJ)(l:Ac):Nat×List It:=if 70<l.length then (5,[]) else match r with
 |none=>(6,[])
 |some (l',v)=>if l'=[] then (0,v) else (6,[])
def qd(B:Nat)(res:Nat×List It)(e:Ending)(w':Aa):Prop:=if res.1=0 then ∃O,e=.returned O/\Row w' B O res.2 else e=EQ res.1 0
theorem pH{s:Ab}(S:Nat->Prop)(x:NP w S (nx s) (s+1) 0 c0 c1 c2)(A:N4 s (s+1) 0)(hd:Pt.Lj (nx s) (s+1) 0<=4):
  ET 181 #[.agg #[c0,c1,c2],.string (str l)] w λe w'=>qd w (MO (Es Fx Il (nx s) (s+1) 0 (l,[])) l) e w'/\DY w w':=by
 obtain⟨⟨x0,rfl⟩,⟨x1,rfl⟩,⟨ea,en,ec,rfl⟩⟩:=GN x;by_cases b:70<l.length
 .refine(uN w x0 x1 ea en ec (str l) (by rw[Er];exact b)).mono ?_;rintro e w' ⟨rfl,hb⟩;refine⟨?_,hb⟩;simp[qd,MO,b]
 .have d:DY w (w.alloc (Gb x0 x1 ea en ec)):=(AA w.heap.size w).alloc (Ar _) _;have o:=GM ⟨d.size,λk _ hl=>d.block k hl⟩ x;have hz:(w.alloc (Gb x0 x1 ea en ec)).heap.size=w.heap.size+1:=Ev;have p:RS (w.alloc (Gb x0 x1 ea en ec)) ((w.alloc (Gb x0 x1 ea en ec)).alloc (.cells #[.string (str l),Z 6,Dz] 306)) l Dz []:=by
   refine⟨?_,F9,AZ _ _ _ _⟩;unfold Rd;exact abR
  have D:10 ^ Pt.Lj (nx s) (s.size+1) 0<=10 ^ 4:=CS Em hd;have f:=VI (Uy (w.alloc (Gb x0 x1 ea en ec))) s (s.size+1) 0 S _ _ _ o A _ 0 (l,[]) _ ⟨_,p,I,by simp only;omega,Ar _⟩ U;have g:(Jw (w.alloc (Gb x0 x1 ea en ec))).Iq=.iface 307 (.pointer (some (DG w 0))):=by
   show Value.iface 307 (.pointer (some ⟨(w.alloc (Gb x0 x1 ea en ec)).heap.size,0,none⟩))=_;rw[hz]
  rw[g]at f;rw[show Es (Jw (w.alloc (Gb x0 x1 ea en ec))).num (Jw (w.alloc (Gb x0 x1 ea en ec))).a (nx s) (s.size+1) 0 (l,[])=Es Fx Il (nx s) (s.size+1) 0 (l,[]) from rfl]at f;have hbb:∀w',Below (w.alloc (Gb x0 x1 ea en ec)).heap.size (w.alloc (Gb x0 x1 ea en ec)) w'->DY w w':=λw' h=>d.trans (h.mono U)
  cases hr:Es Fx Il (nx s) (s.size+1) 0 (l,[]) with
  |none=>
   rw[hr]at f;refine(Q6 w x0 x1 ea en ec l b (f.mono ?_)).mono ?_
   .exact acs
   grind [qd,MO]
  |some a=>
   have⟨j,v⟩:=a;rw[hr]at f;have y:D7 225 #[.agg #[.int .u8 x0,Z x1,.slice ea en ec],.iface 307 (.pointer (some (DG w 0)))] ((w.alloc (Gb x0 x1 ea en ec)).alloc (.cells #[.string (str l),Z 6,Dz] 306)) Ep λw'=>∃O,aa1 w w' j O v:=by
    refine f.mono ?_;rintro e w' (⟨rfl,hx,_⟩|⟨rfl,x',hx,C,B,_,⟨z,c,_⟩,_⟩)
    .cases hx
    .cases hx;have q:=c.rd.left;have r:=c.rd.J;have u:=c.rd.WC;have t:=c.own;rw[hz]at q r t u;exact⟨I,z,q,u,r,t,hbb w' c.h⟩
   refine(nJ w x0 x1 ea en ec l j v b y).mono ?_;rintro e w' ⟨n,hb⟩;refine⟨?_,hb⟩;by_cases m:j=[]
   .rw[Ay m]at n;obtain⟨O,rfl,i⟩:=n;have:MO (some (j,v)) l=(0,v):=by simp[MO,b,m]
    rw[this];exact⟨O,I,GL i U⟩
   .rw[Ao m]at n;subst n;have:MO (some (j,v)) l=(6,[]):=by simp[MO,b,m]
    rw[this];rfl
def I8(s:Ab)(l:Ac):Nat×List It:=if (Pt.O7 (nx s) s).1=0 then MO (Es Fx Il (nx s) (s+1) 0 (l,[])) l else ((Pt.O7 (nx s) s).1,[])
theorem My(w:Aa)(B:Nat):Row w B Dz []:=AZ _ _ _ _
end V
namespace R
def JS(w:Wd)(client line:Int):Wd:=Eh w client line {Ia w client line with C:=w.c.c,e:=w.c.e}
def LP(w:Wd)(client:Int)(p:Pk):Wd:=
 let l:=Ia w client p.H
 E9 w (-1) ⟨6,client,Qj w client,p.H,l.a,l.c,p.Ez,p.off,false,[]⟩
def IL(w:Wd)(client:Int)(p:Pk):Wd:=
 let l:=Ia w client p.H
 let n:=DL l.b
 if l.X<n-1\/l.f<p.Ez then w
 else if p.Ez=l.f then
  if l.f+1=p.off then Eh w client p.H {l with H:=l.H++p.d,f:=l.f+1,X:=n,D:=(V.I8 l.to (l.H++p.d)).2,d:=2}
  else JS (LP (Eh w client p.H {l with H:=l.H++p.d,f:=l.f+1,X:=n}) client p) client p.H
 else LP w client p
def Kl(w:Wd)(client:Int)(p:Pk):Wd:=
 let l:=Ia w client p.H
 if l.d≠1\/p.b≠Qj w client\/p.a≠l.a then w
 else if p.J=2 then
  if p.Ez=l.X then
   let w1:=Eh w client p.H {l with X:=l.X+1}
   JS (if l.X+1<DL l.b then EG w1 client p.H false else w1) client p.H
  else w
 else if p.J=4 then JS w client p.H
 else if p.J=5 then IL w client p
 else if p.J=7 then Eh w client p.H {l with d:=4+p.Ez}
 else w
def G8(w:Wd)(p:Pk)(kind k of':Int):Wd:=E9 w p.f ⟨kind,p.f,p.b,p.H,p.a,p.c,k,of',false,[]⟩
def JF(w:Wd)(i:Nat):Wd:=
 let w1:=Ex w i
 let r:=EZ w1 i
 EA w1 i {r with g:=decide (8*r.at'+8<r.D),C:=w.c.c,e:=w.c.e}
def Js(w:Wd)(uid:Int):Bool:=decide (1<=uid)&&((w.a[(uid-1).toNat]?).map (·.T)).getD false
def FE(w:Wd):Nat:=(w.J.filter λr=>decide (0<r.a))
def Mi(w:Wd)(p:Pk):Wd:=if p.e=true then G8 w p 2 p.Ez p.off else w
def Gy(w:Wd)(i:Nat)(p:Pk):Wd:=
 let r:=EZ w i
 if p.Ez=r.f then
  if p.Ez=p.off-1 then
   if w.c.d<=w.d then w
   else Mi {EA w i {r with d:=2,b:=r.b++p.d,f:=r.f+1} with d:=w.d++[⟨p.f,p.H,p.b,p.a,p.c⟩]} p
  else Mi (EA w i {r with b:=r.b++p.d,f:=r.f+1}) p
 else Mi w p
def Hl(w:Wd)(i:Nat)(p:Pk):Wd:=
 let r:=EZ w i
 if r.d=1 then (if p.J=1/\p.Ez<=r.f then Gy w i p else w)
 else if r.d=4 then G8 w p 7 0 2
 else if p.e=false then w
 else if r.d=3 then JF w i
 else if p.J=3 then G8 w p 4 0 1
 else G8 w p 2 p.Ez p.off
def Ib(w:Wd)(p:Pk):Wd:=
 if (w.C.getD p.f.toNat 0)<p.b then {w with C:=w.C.set p.f.toNat p.b,J:=((w.J.set (3*p.f.toNat) Ic).set (3*p.f.toNat+1) Ic).set (3*p.f.toNat+2) Ic} else w
def N0(w:Wd)(i:Nat)(p:Pk):Wd:=
 let r:=EZ w i
 if p.J=6 then
  if r.a=p.a/\r.d=3/\p.off=DL r.D/\p.Ez=r.at'/\r.at'<DL r.D-1 then JF (EA w i {r with at':=r.at'+1}) i else w
 else if r.a=p.a then Hl w i p
 else if p.a<r.a then w
 else if Js w p.c=false then G8 w p 7 0 2
 else if p.J=3\/p.Ez≠0 then w
 else if r.a=0/\w.c.d<=(FE w:Int) then G8 w p 7 1 2
 else Hl (EA w i {Ic with a:=p.a,c:=p.c,d:=1}) i p
def KB(w:Wd)(p:Pk):Wd:=
 if p.b<w.C.getD p.f.toNat 0 then w else N0 (Ib w p) (3*p.f.toNat+p.H.toNat) p
def Fv(w:Wd)(i:Int):Int×Wd:=if off w i then (9,w) else match w.D[i.toNat]? with
 |none=>(9,w)
 |some f=>
  let w1:={w with D:=w.D.eraseIdx i.toNat}
  (0,if f.a=true then w1 else match Ih f.s with
   |none=>w1
   |some p=>if f.to=-1 then KB w1 p else Kl w1 f.to p)
def IJ(v:List It)(k:Nat):Int:=((v[k]?).map (·.1)).getD 0
def Tt(v:List It)(k:Nat):ByteArray:=((v[k]?).map (·.2)).getD ⟨#[]⟩
def Fh:List En->Int->Int
 |[],n=>n
 |e :: es,n=>Fh es (if e.g=0 then (n+IJ e.arg 0+65536) % 65536 else if IJ e.arg 0=1 then 0 else n)
def Fe(l:List En):List ByteArray:=
 let out:=(l.filter λe=>decide (e.g=0)).map λe=>Tt e.arg 0
 out.drop (out-4)
def I6:List En->Int->List It->List It
 |[],_,was=>was
 |e :: es,d,was=>I6 es d (if IJ e.arg 0=d then e.arg.drop 2 else was)
def num(n:Int):It:=(n,⟨#[]⟩)
def Hw(kind:Int)(l:List En)(proc:Int)(arg:List It):List It:=
 if kind=0 then [num (if proc=0 then (Fh l 0+IJ arg 0+65536) % 65536 else Fh l 0)]
 else if kind=1 then
  if proc=0 then [num (min 4 (((Fe l):Int)+1))]
  else let b:=(Fe l).take (IJ arg 0).toNat;num b :: b.map λs=>(0,s)
 else
  let was:=I6 l (IJ arg 0) []
  if was.length=0 then [num 0,num 0] else num 1 :: num was :: was
def Oa(w:Wd)(i:Nat):Wd:=
 let r:=EZ w i
 let k:=(r.c-1).toNat
 let s:=(w.a[k]?).getD ⟨0,false,[]⟩
 let proc:=256*((r.b.getD 0 0).toNat:Int)+((r.b.getD 1 0).toNat:Int)
 let t:=(IY s.J proc).getD (⟨#[]⟩,⟨#[]⟩)
 let arg:=(V.I8 t.1 (r.b.drop 2)).2
 let out:=Hw s.J s.log proc arg
 let w1:={w with a:=w.a.set k {s with log:=s.log++[⟨((i / 3:Nat):Int),w.C.getD (i / 3) 0,((i % 3:Nat):Int),r.a,proc,arg,out⟩]}}
 JF (EA w1 i {r with d:=3,D:=(Fi t.2 out).getD [],at':=0}) i
def Km(w:Wd)(j:Jb):Prop:=(EZ w (3*j.f.toNat+j.H.toNat)).d=2/\(EZ w (3*j.f.toNat+j.H.toNat)).a=j.a/\w.C.getD j.f.toNat 0=j.b
instance (w:Wd) (j:Jb):Decidable (Km w j):=by unfold Km;infer_instance
def Hy(w:Wd):List Jb->Int×Wd
 |[]=>(19,{w with d:=[]})
 |j :: js=>if Km w j then (0,Oa {w with d:=js} (3*j.f.toNat+j.H.toNat)) else Hy w js
def FQ(w:Wd):Int×Wd:=Hy w w.d
def LY(w:Wd)(uid:Int):Prop:=1<=uid/\uid<=w.a
instance (w:Wd) (uid:Int):Decidable (LY w uid):=by unfold LY;infer_instance
def Ol(w:Wd)(uid:Int):List En:=((w.a[(uid-1).toNat]?).map (·.log)).getD []
def MJ(w:Wd)(uid:Int):Int×Int:=if LY w uid then ((Ol w uid),0) else (0,9)
def Fq(w:Wd)(uid k:Int):Option En:=if LY w uid/\0<=k then (Ol w uid)[k.toNat]? else none
end R
namespace V
variable {s:ByteArray}{hi lo:Int}{x:It}{k0 k1 k2 ks:List Bool}{r r0 v:List It}{qs:List Nat}{f p q:Nat}{E:Nat→List It→GB}{g:Nat→Nat}
def Jf(x:OJ):Option OJ:=match x.1 with
 |a :: c :: r=>if E5 a c<=14/\E5 a c+E5 a c % 2<=r.length then some (r.drop (E5 a c+E5 a c % 2),x.2++[(0,str (r.take (E5 a c)))]) else none
 |_=>none
structure Two(E:List It->GB)(G:OJ->Option OJ)(l:Ac)(it:List It)(l':Ac)(it':List It)(v:List It)(ks:List Bool)(pre:Ac):Prop where
 J:it'=it++v
 bytes:l=pre++l'
 a:∀rest,E (v++rest)=some (ks,rest)
 same:ks.length=v.length
 len:pre.length=(Et ks v).length
 back:G (l,it)=if pre=Et ks v then some (l',it') else none
def kE(E:List It->GB)(F G:OJ->Option OJ):Prop:=∀l it,(F (l,it)=none->G (l,it)=none)/\∀l' it',F (l,it)=some (l',it')->∃v ks pre,Two E G l it l' it' v ks pre
theorem Vg:∀(a:List Bool) (v u:List It),a=v.length->Et a (v++u)=Et a v:=by
 intro a;induction a with
 |nil=>intro v u _;simp[Et]
 |cons k a ih=>
  intro v u h;cases v with
  |nil=>simp at h
  |cons x v=>
   simp only[BB,Et];rw[ih v u (by simpa using h)]
theorem tF{F G:Nat->OJ->Option OJ}:∀b,(∀q∈b,kE (E q) (F q) (G q))->kE (E6 E b) (Gt F b) (Gt G b):=by
 intro b;induction b with
 |nil=>
  intro _ l it;refine⟨λh=>by simp[Gt]at h,λj c h=>?_⟩;simp only[Gt,Option.some.injEq,Prod.mk.injEq]at h;obtain⟨rfl,rfl⟩:=h;exact⟨[],[],[],Ev,Ev,λrest=>rfl,I,I,by simp[Gt,Et]⟩
 |cons q b ih=>
  intro o l it;have k:=o q (Co ..) l it;simp only[Gt];cases hF:F q (l,it) with
  |none=>exact⟨λ_=>by rw[k.1 hF];rfl,λj c h=>by simp at h⟩
  |some x1=>
   have⟨l1,d⟩:=x1;have⟨g,f,p,a⟩:=k.2 l1 d hF;have m:=(ih (λs h=>o s (BQ _ h))) l1 d;refine⟨λh=>?_,λj c h=>?_⟩
   .rw[a.back];split
    .exact m.1 h
    .rfl
   .have⟨i,k2,r,e⟩:=m.2 j c h;have n:Et (f++k2) (g++i)=Et f g++Et k2 i:=by
     rw[LM _ _ _ (by rw[AJ,a.same];omega),a.same,List.drop_left];rw[Vg f g i a.same]
    refine⟨g++i,f++k2,p++r,by rw[e.J,a.J,Bs],by rw[a.bytes,e.bytes,Bs],λrest=>?_,by simp[a.same,e.same],by rw[n,AJ,AJ,a.len,e.len],?_⟩
    .simp only[E6,Bs,a.a,e.a,Gu]
    .rw[a.back,n];by_cases e1:p=Et f g
     .rw[Ay e1];show Gt G b (l1,d)=_;rw[e.back];by_cases e2:r=Et k2 i
      .rw[Ay e2,Ay (by rw[e1,e2])]
      .rw[Ao e2,Ao (λh=>e2 (List.append_inj h a.len).2)]
     .rw[Ao e1,Ao (λh=>e1 (List.append_inj h a.len).1)];rfl
theorem Ww(a c:UInt8)t(h:t=(E5 a c:Int)\/t=(E5 a c:Int)-65536):EU t=[a,c]:=by
 have b:=a.toNat_lt;have hc:=c.toNat_lt;unfold E5 at h;have e1:t % 65536 / 256=(a.toNat:Int):=U;have e2:t % 256=(c.toNat:Int):=U;unfold EU;rw[e1,e2];simp[b8]
theorem pE(lo hi n:Int):Ht lo hi n=n\/Ht lo hi n=n-65536:=by
 unfold Ht;split
 .exact Am I
 .exact Aj I
theorem tC(E:List It->GB)(j:Int->List It->GB)(F G:Int->OJ->Option OJ)
  (n:∀t rest,lo<=t->t<=hi->E ((t,⟨#[]⟩) :: rest)=Gu [false] (j t rest))
  (h:∀t,lo<=t->t<=hi->kE (j t) (F t) (G t)):
  kE E (λx=>(Fx lo hi x).bind λr=>F r.1 r.2) (λx=>(Fx lo hi x).bind λr=>G r.1 r.2):=by
 intro l it;match l with
 |[]=>exact⟨λ_=>rfl,λg b h=>by simp[Fx]at h⟩
 |[a]=>exact⟨λ_=>rfl,λg b h=>by simp[Fx]at h⟩
 |a :: c :: r=>
  have d:Fx lo hi (a :: c :: r,it)=if Ht lo hi (E5 a c)<lo\/hi<Ht lo hi (E5 a c) then none else some (Ht lo hi (E5 a c),(r,it++[(Ht lo hi (E5 a c),⟨#[]⟩)])):=rfl
  have m:=Ww a c (Ht lo hi (E5 a c)) (pE lo hi _);generalize Ht lo hi (E5 a c)=t at d m;by_cases k:t<lo\/hi<t
  .rw[Ay k]at d;simp only[d];exact⟨λ_=>rfl,λ_ _ h=>by simp at h⟩
  .rw[Ao k]at d;simp only[d,Di];have⟨p,q⟩:=h t U U r (it++[(t,⟨#[]⟩)]);refine⟨p,λg b o=>?_⟩;have⟨v,f,i,T⟩:=q g b o;have e:Et (false :: f) ((t,⟨#[]⟩) :: v)=a :: c :: Et f v:=by simp[Et,KL,m]
   refine⟨(t,⟨#[]⟩) :: v,false :: f,a :: c :: i,by rw[T.J,Bs];rfl,by rw[T.bytes];rfl,λrest=>?_,by simp[T.same],by rw[e];simp[T.len],?_⟩
   .rw[BB,n t _ U U,T.a];rfl
   .rw[e];simp only[d,Di];rw[T.back];simp
theorem tG(E:List It->GB)(s:∀x rest,x.1=0->x.2.size<=14->E (x :: rest)=([true],rest)):kE E Jf Il:=by
 intro l it;match l with
 |[]=>exact⟨λ_=>rfl,λo b h=>by simp[Jf]at h⟩
 |[a]=>exact⟨λ_=>rfl,λo b h=>by simp[Jf]at h⟩
 |a :: c :: r=>
  have d:Jf (a :: c :: r,it)=if E5 a c<=14/\E5 a c+E5 a c % 2<=r.length then some (r.drop (E5 a c+E5 a c % 2),it++[(0,str (r.take (E5 a c)))]) else none:=rfl
  have e:Il (a :: c :: r,it)=if E5 a c<=14/\E5 a c<=r.length then
   (if E5 a c % 2=0 then some (r.drop (E5 a c),it++[(0,str (r.take (E5 a c)))])
    else match r.drop (E5 a c) with
    |p :: r'=>if p=0 then some (r',it++[(0,str (r.take (E5 a c)))]) else none
    |[]=>none)
   else none:=rfl
  have v:=Ww a c (E5 a c) (Aj I);generalize E5 a c=n at d e v;by_cases h:n<=14/\n+n % 2<=r.length
  .rw[Ay h]at d;rw[Ay ⟨h.1,U⟩]at e;refine⟨λh=>(by rw[d]at h;cases h),λo b k=>?_⟩;rw[d]at k;cases k;have f:(str (r.take n)).size=n:=by grind [Er]
   have t:Et [true] [(0,str (r.take n))]=a :: c :: (r.take n++if n % 2=1 then [0] else []):=by grind [Et,KL]
   refine⟨[(0,str (r.take n))],[true],a :: c :: r.take (n+n % 2),I,by simp[List.take_append_drop],λrest=>s _ rest I (by rw[f];exact h.1),I,?_,?_⟩
   .grind
   .rw[e,t];by_cases m:n % 2=0
    .simp[m]
    .have q:n % 2=1:=U;rw[Ao m];cases hd:r.drop n with
     |nil=>grind
     |cons p r'=>
      have FU:r.drop (n+1)=r':=by rw[<-CF,hd];rfl
      have u:r[n]?=some p:=by
       have:=Cn (xs:=r) (i:=n) (j:=0)
       grind
      have g:r.take (n+1)=r.take n++[p]:=by
       rw[Bh,u];rfl
      rw[q,FU,g];simp
  grind [List.drop_of_length_le]
def Ir(g:Nat->Nat)(f p:Nat)(t:Int):List Nat:=if g p=117 then [Gj (Pt.EW g f p) t] else if g p=113 then List.replicate t.toNat (p+2) else []
theorem KR{σ:Type}(num:Int->Int->σ->Option (Int×σ))(IE:σ->Option σ)(g:Nat->Nat)(f p:Nat)(a:¬g p=115)(b:¬g p=97)(c:¬g p=114):
  Es num IE g (f+1) p=λx=>(num (FZ (g p)) (FD g f p) x).bind λr=>Gt (Es num IE g f) (Ir g f p r.1) r.2:=by
 funext x;simp only[Es,Ao a,Ao b,Ao c,Ir];congr 1;funext r;split
 .simp only[Gt]
  grind
 .split
  .rfl
  .rfl
theorem tv(g:Nat->Nat):∀f p,kE (Hg g f p) (Es Fx Jf g f p) (Es Fx Il g f p):=by
 intro f;induction f with
 |zero=>intro p l it;exact⟨λ_=>rfl,λ_ _ h=>by simp[Es]at h⟩
 |succ f ih=>
  intro p;have c:=λj=>tF (E:=Hg g f) (F:=Es Fx Jf g f) (G:=Es Fx Il g f) j (λq _=>ih q)
  by_cases a:g p=115
  .have e1:Es Fx Jf g (f+1) p=Jf:=by funext x;simp[Es,a]
   have e2:Es Fx Il g (f+1) p=Il:=by funext x;simp[Es,a]
   rw[e1,e2];refine tG _ λx rest d b=>?_
   have hh:EO g f p (x :: rest)=some ([true],[],rest):=by simp[EO,a,d,b]
   rw[H9 hh];rfl
  .by_cases ha:g p=97
   .have e1:∀IE,Es Fx IE g (f+1) p=Gt (Es Fx IE g f) (List.replicate (g (p+1)-48) (p+2)):=by intro IE;funext x;simp[Es,ha]
    have e2:Hg g (f+1) p=E6 (Hg g f) (List.replicate (g (p+1)-48) (p+2)):=by
     exact abN
    rw[e1,e1,e2];exact c _
   .by_cases hr:g p=114
    .have e1:∀IE,Es Fx IE g (f+1) p=Gt (Es Fx IE g f) (Pt.EW g f p):=by intro IE;funext x;simp[Es,hr]
     have e2:Hg g (f+1) p=E6 (Hg g f) (Pt.EW g f p):=by
      exact ab3
     rw[e1,e1,e2];exact c _
    .rw[KR _ _ _ _ _ a ha hr,KR _ _ _ _ _ a ha hr];refine tC _ (λt=>E6 (Hg g f) (Ir g f p t)) _ _ (λt rest e i=>?_) λt _ _=>c _
     have hh:EO g f p ((t,⟨#[]⟩) :: rest)=some ([false],Ir g f p t,rest):=by
      simp only[EO,Ao ha,Ao hr,Ao a,Ir];rw[Ay ⟨I,e,i⟩]
     rw[H9 hh]
def D4(E:List It->GB)(G:OJ->Option OJ):Prop:=∀v ks r,E v=some (ks,r)->IK ks v->∀e it,G (Et ks v++e,it)=(e,it++v.take ks)
theorem eP(h:IK (k1++k2) v):IK k1 v:=by grind [IK]
theorem Za(h:IK (k1++k2) v):IK k2 (v.drop k1):=by grind [IK]
theorem zV{G:Nat->OJ->Option OJ}:∀b,(∀q∈b,Mk (E q))->(∀q∈b,D4 (E q) (G q))->D4 (E6 E b) (Gt G b):=by
 intro b;induction b with
 |nil=>grind [D4,E6,Gt,Et]
 |cons q b ih=>
  intro d g v j r h f e it;simp only[E6]at h;cases hE:E q v with
  |none=>rw[hE]at h;cases h
  |some a=>
   have⟨i,c⟩:=a;rw[hE]at h;simp only at h;cases hS:E6 E b c with
   |none=>rw[hS]at h;cases h
   |some a=>
    have⟨k2,k⟩:=a;rw[hS]at h;simp only[Gu,Option.some.injEq,Prod.mk.injEq]at h
    grind [Mk,D4,Gt,LM,eP,Za]
theorem VY(n:Int):∃a c,EU n=[a,c]/\(E5 a c:Int)=n % 65536:=by
 refine⟨_,_,I,?_⟩
 grind [FP,E5]
theorem zW(E:List It->GB)(i:∀v b r,E v=(b,r)->∃x,v=x :: r/\b=[true]/\x.1=0/\x.2.size<=14):D4 E Il:=by
 intro v b r h _ e it;obtain⟨x,rfl,rfl,f,g⟩:=i v b r h;have⟨a,c,j,hn⟩:=VY (x.2.size:Int);have d:E5 a c=x.2.size:=U;have k:Et [true] (x :: r)=a :: c :: (x.2.data.toList++(if x.2.size % 2=1 then [0] else [])):=by grind [Et,KL]
 have hl:x.2.data.toList.length=x.2.size:=Ev;have l:(0,str x.2.data.toList)=x:=by
  have⟨m,x1⟩:=x;simp only at f;subst f;simp
 rw[k];simp only[BB,Il,d]
 grind
theorem zU(w:lo=0\/(lo=-32768/\hi=32767))(E:List It->GB)(o:Int->List It->GB)(G:Int->OJ->Option OJ)
  (q:∀v g r,E v=(g,r)->∃x d b,v=x :: d/\g=false :: b/\x.2.size=0/\lo<=x.1/\x.1<=hi/\o x.1 d=some (b,r)) (h:∀t,D4 (o t) (G t)):
  D4 E (λx=>(Fx lo hi x).bind λr=>G r.1 r.2):=by
 intro v g r l p e it;obtain⟨x,d,b,rfl,rfl,f,z,u,j⟩:=q v g r l;have⟨a,c,n,hn⟩:=VY x.1;have D:=(p 0 false x I I).2 I;have A:Ht lo hi (E5 a c)=x.1:=by grind [Ht]
 have s:Et (false :: b) (x :: d)=a :: c :: Et b d:=by
  simp[Et,KL,n]
 have B:(x.1,(⟨#[]⟩:Ab))=x:=by
  have⟨F,x1⟩:=x;simp only at f;have:x1=⟨#[]⟩:=by
   apply CJ;apply Array.eq_empty_of_size_eq_zero;exact f
  rw[this]
 rw[s];simp only[BB,Fx,A];rw[Ao U,B];simp only[Di];have m:IK b d:=λi k y hk C=>p (i+1) k y (by simpa using hk) (by simpa using C)
 rw[h x.1 d b r j m e (it++[x])];simp
theorem zT(g:Nat->Nat):∀f p,D4 (Hg g f p) (Es Fx Il g f p):=by
 intro f;induction f with
 |zero=>intro p v e r h;simp[Hg]at h
 |succ f ih=>
  intro p;have c:=λj=>zV (E:=Hg g f) (G:=Es Fx Il g f) j (λq _=>Hs g f q) (λq _=>ih q)
  by_cases ha:g p=97
  .have e1:Es Fx Il g (f+1) p=Gt (Es Fx Il g f) (List.replicate (g (p+1)-48) (p+2)):=by funext x;simp[Es,ha]
   have e2:Hg g (f+1) p=E6 (Hg g f) (List.replicate (g (p+1)-48) (p+2)):=by
    exact abN
   rw[e1,e2];exact c _
  .by_cases hr:g p=114
   .have e1:Es Fx Il g (f+1) p=Gt (Es Fx Il g f) (Pt.EW g f p):=by funext x;simp[Es,hr]
    have e2:Hg g (f+1) p=E6 (Hg g f) (Pt.EW g f p):=by
     exact ab3
    rw[e1,e2];exact c _
   .by_cases d:g p=115
    .have e1:Es Fx Il g (f+1) p=Il:=by funext x;simp[Es,d]
     rw[e1];refine zW _ λv e r h=>?_
     cases v with
     |nil=>simp[Hg,EO,ha,hr]at h
     |cons x v=>grind [Hg,E6,EO,Gu]
    .rw[KR _ _ _ _ _ d ha hr];have b:FZ (g p)=0\/(FZ (g p)=-32768/\FD g f p=32767):=by grind [FZ,FD]
     refine zU b _ (λt=>E6 (Hg g f) (Ir g f p t)) (λt=>Gt (Es Fx Il g f) (Ir g f p t)) (λv e r h=>?_) λt=>c _
     cases v with
     |nil=>simp[Hg,EO,ha,hr]at h
     |cons x v=>
      by_cases i:x.2.size=0/\FZ (g p)<=x.1/\x.1<=FD g f p
      .have hh:EO g f p (x :: v)=some ([false],Ir g f p x.1,v):=by grind [EO,Ir]
       rw[H9 hh]at h;cases hS:E6 (Hg g f) (Ir g f p x.1) v with
       |none=>rw[hS]at h;cases h
       |some a=>grind [Gu]
      grind [EO,La]
def Ext(G:OJ->Option OJ):Prop:=∀l it l' it',G (l,it)=(l',it')->∀e,G (l++e,it)=some (l'++e,it')
theorem jC{G:Nat->OJ->Option OJ}:∀c,(∀q∈c,Ext (G q))->Ext (Gt G c):=by
 intro c;induction c with
 |nil=>grind [Ext,Gt]
 |cons q c ih=>
  intro f l it i d h e;simp only[Gt]at h ⊢;cases hG:G q (l,it) with
  |none=>rw[hG]at h;cases h
  |some a=>
   have⟨l1,b⟩:=a;rw[hG]at h;rw[f q (Co ..) l it l1 b hG e];exact ih (λj g=>f j (BQ _ g)) l1 b i d h e
theorem yW(G:Int->OJ->Option OJ)(h:∀t,Ext (G t)):Ext (λx=>(Fx lo hi x).bind λr=>G r.1 r.2):=by
 intro l it f d b e;match l with
 |[]=>simp[Fx]at b
 |[a]=>simp[Fx]at b
 |a :: c :: r=>grind [Ext,Fx]
theorem yX:Ext Il:=by
 intro l it f d b e;match l with
 |[]=>simp[Il]at b
 |[a]=>simp[Il]at b
 |a :: c :: r=>
  simp only[Il,BB]at b ⊢
  grind
theorem yV(g:Nat->Nat):∀f p,Ext (Es Fx Il g f p):=by
 intro f;induction f with
 |zero=>intro p l it j d h;simp[Es]at h
 |succ f ih=>
  intro p;have i:=λe=>jC (G:=Es Fx Il g f) e (λq _=>ih q)
  by_cases c:g p=115
  .exact wF
  .by_cases a:g p=97
   .exact wF
   .by_cases b:g p=114
    .exact wF
    .rw[KR _ _ _ _ _ c a b];exact yW _ λt=>i _
theorem aaV(s:Ab)(v:List It)(c:List Bool)(hc:(Pt.O7 (nx s) s).1=0)(o:Hg (nx s) (s+1) 0 v=some (c,[]))(k:Vz c v)(hl:(Et c v).length<=70):
  I8 s (Et c v)=(0,v)/\(∀l b,Et c v=l++[b]->I8 s l=(6,[]))/\I8 s (Et c v++[0])=(if (Et c v).length=70 then 5 else 6,[]):=by
 have d:=λe=>zT (nx s) (s.size+1) 0 v c [] o k.2 e []
 have i:v.take c.length=v:=A7 (by rw[k.1];exact Ar _);simp only[i,Cc]at d;have n:=yV (nx s) (s.size+1) 0;have t:¬70<(Et c v).length:=U;refine⟨?_,λl b f=>?_,?_⟩
 .have h:=d []
  grind [I8,MO]
 .have g:¬70<l.length:=by grind
  simp only[I8,hc,CQ,MO,Ao g];cases hr:Es Fx Il (nx s) (s.size+1) 0 (l,[]) with
  |none=>rfl
  |some a=>
   have⟨p,q⟩:=a;by_cases j:p=[]
   .subst j;have m:=n l [] [] q hr [b];rw[<-f]at m;have r:=d []
    grind
   .simp[j]
 grind [I8,MO]
theorem JO(h:(Jk s v).1=0):(Pt.O7 (nx s) s).1=0/\∃a,Hg (nx s) (s+1) 0 v=some (a,[])/\(Jk s v).2=Et a v/\(Et a v).length<=70:=by
 unfold Jk at h ⊢;split at h
 .rename_i hc;rw[Ay hc];refine⟨hc,?_⟩;unfold Sw at h ⊢
  grind
 .rename_i hc;exact absurd h hc
theorem jP(h:(Jk s v).1=0):(Jk s v).2.length<=70:=by grind [Jk,JO]
theorem iL(h:(Jk s v).1=0):I8 s (Jk s v).2=(0,v):=by
 have⟨hc,f,a,c,d⟩:=JO h;have⟨b,e⟩:=Hs _ _ _ _ _ _ a;have⟨s1,s2⟩:=QO s _ _ (Nw hc).ok _ _ _ a
 grind [List.length_drop,aaV,Ue]
theorem zx(hc:(Pt.O7 (nx s) s).1=0)(b:Hg (nx s) (s+1) 0 v=some (ks,[]))(a:(Et ks v).length<=70):Jk s v=(0,Et ks v):=by grind [Jk,Sw]
theorem Xa(h:EO g f p v=(k0,qs,r0))(a:E6 (Hg g f) qs r0=(k1,r)):Hg g (f+1) p v=(k0++k1,r):=by
 simp only[Hg];rw[h];simp only;rw[a];rfl
theorem QP(h:Hg g (f+1) p v=(ks,r)):∃k0 a b c,EO g f p v=(k0,a,b)/\E6 (Hg g f) a b=(c,r)/\ks=k0++c:=by
 simp only[Hg]at h;cases hh:EO g f p v with
 |none=>rw[hh]at h;cases h
 |some e=>
  have⟨k0,a,b⟩:=e;rw[hh]at h;simp only at h;cases hs:E6 (Hg g f) a b with
  |none=>rw[hs]at h;cases h
  |some e2=>grind [Gu]
theorem Oi(c:g p≠97)(a:g p≠114)(b:g p≠115)(d:x.2.size=0/\FZ (g p)<=x.1/\x.1<=FD g f p):EO g f p (x :: r)=([false],(if g p=117 then [Gj (Pt.EW g f p) x.1] else if g p=113 then List.replicate x.1.toNat (p+2) else []),r):=by grind [EO]
theorem Qf(h:EO g f p v=(k0,qs,r))(c:g p≠97)(a:g p≠114)(b:g p≠115):∃x,v=x :: r/\k0=[false]/\(x.2.size=0/\FZ (g p)<=x.1/\x.1<=FD g f p)/\qs=(if g p=117 then [Gj (Pt.EW g f p) x.1] else if g p=113 then List.replicate x.1.toNat (p+2) else []):=by
 unfold EO at h
 grind
theorem Xb(e:g p≠97)(b:g p≠114)(c:g p≠115)(d:g p≠117)(a:g p≠113)(h:x.2.size=0/\FZ (g p)<=x.1/\x.1<=FD g f p):Hg g (f+1) p (x :: r)=([false],r):=by grind [Hg,Oi,E6,Gu]
theorem Ob(h:Hg g (f+1) p v=(ks,r))(e:g p≠97)(b:g p≠114)(c:g p≠115)(d:g p≠117)(a:g p≠113):∃x,v=x :: r/\ks=[false]/\x.2.size=0/\FZ (g p)<=x.1/\x.1<=FD g f p:=by grind [Hg,Qf,E6,Gu]
theorem XP{P:It->Prop}{b:Bool}(a:∀x r,P x->E q (x :: r)=some ([b],r)):∀(v:List It),(∀x∈v,P x)->E6 E (List.replicate v.length q) v=some (List.replicate v.length b,[])
 |[],_=>rfl
 |x :: v,h=>by
  simp only[A4,BV,E6];rw[a x v (h x Ev)];simp only;rw[XP a v (λy c=>h y (by simp[c]))];rfl
theorem RY{P:It->Prop}(f:∀v r b,E q v=some (b,r)->∃x,v=x :: r/\b=[false]/\P x):∀(k:Nat) (v r:List It) (b:List Bool),E6 E (List.replicate k q) v=some (b,r)->∃a,v=a++r/\a.length=k/\∀x∈a,P x
 |0,v,r,b,h=>by
  simp[E6]at h;exact⟨[],by simp[h.2],rfl,Ev⟩
 |k+1,v,r,b,h=>by
  simp only[BV,E6]at h;cases hq:E q v with
  |none=>rw[hq]at h;cases h
  |some e=>
   have⟨n,d⟩:=e;rw[hq]at h;simp only at h;have⟨x,l,_,m⟩:=f v d n hq;cases hs:E6 E (List.replicate k q) d with
   |none=>rw[hs]at h;cases h
   |some e2=>
    have⟨k2,o⟩:=e2;rw[hs]at h;simp only[Gu,Option.some.injEq,Prod.mk.injEq]at h;have⟨a,g,i,j⟩:=RY f k d o k2 hs;refine⟨x :: a,by rw[l,g,<-h.2];rfl,by simp[i],λy c=>?_⟩;rcases CX.1 c with rfl|c
    .exact m
    .exact j y c
theorem TC:∀(v:List It),(∀x∈v,x.2.size<=14)->(Et (List.replicate v.length true) v).length<=16*v.length
 |[],_=>by simp[Et]
 |x :: v,h=>by
  have c:=TC v (λy a=>h y (by simp[a]));have b:=h x Ev;simp only[A4,BV,Et,AJ];have:(KL true x).length<=16:=by
   simp only[KL,CQ];split<;>simp[EU]<;>omega
  omega
theorem RD:∀(v:List It),(Et (List.replicate v.length false) v).length<=2*v.length
 |[]=>by simp[Et]
 |x :: v=>by
  have a:=RD v;simp only[A4,BV,Et,AJ];have:(KL false x).length<=2:=by simp[KL,EU]
  omega
end V
namespace R
open V
variable {f t:ByteArray}{c:Cl}{e e':En}{kind life proc u:Int}{arg v:List It}{a b:List Sv}{bs name rb rb':List UInt8}{l l':Ln}{i k:Nat}{p:Pk}{r r':Sn}{s:Sv}{G:Wd}
theorem JK(h:Fi t v=bs):(V.Jk t v).1=0:=by
 unfold Fi at h
 grind
theorem QM{a:List Bool}(hc:(Pt.O7 (nx t) t).1=0)(c:Hg (nx t) (t+1) 0 v=some (a,[]))(b:(Et a v).length<=70):Fi t v=Et a v:=by
 unfold Fi;rw[zx hc c b];rfl
def MW(lo hi:Int)(x:It):Prop:=x.2.size=0/\lo<=x.1/\x.1<=hi
theorem Ug(h:Fi t v=bs)(e:nx t 0≠97)(b:nx t 0≠114)(c:nx t 0≠115)(d:nx t 0≠117)(a:nx t 0≠113):∃x,v=[x]/\MW (FZ (nx t 0)) (FD (nx t) t 0) x:=by
 have⟨_,j,i,_⟩:=JO (JK h);have⟨x,f,_,g⟩:=Ob i e b c d a;exact⟨x,f,g⟩
theorem qF(h:Fi (IE [105]) v=bs):∃x,v=[x]/\MW (-32768) 32767 x:=by
 have:=Ug h Kx Kx Kx Kx Kx
 rwa [show FZ (nx (IE [105]) 0)=-32768 by decide +kernel,show FD (nx (IE [105])) (IE [105]).size 0=32767 by decide +kernel]at this
theorem qD(h:Fi (IE [98]) v=bs):∃x,v=[x]/\MW 0 1 x:=by
 have:=Ug h Kx Kx Kx Kx Kx
 rwa [show FZ (nx (IE [98]) 0)=0 by decide +kernel,show FD (nx (IE [98])) (IE [98]).size 0=1 by decide +kernel]at this
theorem qE(h:Fi (IE [99]) v=bs):∃x,v=[x]/\MW 0 65535 x:=by
 have:=Ug h Kx Kx Kx Kx Kx
 rwa [show FZ (nx (IE [99]) 0)=0 by decide +kernel,show FD (nx (IE [99])) (IE [99]).size 0=65535 by decide +kernel]at this
theorem jf(h:Fi (IE [115]) v=bs):∃x,v=[x]/\x.1=0/\x.2.size<=14:=by
 have⟨_,f,b,_⟩:=JO (JK h);rw[show (IE [115]).size=1 from rfl]at b;have⟨k0,g,i,e,c,d,_⟩:=QP b;unfold EO at c;have a:nx (IE [115]) 0=115:=Kx
 grind [E6]
abbrev K9:ByteArray:=IE [114,40,101,51,113,51,105,41]
theorem rz:nx K9 0=114/\nx K9 2=101/\nx K9 4=113/\nx K9 6=105/\Pt.EW (nx K9) 8 0=[2,4]:=Kx
theorem je(h:Fi K9 v=bs):∃d k a,v=d :: k :: a/\MW 0 2 d/\MW 0 3 k/\a=k.1/\∀x∈a,MW (-32768) 32767 x:=by
 have⟨_,n,b,_⟩:=JO (JK h);have⟨a0,a2,a4,a6,e⟩:=rz;have a7:nx K9 (4+2)=105:=a6;rw[show K9.size+1=8+1 from rfl]at b;have⟨j0,o,p,j1,c,b,_⟩:=QP b;unfold EO at c;rw[Ao U,Ay a0,e]at c;cases c;simp only[E6]at b;cases h1:Hg (nx K9) 8 2 v with
 |none=>rw[h1]at b;cases b
 |some x1=>
  have⟨u,q⟩:=x1;rw[h1]at b;simp only at b;have⟨d,i,_,hd⟩:=Ob (f:=7) h1 U U U U U;rw[show FZ (nx K9 2)=0 by decide +kernel,show FD (nx K9) 7 2=2 by decide +kernel]at hd;cases h2:Hg (nx K9) 8 4 q with
  |none=>rw[h2]at b;cases b
  |some x2=>
   have⟨k2,A⟩:=x2;rw[h2]at b;simp only[Gu]at b;cases b;have⟨k0,y,z,w,j,m,_⟩:=QP (f:=7) h2;have⟨k,g1,g2,g3,g4⟩:=Qf j U U U;rw[Ao U,Ay a4]at g4;subst g4;rw[show FZ (nx K9 4)=0 by decide +kernel,show FD (nx K9) 7 4=3 by decide +kernel]at g3;have⟨a,s,t,g⟩:=RY (P:=MW (-32768) 32767) (λv r n l=>by
    have⟨x,c1,c2,c3⟩:=Ob (f:=6) l U U U U U;rw[show FZ (nx K9 (4+2))=-32768 by decide +kernel,show FD (nx K9) 6 (4+2)=32767 by decide +kernel]at c3;exact⟨x,c1,c2,c3⟩) _ _ _ _ m
   refine⟨d,k,a,?_,hd,g3,?_,g⟩;all_goals grind
theorem ae0{x:It}(h:MW 0 65535 x):∃a,Fi (IE [99]) [x]=some a/\1<=a.length:=by
 have he:Hg (nx (IE [99])) ((IE [99]).size+1) 0 [x]=some ([false],[]):=Xb Kx Kx Kx Kx Kx (by
  rw[show FZ (nx (IE [99]) 0)=0 by decide +kernel,show FD (nx (IE [99])) (IE [99]).size 0=65535 by decide +kernel];exact h)
 exact acj
theorem ae1{l:List ByteArray}(m:l.length<=4)(h:∀s∈l,s.size<=14):∃e,Fi (IE [113,52,115]) (num l :: l.map λs=>(0,s))=some e/\1<=e.length:=by
 have k:nx (IE [113,52,115]) 0=113/\nx (IE [113,52,115]) 2=115:=Kx;have j:Hg (nx (IE [113,52,115])) ((IE [113,52,115]).size+1) 0 (num l.length :: l.map λs=>(0,s))=some (false :: List.replicate l.length true,[]):=by
  rw[show (IE [113,52,115]).size+1=3+1 from rfl];have d:=Oi (g:=nx (IE [113,52,115])) (f:=3) (p:=0) (x:=num l.length) (r:=l.map λs=>((0,s):It)) U U U (by
   rw[show FZ (nx (IE [113,52,115]) 0)=0 by decide +kernel,show FD (nx (IE [113,52,115])) 3 0=4 by decide +kernel];exact⟨I,by simp[num],by simp[num];omega⟩)
  rw[Ao U,Ay k.1,show (num (l.length:Int)).1.toNat=l.length by simp[num]]at d;have:=XP (E:=Hg (nx (IE [113,52,115])) 3) (q:=0+2) (b:=true) (P:=λx=>x.1=0/\x.2.size<=14) (λx r a=>(by grind [Hg,EO,E6,Gu])) (l.map λs=>((0,s):It)) (λx a=>by
   obtain⟨s,c,rfl⟩:=Cy.1 a;exact⟨I,h s c⟩)
  rw[AX]at this;exact Xa d this
 have i:=TC (l.map λs=>((0,s):It)) (λx a=>by
  obtain⟨s,c,rfl⟩:=Cy.1 a;exact h s c)
 rw[AX]at i;have hl:(Et (false :: List.replicate l.length true) (num l.length :: l.map λs=>(0,s))).length=2+(Et (List.replicate l.length true) (l.map λs=>(0,s))).length:=by
  simp[Et,KL,V.EU];omega
 exact⟨_,QM Kx j U,U⟩
abbrev JB:ByteArray:=IE [117,40,98,113,51,105,41]
theorem YC:nx JB 0=117/\nx JB 2=98/\nx JB 3=113/\nx JB 5=105/\Pt.EW (nx JB) 7 0=[2,3]/\FD (nx JB) 7 0=1:=Kx
theorem adx:∃b,Fi JB [num 0,num 0]=some b/\1<=b.length:=by
 have⟨a0,a2,a3,a5,d,c⟩:=YC;have he:Hg (nx JB) (JB.size+1) 0 [num 0,num 0]=some ([false,false],[]):=by
  rw[show JB.size+1=7+1 from rfl];have a:=Oi (g:=nx JB) (f:=7) (p:=0) (x:=num 0) (r:=[num 0]) U U U (by rw[a0,c];exact⟨I,Em,Em⟩);rw[Ay a0,d,show Gj [2,3] (num 0).1=2 by decide +kernel]at a;refine Xa (k1:=[false]) a ?_;simp only[E6];rw[Xb (f:=6) U U U U U (by rw[a2,show FD (nx JB) 6 2=1 by decide +kernel];exact⟨I,Em,Em⟩)];rfl
 exact acj
theorem ady{l:List It}(m:l.length<=3)(h:∀x∈l,MW (-32768) 32767 x):∃d,Fi JB (num 1 :: num l :: l)=some d/\1<=d.length:=by
 have⟨a0,a2,a3,a5,i,e⟩:=YC;have a6:nx JB (3+2)=105:=a5;have j:Hg (nx JB) (JB.size+1) 0 (num 1 :: num l.length :: l)=some (false :: false :: List.replicate l.length false,[]):=by
  rw[show JB.size+1=7+1 from rfl];have c:=Oi (g:=nx JB) (f:=7) (p:=0) (x:=num 1) (r:=num l.length :: l) U U U (by rw[a0,e];exact⟨I,Em,Em⟩);rw[Ay a0,i,show Gj [2,3] (num 1).1=3 by decide +kernel]at c;refine Xa (k1:=false :: List.replicate l.length false) c ?_;simp only[E6];have a:=Oi (g:=nx JB) (f:=6) (p:=3) (x:=num l.length) (r:=l) U U U (by rw[a3,show FD (nx JB) 6 3=3 by decide +kernel];exact⟨I,by simp[num,FZ],by simp[num];omega⟩);rw[Ao U,Ay a3,show (num (l.length:Int)).1.toNat=l.length by simp[num]]at a;have:=XP (E:=Hg (nx JB) 6) (q:=3+2) (b:=false) (P:=MW (-32768) 32767) (λx r k=>Xb (f:=5) U U U U U (by rw[show FZ (nx JB (3+2))=-32768 by decide +kernel,show FD (nx JB) 5 (3+2)=32767 by decide +kernel];exact k)) l h;rw[Xa (f:=6) a this];simp[Gu]
 have n:=RD l;have hl:(Et (false :: false :: List.replicate l.length false) (num 1 :: num l.length :: l)).length=4+(Et (List.replicate l.length false) l).length:=by
  simp[Et,KL,V.EU];omega
 exact⟨_,QM Kx j U,U⟩
theorem MI:∀(l:List En) (n:Int),0<=n/\n<=65535->0<=Fh l n/\Fh l n<=65535
 |[],n,h=>h
 |e :: l,n,h=>by
  simp only[Fh];refine MI l _ ?_;split
  .omega
  .split
   .omega
   .exact h
theorem PK(l:List En):(Fe l).length<=4:=by
 simp only[Fe,A9];omega
theorem ae7(h:IY 1 e.g=(f,t))(a:e.g=0):f=IE [115]:=by
 rw[a]at h;simp[IY]at h;exact h.1.symm
theorem ae6(h:IY 2 proc=(f,t)):f=K9/\t=JB/\proc=0:=by
 unfold IY at h
 grind
abbrev OI(kind:Int)(l:List En):Prop:=∀e∈l,∃f t b,IY kind e.g=some (f,t)/\Fi f e.arg=some b
theorem XA{l:List En}(h:OI 1 l):∀s∈Fe l,s.size<=14:=λs j=>by
 obtain⟨e,a,rfl⟩:=Cy.1 (List.mem_of_mem_drop j);have⟨a,d⟩:=Dn.1 a;have⟨f,t,b,g,c⟩:=h e a;rw[ae7 g (by simpa using d)]at c;have⟨x,k,_,i⟩:=jf c;simp[Tt,k,i]
theorem Nz:∀(l:List En),OI 2 l->∀(d:Int) (c:List It),(c.length<=3/\∀x∈c,MW (-32768) 32767 x)->(I6 l d c).length<=3/\∀x∈I6 l d c,MW (-32768) 32767 x
 |[],_,d,c,h=>h
 |e :: l,hl,d,c,h=>by
  simp only[I6];refine Nz l (λx j=>hl x (by simp[j])) d _ ?_;split
  .have⟨f,t,b,i,g⟩:=hl e Ev;rw[(ae6 i).1]at g;have⟨dd,k,a,g1,g2,g3,g4,g5⟩:=je g;rw[g1];simp only[List.drop_succ_cons,De];have:=g3.2.2;exact⟨U,g5⟩
  .exact h
theorem yP{log:List En}(hs:IY kind proc=(f,t))(g:Fi f arg=bs)(hl:∀e∈log,∃f t b,IY kind e.g=some (f,t)/\Fi f e.arg=some b):∃c,Fi t (Hw kind log proc arg)=some c/\1<=c.length:=by
 have hc:=MI log 0 Em;have d:=PK log;unfold IY at hs;split at hs
 .rename_i h;exact wM
 .split at hs
  .rename_i h;exact wM
  .split at hs
   .rename_i h;exact wM
   .split at hs
    .rename_i h;cases hs;obtain⟨rfl,rfl⟩:=h;exact ae1 (l:=(Fe log).take (IJ arg 0).toNat) (by rw[Bv];omega) (λs hs=>(XA hl) s (CB hs))
    .split at hs
     .rename_i h;cases hs;obtain⟨rfl,rfl⟩:=h;have a:=Nz log hl (IJ arg 0) [] Ev;unfold Hw;simp only;rw[Ao Em,Ao Em];split
      .exact adx
      .exact ady a.1 a.2
     .cases hs
theorem Jp(h:Gi G name=k):G.e[k]?=name:=by grind [Gi,List.findIdx?_eq_some_iff_getElem]
theorem VQ(h:Gi G name=none):name ∉ G.e:=by grind [Gi]
theorem Wf.ends(h:Wf G)uid:Wf (GR G uid):=by
 refine⟨h.cf,h.a,λi c hc=>?_,h.X,h.b,by simpa [GR] using h.sv,λs a=>?_,h.nm,h.st,h.nd,λu hu=>?_⟩
 .have q:=h.cl i c hc;exact⟨q.a,q.b,λu hu=>by simpa [GR] using q.d u hu,q.H⟩
 all_goals grind [Wf,GR,List.mem_iff_getElem?]
theorem Wf.serve(h:Wf G)(hk:0<=kind/\kind<=2)(l:G.a.length<255){nm:List (List UInt8)}{st:List Int}(j:nm.length<=6)(d:st=nm.length)(b:nm.Nodup)(g:∀u∈st,1<=u/\u<=G.a+1):Wf {G with e:=nm,f:=st,a:=G.a++[⟨kind,true,[]⟩]}:=by
 refine⟨h.cf,h.a,λi c hc=>?_,h.X,h.b,by simp only[AJ,CP];omega,λs k=>?_,j,d,b,λu hu=>?_⟩
 .have q:=h.cl i c hc;refine⟨q.a,q.b,λu hu=>?_,q.H⟩;have:=q.d u hu;all_goals grind
 all_goals grind [Wf]
theorem Wf.export(h:Wf G)(name:Ac)kind:Wf (E4 G name kind).2:=by
 unfold E4;split
 .exact h
 .split
  .exact h
  .rename_i hk;split
   .rename_i d;split
    .exact h
    .split
     .exact h
     .rename_i f e;have b:=h.nm;have a:=h.sv;refine h.serve U U (by simp only[AJ,CP];omega) (by simp[h.st]) ?_ (λu hu=>?_);all_goals grind [Wf,VQ]
   .rename_i k d;split
    .exact h
    .rename_i e;have a:=h.sv;have c:=h.ends (G.f.getD k 0);have hl:(GR G (G.f.getD k 0)).a.length=G.a.length:=by simp[GR]
     have:=c.serve (kind:=kind) (nm:=G.e) (st:=G.f.set k ((G.a.length:Int)+1)) U (by rw[hl];omega) h.nm (by rw[BG];exact h.st) h.nd (λu hu=>by
      rw[hl];rcases BJ hu with q|q
      .have:=h.d u q;omega
      .rw[q];omega)
     exact this
theorem Wf.Iy(h:Wf G)(name:Ac):Wf (Fb G name).2:=by
 unfold Fb;split
 .exact h
 .rename_i k b;have a:=h.ends (G.f.getD k 0);refine⟨a.cf,a.a,λi c hc=>⟨(a.cl i c hc).a,(a.cl i c hc).b,(a.cl i c hc).d,(a.cl i c hc).H⟩,a.X,a.b,a.sv,a.e,?_,?_,a.nd.sublist (List.eraseIdx_sublist ..),λu hu=>a.d u (Cj hu)⟩;all_goals grind [Wf]
theorem Wf.imports(h:Wf G)a(name:Ac):Wf (FV G a name).2:=by
 unfold FV;split
 .exact h
 .split
  .exact h
  .rename_i k d;refine⟨h.cf,by simpa using h.a,λi c hc=>?_,h.X,h.b,h.sv,h.e,h.nm,h.st,h.nd,h.d⟩;simp only[Df]at hc;cases hg:G.b[i]? with
   |none=>rw[hg]at hc;cases hc
   |some c0=>
    rw[hg]at hc;have q:=h.cl i c0 hg;have b:=Option.some.inj hc;rw[<-b];split
    .refine⟨q.a,q.b,λu hu=>?_,q.H⟩;rcases Bj.1 hu with r|r
     .exact q.d u r
     .rw[Bg.1 r];have hk:=(Bi.1 (Jp d)).1
      grind [Wf,List.getElem_mem]
    .exact⟨q.a,q.b,q.d,q.H⟩
structure Key where
 f:Int
 b:Int
 H:Int
 a:Int
 deriving DecidableEq
structure Cd where
 c:Int
 g:Int
 arg:List It
 a:ByteArray
 to:ByteArray
 bs:List UInt8
abbrev Bk:=Key->Option Cd
def Cd.h(d:Cd):List UInt8:=EU d.g++d.bs
def JD(p:Pk):Key:=⟨p.f,p.b,p.H,p.a⟩
def Oc(e:En):Key:=⟨e.f,e.b,e.H,e.a⟩
def NQ(sv:List Sv)(u:Int):Int:=((sv[(u-1).toNat]?).map (·.J)).getD 0
def Mj(sv:List Sv)(u:Int):List En:=((sv[(u-1).toNat]?).map (·.log)).getD []
def Jt(sv:List Sv)(u:Int):Bool:=decide (1<=u)&&((sv[(u-1).toNat]?).map (·.T)).getD false
structure R9(sv:List Sv)(d:Cd):Prop where
 c:1<=d.c/\d.c<=(sv.length:Int)
 sig:IY (NQ sv d.c) d.g=some (d.a,d.to)
 bs:Fi d.a d.arg=some d.bs
structure Kz(sv:List Sv)(k:Key)(d:Cd)(e:En)(rb:Ac):Prop where
 mem:e∈Mj sv d.c
 key:Oc e=k
 bytes:Fi d.to e.D=some rb
 pos:1<=rb.length
def Tj(M:Bk)(sv:List Sv)(to:Int)(p:Pk):Prop:=∃d,M (JD p)=some d/\p.c=d.c /\
 ((p.J=1/\to=-1/\p.off=DL d.h/\p.d=EY d.h p.Ez) \/
  (p.J=2/\to=p.f/\p.off=DL d.h) \/
  (p.J=3/\to=-1) \/
  (p.J=4/\to=p.f) \/
  (p.J=5/\to=p.f/\∃e rb,Kz sv (JD p) d e rb/\p.off=DL rb/\p.d=EY rb p.Ez) \/
  (p.J=6/\to=-1) \/
  (p.J=7/\to=p.f/\p.off=2))
def Sc(M:Bk)(sv:List Sv)(f:Fl):Prop:=if f.a=true then Ih f.s=none else ∃p,EC p/\f.s=Gq p/\Tj M sv f.to p
structure JH(M:Bk)(sv:List Sv)(i:Nat)(life:Int)(bound:List Int)(k:Nat)(l:Ln):Prop where
 idle:l.d=0↔l.a=0
 Q:1<=l.a->∃d,M ⟨i,life,k,l.a⟩=some d
 H:l.d=1->∃d,M ⟨i,life,k,l.a⟩=some d/\l.c=d.c/\l.b=d.h/\l.to=d.to/\d.c∈bound/\(0<=l.f/\(l.H.length:Int)=8*l.f)/\(0<l.f->∃e rb,Kz sv ⟨i,life,k,l.a⟩ d e rb/\l.H=rb.take (8*l.f.toNat)/\8*l.f<(rb.length:Int))
 done:l.d=2->∃d e rb,M ⟨i,life,k,l.a⟩=some d/\Kz sv ⟨i,life,k,l.a⟩ d e rb/\l.D=e.D
 none:l.d≠2->l.D=[]
structure LK(M:Bk)(sv:List Sv)(k:Key)(r:Sn)(d:Cd):Prop where
 Q:M k=some d
 c:r.c=d.c
 b:r.d=1->r.b=d.h.take (8*r.f.toNat)/\8*r.f<(d.h.length:Int)
 C:r.d=2->r.b=d.h
 open':r.d=1\/r.d=2->Jt sv d.c=true/\∀e∈Mj sv d.c,Oc e≠k
 h:r.d=3->∃e,Kz sv k d e r.D
structure pZ(M:Bk)(u:Int)(e:En):Prop where
 some:∃d rb,M (Oc e)=some d/\d.c=u/\e.g=d.g/\e.arg=d.arg/\Fi d.to e.D=.some rb/\1<=rb.length
def Told(kind:Int)(l:List En):Prop:=∀i e,l[i]?=some e->e.D=Hw kind (l.take i) e.g e.arg
def Before(a b:En):Prop:=a.f=b.f->a.b=b.b->a.H=b.H->a.a<b.a
structure iX(M:Bk)(u:Int)(s:Sv):Prop where
 each:∀e∈s.log,pZ M u e
 ord:s.log.Pairwise Before
 told:Told s.J s.log
def Vu(seen:List Sn)(client line:Int):Sn:=(seen[3*client.toNat+line.toNat]?).getD Ic
def Vy(lives:List Int)(seen:List Sn)(e:En):Prop:=e.b<lives.getD e.f.toNat 0\/(e.b=lives.getD e.f.toNat 0/\e.a<=(Vu seen e.f e.H).a)
def Oh(cl:List Cl)(k:Key):Prop:=∃(i:Nat) (c:Cl) (n:Nat) (l:Ln),k.f=i/\cl[i]?=c/\k.H=n/\c.a[n]?=l/\1<=k.b/\k.b<=c.b/\1<=k.a/\k.a<=999/\(k.b=c.b->k.a<=l.a)
structure Tm(life:Int)(r:Sn):Prop where
 zero:r.a=0->r=Ic
 a:0<=r.a/\r.a<=999
 some:r.a≠0->1<=life/\(1<=r.c/\r.c<=255)/\(1<=r.d/\r.d<=4)
 b:r.d=1->(r.b.length:Int)=8*r.f/\0<=r.f/\r.f<=8
 C:r.d=2->2<=r.b.length/\r.b.length<=72
 h:r.d=3->1<=r.D.length/\r.D.length<=72/\0<=r.at'/\r.at'<DL r.D
 g:r.g=true->r.d=3/\(1<=r.C/\r.C<=8)/\(0<=r.e/\r.e<=6)
structure MX(c:Cf)(lives:List Int)(seen:List Sn)(jobs:List Jb):Prop where
 ll:lives.length=3
 lv:∀x∈lives,0<=x/\x<=255
 sl:seen.length=9
 sn:∀i r,seen[i]?=some r->Tm (lives.getD (i / 3) 0) r
 jl:(jobs.length:Int)<=c.d
 jb:∀j∈jobs,(0<=j.f/\j.f<=2)/\(0<=j.H/\j.H<=2)
structure Inv(M:Bk)(G:Wd):Prop where
 wf:Wf G
 ws:MX G.c G.C G.J G.d
 bk:∀k d,M k=some d->R9 G.a d/\Oh G.b k
 ln:∀(i:Nat) (c:Cl) (k:Nat) (l:Ln),G.b[i]?=some c->c.a[k]?=some l->JH M G.a i c.b c.d k l
 fl:∀f∈G.D,Sc M G.a f
 sn:∀(i:Nat) (r:Sn),G.J[i]?=some r->r.a≠0->∃d,LK M G.a ⟨((i / 3:Nat):Int),G.C.getD (i / 3) 0,((i % 3:Nat):Int),r.a⟩ r d
 lg:∀(u:Nat) (s:Sv),G.a[u]?=some s->iX M ((u:Int)+1) s
 a:∀(u:Nat) (s:Sv) (e:En),G.a[u]?=some s->s.T=true->e∈s.log->Vy G.C G.J e
 jb:∀j∈G.d,∃d,M ⟨j.f,j.b,j.H,j.a⟩=some d/\j.c=d.c
 lv:∀(i:Nat) (c:Cl),G.b[i]?=some c->G.C.getD i 0<=c.b
structure Gr(a b:List Sv):Prop where
 len:a.length<=b.length
 each:∀(u:Nat) (s:Sv),a[u]?=some s->∃s',b[u]?=some s'/\s'.J=s.J/\∃t,s'.log=s.log++t
theorem Gr.refl(a:List Sv):Gr a a:=⟨Ar _,λu s h=>⟨s,h,rfl,[],Ev⟩⟩
theorem Gr.J(h:Gr a b)(hu:1<=u/\u<=a):NQ b u=NQ a u:=by
 have c:(u-1).toNat<a.length:=U;have⟨f,d,e,_⟩:=h.each _ _ (Ah c);unfold NQ;rw[d,Ah c];simp[e]
theorem Gr.log(h:Gr a b)(c:e∈Mj a u):e∈Mj b u:=by
 unfold Mj at c ⊢;cases ha:a[(u-1).toNat]? with
 |none=>rw[ha]at c;simp at c
 |some s=>
  rw[ha]at c;have⟨g,d,_,t,f⟩:=h.each _ _ ha;rw[d];simp at c ⊢;rw[f];exact List.mem_append_left _ c
theorem R9.grow(h:Gr a b){d:Cd}(hd:R9 a d):R9 b d:=by grind [Gr,R9,R.Gr.J]
theorem Kz.grow(h:Gr a b){k:Key}{d:Cd}(hd:Kz a k d e rb):Kz b k d e rb:=by grind [Kz,R.Gr.log]
def Le(M N:Bk):Prop:=∀k d,M k=some d->N k=d
theorem Le.refl(M:Bk):Le M M:=λ_ _ h=>h
theorem Tj.grow{M N:Bk}(i:Le M N)(h:Gr a b){to:Int}(j:Tj M a to p):Tj N b to p:=by
 have⟨d,c,f,g⟩:=j;refine⟨d,i _ _ c,f,?_⟩;rcases g with q|q|q|q|⟨k,l,e,o,m,n⟩|q|q
 .exact Aj q
 .exact Am (Aj q)
 .exact Am (Am (Aj q))
 .all_goals grind
 .exact Am (Am (Am (Am (Aj ⟨k,l,e,o,m.grow h,n⟩))))
 all_goals grind
theorem Sc.grow{M N:Bk}(i:Le M N)(h:Gr a b){f:Fl}(c:Sc M a f):Sc N b f:=by
 unfold Sc at c ⊢;split
 .grind
 .rename_i j;rw[Ao j]at c;have⟨p,d,e,g⟩:=c;exact⟨p,d,e,g.grow i h⟩
theorem JH.grow{M N:Bk}(p:Le M N)(h:Gr a b){f c:List Int}(q:∀u∈f,u∈c)(hl:JH M a i life f k l):JH N b i life c k l:=by
 refine⟨hl.idle,λg=>?_,λg=>?_,λg=>?_,hl.none⟩
 .grind [Le,JH]
 .have⟨d,j,m,n,s,t,v,w⟩:=hl.H g;refine⟨d,p _ _ j,m,n,s,q _ t,v,λr=>?_⟩;have⟨e,o,x,y⟩:=w r;exact⟨e,o,x.grow h,y⟩
 .have⟨d,e,o,j,m,n⟩:=hl.done g;exact⟨d,e,o,p _ _ j,m.grow h,n⟩
theorem pZ.grow{M N:Bk}(a:Le M N)(h:pZ M u e):pZ N u e:=by grind [Le,pZ]
theorem iX.grow{M N:Bk}(a:Le M N)(h:iX M u s):iX N u s:=⟨λe b=>(h.each e b).grow a,h.ord,h.told⟩
theorem LK.grow{M N:Bk}(b:Le M N){k:Key}{d:Cd}(h:LK M a k r d):LK N a k r d:=by grind [Le,LK]
theorem ZA{l:List En}(h:l.Pairwise Before){a b:En}(c:a∈l)(d:b∈l)(e:Oc a=Oc b):a=b:=by
 induction l with
 |nil=>cases c
 |cons x l ih=>grind [Before,Oc,List.pairwise_cons]
theorem zv{sv:List Sv}(h:e∈Mj sv u)(hu:1<=u):∃(n:Nat) (s:Sv),u=n+1/\sv[n]?=s/\e∈s.log:=by
 unfold Mj at h;cases ha:sv[(u-1).toNat]? with
 |none=>rw[ha]at h;simp at h
 |some s=>
  rw[ha]at h;exact⟨(u-1).toNat,s,U,ha,by simpa using h⟩
theorem SV{sv:List Sv}(h:sv[n]?=s):Mj sv (n+1)=s.log:=by
 simp[Mj,h]
theorem Inv.unique{M:Bk}(h:Inv M G){k:Key}{d:Cd}(hd:M k=d)(b:Kz G.a k d e rb)(c:Kz G.a k d e' rb'):e'=e/\rb'=rb:=by
 have⟨n,s,i,f,j⟩:=zv b.mem (h.bk k d hd).1.c.1;have a:=c.mem;rw[i,SV f]at a;have g:=ZA (h.lg n s f).ord a j (by rw[b.key,c.key]);subst g;refine⟨I,?_⟩;have l:=b.bytes;have m:=c.bytes
 grind
theorem Nq(h:Fi t v=bs):bs.length<=70:=by grind [Fi,V.jP]
theorem Kq(h:Fi t v=bs):V.I8 t bs=(0,v):=by grind [Fi,V.iL]
theorem SX{sv:List Sv}{d:Cd}(h:R9 sv d):2<=d.h.length/\d.h.length<=72:=by grind [R9,Nq,Cd.h,EU]
theorem Inv.J{M:Bk}(h:Inv M G){to:Int}(b:EC p)(d:Tj M G.a to p):Inv M (E9 G to p):=by
 have a:=h.wf.J (to:=to) b;unfold R.E9 at a ⊢;split
 .rename_i hl;rw[Ay hl]at a;refine⟨a,h.ws,h.bk,h.ln,λf c=>?_,h.sn,h.lg,h.a,h.jb,h.lv⟩;rcases Bj.1 c with q|q
  .exact h.fl f q
  .simp only[Bg]at q;subst q;unfold Sc;rw[Ao Ev];exact⟨p,b,I,d⟩
 .exact h
theorem Inv.X{M:Bk}(h:Inv M G){fl:List Fl}(b:Wf {G with D:=fl})(a:∀f∈fl,Sc M G.a f):Inv M {G with D:=fl}:=⟨b,h.ws,h.bk,h.ln,a,h.sn,h.lg,h.a,h.jb,h.lv⟩
theorem Inv.aB{M N:Bk}(h:Inv M G)(hc:G.b[i]?=c)(hl:c.a[k]?=l)(w:O0 l')(H:l.a<=l'.a)(o:Le M N)(v:∀q d,N q=some d->M q=d\/(q=⟨i,c.b,k,l'.a⟩/\R9 G.a d/\1<=l'.a))(B:JH N G.a i c.b c.d k l'):Inv N (Eh G i k l'):=by
 refine⟨h.wf.h w,h.ws,λq d D=>?_,λj J n x b m=>?_,λf O=>(h.fl f O).grow o (Gr.refl _),λj r P C=>?_,λu s Q=>(h.lg u s Q).grow o,h.a,λj b=>?_,λj J b=>?_⟩
 .rcases v q d D with D|⟨rfl,A,L⟩
  .obtain⟨A,a,z,n,x,W,E,X,y,r5,r6,r7,r8,r9⟩:=h.bk q d D;refine⟨A,a,(if i=a then {z with a:=z.a.set k l'} else z),n,(if i=a/\k=n then l' else x),W,by rw[Ft,E];rfl,X,?_,r5,?_,r7,r8,λe=>?_⟩
   .by_cases p:i=a
    .subst p;simp only[CQ,true_and];rw[Bf];by_cases g:k=n
     .subst g;simp[(GG y)]
     .simp[g,y]
    .simp[p,y]
   .split<;>exact r6
   .have K:q.b=z.b:=by
     rw[e];split<;>rfl
    have:=r9 K;by_cases F:i=a/\k=n
    .obtain⟨rfl,rfl⟩:=F;rw[hc]at E;cases E;rw[hl]at y;cases y;simp;omega
    .rw[Ao F];exact this
  .refine⟨A,i,{c with a:=c.a.set k l'},k,l',I,by rw[Ft,hc];simp,I,by simp[(GG hl)],((h.wf.cl i c hc).b).1,BK _,L,w.a.2,λ_=>BK _⟩
 .rw[Ft]at b;cases h0:G.b[j]? with
  |none=>rw[h0]at b;cases b
  |some c0=>
   rw[h0]at b;simp only[Ce,Option.some.injEq]at b;subst b;by_cases t:i=j
   .subst t;rw[hc]at h0;cases h0;simp only[CQ]at m ⊢;rw[Bf]at m;by_cases g:k=n
    .subst g;simp only[CQ]at m;split at m
     .cases m;exact B
     .cases m
    .simp only[g,agv]at m;exact(h.ln i c n x hc m).grow o (Gr.refl _) (λ_ q=>q)
   .simp only[t,agv]at m ⊢;exact(h.ln j c0 n x h0 m).grow o (Gr.refl _) (λ_ q=>q)
 .obtain⟨d,hd⟩:=h.sn j r P C;exact⟨d,hd.grow o⟩
 .obtain⟨d,S,T⟩:=h.jb j b;exact⟨d,o _ _ S,T⟩
 .rw[Ft]at b;cases h0:G.b[j]? with
  |none=>rw[h0]at b;cases b
  |some c0=>
   rw[h0]at b;simp only[Ce,Option.some.injEq]at b;subst b;have:=h.lv j c0 h0;split<;>exact this
theorem Inv.h{M:Bk}(h:Inv M G)(hc:G.b[i]?=c)(hl:c.a[k]?=l)(d:O0 l')(a:l.a<=l'.a)(b:JH M G.a i c.b c.d k l'):Inv M (Eh G i k l'):=
 h.aB hc hl d a (Le.refl M) (λ_ _ q=>Aj q) b
theorem Inv.T{M:Bk}(h:Inv M G)(n:G.J[i]?=r)(l:r.a<=r'.a)(m:Tm (G.C.getD (i / 3) 0) r')(hd:r'.a≠0->∃d,LK M G.a ⟨((i / 3:Nat):Int),G.C.getD (i / 3) 0,((i % 3:Nat):Int),r'.a⟩ r' d):Inv M (EA G i r'):=by
 have hi:=GG n;have f:∀j x,(G.J.set i r')[j]?=some x->(j=i/\x=r')\/(j≠i/\G.J[j]?=some x):=λj x b=>by
  rw[Bf]at b;by_cases a:i=j
  .subst a;simp[hi]at b;exact Aj ⟨I,b.symm⟩
  .simp[a]at b;exact Am ⟨λe=>a e.symm,b⟩
 refine⟨⟨h.wf.cf,h.wf.a,λj c hc=>⟨(h.wf.cl j c hc).a,(h.wf.cl j c hc).b,(h.wf.cl j c hc).d,(h.wf.cl j c hc).H⟩,h.wf.X,h.wf.b,h.wf.sv,h.wf.e,h.wf.nm,h.wf.st,h.wf.nd,h.wf.d⟩,⟨h.ws.ll,h.ws.lv,by simpa [R.EA] using h.ws.sl,λj x b=>?_,h.ws.jl,h.ws.jb⟩,h.bk,h.ln,h.fl,λj x b k=>?_,h.lg,λu s e t o p=>?_,h.jb,h.lv⟩
 .rcases f j x b with ⟨rfl,rfl⟩|⟨_,g⟩
  .exact m
  .exact h.ws.sn j x g
 .rcases f j x b with ⟨rfl,rfl⟩|⟨_,g⟩
  .exact hd k
  .exact h.sn j x g k
 .rcases h.a u s e t o p with q|⟨v,w⟩
  .exact Aj q
  .refine Am ⟨v,Dj w ?_⟩;unfold Vu;show _<=(((G.J.set i r')[3*e.f.toNat+e.H.toNat]?).getD Ic).a;rw[Bf];by_cases a:i=3*e.f.toNat+e.H.toNat
   .rw[<-a,n];simp[hi];exact l
   .simp[a]
end R
abbrev ptr(b:Nat):Value:=.pointer (Y b 0)
structure MV where
 wk:Value
 dn:Value
 sb:Nat
 bk:Value
def Om(z:R.Sv×MV):List Value:=[Z z.1.J,z.2.wk,z.2.dn]
theorem LZ(z:R.Sv×MV):(Om z).length=3:=rfl
def IQ(z:R.En×Value×Value):List Value:=[Z z.1.f,Z z.1.b,Z z.1.H,Z z.1.a,Z z.1.g,z.2.1,z.2.2]
theorem Pz(z:R.En×Value×Value):(IQ z).length=7:=rfl
def strs(l:List ByteArray):List Value:=l.map λs=>Value.string s
inductive Fp (w:Aa) (F:D9) (l:List R.En) (b:Nat) (K:Ad):Int->Value->Prop
 |counter (hF:F b) (hb:w.heap[b]?=some (.cells #[.int .u16 (R.Fh l 0)] 323 (0,0))) (hK:K=.slice none 0 0):Fp w F l b K 0 (.iface 320 (ptr b))
 |MZ (hF:F b) (hb:w.heap[b]?=some (.cells #[K] 326 (0,0))) (hK:w.ownsRow 0 9 1 K (R.Fe l).length (strs (R.Fe l))) (hKF:∀j,K.ownBlock=some j->F j):Fp w F l b K 1 (.iface 324 (ptr b))
 |P9 (d0 d1 d2:Ad) (hF:F b) (hb:w.heap[b]?=some (.cells #[d0,d1,d2] 329 (0,0))) (hK:K=.slice none 0 0) (h0:OZ w F d0 (R.I6 l 0 [])) (h1:OZ w F d1 (R.I6 l 1 [])) (h2:OZ w F d2 (R.I6 l 2 [])):Fp w F l b K 2 (.iface 327 (ptr b))
structure Yg(w:Aa)(F:D9)(z:R.Sv×MV):Prop where
 wk:if z.1.T=true then Fp w F z.1.log z.2.sb z.2.bk z.1.J z.2.wk else z.2.wk=.nilIface
 log:∃es:List (R.En×Value×Value),es.map (·.1)=z.1.log/\w.ownsRow 0 45 7 z.2.dn es.length (tab IQ es)/\∀y∈es,Gg w F y.2.1 y.1.arg/\Gg w F y.2.2 y.1.D
 own:∀j,z.2.dn.ownBlock=some j->F j
structure PR where
 f:Int
 b:Int
 H:Int
 a:Int
 c:Int
 d:Int
 Q:List UInt8
 answer:List UInt8
 at':Int
 C:Int
 e:Int
def PR.cells(y:PR):List Value:=[Z y.f,Z y.b,Z y.H,Z y.a,Z y.c,Z y.d,.string (str y.Q),.string (str y.answer),Z y.at',Z y.C,Z y.e]
structure PT(i:Nat)(life:Int)(r:R.Sn)(y:PR):Prop where
 f:y.f=((i / 3:Nat):Int)
 b:y.b=life
 H:y.H=((i % 3:Nat):Int)
 a:y.a=r.a
 c:y.c=r.c
 d:y.d=r.d-1
 Q:r.d=1\/r.d=2->y.Q=r.b
 h:r.d=3->y.answer=r.D/\y.at'=r.at'
 C:y.C=if r.g=true then r.C else 0
 e:r.g=true->y.e=r.e
def Xn(j:R.Jb):Value:=.agg #[Z j.f,Z j.b,Z j.H,Z j.a,Z j.c]
structure SP where
 K:Value
 zs:List (R.Sv×MV)
 ql:Nat->Nat
 jc:Nat
def Gh(t:SP)(seen:List R.Sn)(i:Nat):Value:=if ((seen[i]?).getD R.Ic).a=0 then .pointer none else ptr (t.ql i)
def IW(n nm:Nat)(t:SP)(c:R.Cf)(lives:List Int)(seen:List R.Sn):List Value:=
 [Z c.b,Z c.a,Z c.c,Z c.e,Z c.d,.map (nm),t.K,Z (lives.getD 0 0),Z (lives.getD 1 0),Z (lives.getD 2 0),
  Gh t seen 0,Gh t seen 1,Gh t seen 2,Gh t seen 3,Gh t seen 4,Gh t seen 5,Gh t seen 6,Gh t seen 7,Gh t seen 8,.chan (t.jc),ptr n]
structure G9(s n nm:Nat)(t:SP)(F:D9)(c:R.Cf)(sv:List R.Sv)(lives:List Int)(seen:List R.Sn)(jobs:List R.Jb)(w:Aa):Prop where
 bs:w.heap[s]?=some (.cells (IW n nm t c lives seen).toArray 144 (0,0))
 zs:t.zs.map (·.1)=sv
 Q:w.ownsRow 0 99 3 t.K t.zs.length (tab Om t.zs)
 each:∀z∈t.zs,Yg w F z
 dns:∀(i j:Nat) (z y:R.Sv×MV),t.zs[i]?=some z->t.zs[j]?=some y->i≠j->∀k,z.2.dn.ownBlock=some k->y.2.dn.ownBlock≠some k
 e:∀(i j:Nat) (z y:R.Sv×MV),t.zs[i]?=some z->t.zs[j]?=some y->i≠j->z.1.T=true->y.1.T=true->z.2.sb≠y.2.sb/\∀k,z.2.bk.ownBlock=some k->y.2.bk.ownBlock≠some k
 ln:∀(i:Nat) (r:R.Sn),seen[i]?=some r->r.a≠0->∃y:PR,w.heap[t.ql i]?=some (.cells y.cells.toArray 179 (0,0))/\PT i (lives.getD (i / 3) 0) r y/\F (t.ql i)
 inj:∀(i j:Nat) (r r':R.Sn),seen[i]?=some r->seen[j]?=some r'->r.a≠0->r'.a≠0->i≠j->t.ql i≠t.ql j
 d:∃a b:Nat,w.heap[t.jc]?=some (.chan c.d.toNat (jobs.map Xn).toArray false a b false)
 A:F s/\F t.jc/\∀j,t.K.ownBlock=some j->F j
def Rl(t:Ag):Bool:=t==144 || t==99 || t==45 || t==73 || t==179 || t==323 || t==326 || t==329 || t==9
structure Ip(w:Aa)(F E:D9):Prop where
 cells:∀b cur t z,F b->Rl t=true->w.heap[b]?=some (.cells cur t z)->¬E b
 chan:∀b cap buf cl a r tm,F b->w.heap[b]?=some (.chan cap buf cl a r tm)->¬E b
theorem Ip.apart(h:∀k,F k->¬E k):Ip w F E:=by grind [Ip]
theorem Ip.iw(h:∀b,E b->(∃a t z,w.heap[b]?=some (.cells a t z)/\Rl t=false)\/∃c cl,w.heap[b]?=some (.map c cl)):Ip w F E:=by grind [Ip]
theorem Ip.one(h:w.heap[b]?=some (.cells cur t z))(a:Rl t=false):Ip w F (λk=>k=b):=by grind [Ip.iw]
def Wp(t:Ag):Bool:=t==45 || t==73 || t==323 || t==326 || t==329 || t==9
def Pp(w:Aa)(F E:D9):Prop:=∀b cur t z,F b->Wp t=true->w.heap[b]?=some (.cells cur t z)->¬E b
theorem oV(h:Wp t=true):Rl t=true:=by grind [Wp,Rl]
theorem Ip.sv(h:Ip w F E):Pp w F E:=by grind [Ip,Pp,oV]
theorem Pp.iw(h:∀b,E b->(∃d t z,w.heap[b]?=some (.cells d t z)/\Wp t=false)\/(∃e cl,w.heap[b]?=some (.map e cl))\/∃cap c cl a r f,w.heap[b]?=some (.chan cap c cl a r f)):Pp w F E:=by grind [Pp]
theorem Pp.one(h:w.heap[b]?=some (.cells cur t z))(a:Wp t=false):Pp w F (λk=>k=b):=by grind [Pp.iw]
theorem Wv(c:w.ownsRow B e size v n xs)(hk:DF E w w')(f:Pp w F E)(h:Wp e=true)(d:∀j,v.ownBlock=some j->F j):w'.ownsRow B e size v n xs:=by
 refine hk.row c (λj b=>?_);rcases c.2 with ⟨rfl,_⟩|⟨g,cap,a,rfl,_,i,_⟩
 .cases b
 .cases b;exact f g a e _ (d g I) h i
theorem oP(c:w.ownsRow B e size v n xs)(hk:DF E w w')(f:Ip w F E)(h:Rl e=true)(d:∀j,v.ownBlock=some j->F j):w'.ownsRow B e size v n xs:=by
 refine hk.row c (λj b=>?_);rcases c.2 with ⟨rfl,_⟩|⟨g,cap,a,rfl,_,i,_⟩
 .cases b
 .cases b;exact f.cells g a e _ (d g I) h i
theorem Gg.h{V:Ad}(h:Gg w F V l)(hk:DF E w w')(d:Pp w F E)(c:∀k,F k->F' k):Gg w' F' V l:=h.keep hk (λb a e hc=>d b a 73 (0,0) e rfl hc) c
theorem OZ.h{V:Ad}(h:OZ w F V l)(hk:DF E w w')(d:Pp w F E)(c:∀k,F k->F' k):OZ w' F' V l:=h.keep hk (λb a e hc=>d b a 73 (0,0) e rfl hc) c
theorem Fp.keep{l:List R.En}{k:Int}(h:Fp w F l b K k W)(hk:DF E w w')(c:Pp w F E)(a:∀k,F k->F' k):Fp w' F' l b K k W:=by
 cases h with
 |counter h1 h2 h3=>exact .counter (a _ h1) (hk.at h2 (c b _ _ _ h1 rfl h2)) h3
 |MZ h1 h2 h3 h4=>exact .MZ (a _ h1) (hk.at h2 (c b _ _ _ h1 rfl h2)) (Wv h3 hk c rfl h4) (λj d=>a _ (h4 j d))
 |P9 d0 d1 d2 h1 h2 h0 h3 h4 h5=>exact .P9 d0 d1 d2 (a _ h1) (hk.at h2 (c b _ _ _ h1 rfl h2)) h0 (h3.h hk c a) (h4.h hk c a) (h5.h hk c a)
theorem Yg.keep{z:R.Sv×MV}(h:Yg w F z)(hk:DF E w w')(b:Pp w F E)(a:∀k,F k->F' k):Yg w' F' z:=by
 refine⟨?_,?_,λj m=>a _ (h.own j m)⟩
 .have d:=h.wk;split
  .rename_i e;rw[Ay e]at d;exact d.keep hk b a
  grind
 .have⟨g,i,l,c⟩:=h.log;exact⟨g,i,Wv l hk b I h.own,λy f=>⟨(c y f).1.h hk b a,(c y f).2.h hk b a⟩⟩
theorem G9.keep{t:SP}{c:R.Cf}{sv:List R.Sv}{d:List Int}{seen:List R.Sn}{e:List R.Jb}(h:G9 s n nm t F c sv d seen e w)(hk:DF E w w')(g:Ip w F E)(f:∀k,F k->F' k):G9 s n nm t F' c sv d seen e w':=by
 have⟨o,p,q⟩:=h.A;refine⟨hk.at h.bs (g.cells s _ _ _ o I h.bs),h.zs,oP h.Q hk g I q,λz hz=>(h.each z hz).keep hk g.sv f,h.dns,h.e,λi r A m=>?_,h.inj,?_,f _ o,f _ p,λj l=>f _ (q j l)⟩
 .have⟨y,u,x,v⟩:=h.ln i r A m;exact⟨y,hk.at u (g.cells _ _ _ _ v I u),x,f _ v⟩
 .have⟨a,b,l⟩:=h.d;exact⟨a,b,hk.at l (g.chan _ _ _ _ _ _ _ p l)⟩
end Go.Proofs.YtblomippkddgiabGreatDoor
