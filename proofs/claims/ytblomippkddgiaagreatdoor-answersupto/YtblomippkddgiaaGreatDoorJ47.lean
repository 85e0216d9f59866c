import Derived.Test.YtblomippkddgiaaGreatDoorJ46
set_option maxRecDepth 100000
set_option maxHeartbeats 4000000
namespace Go.Proofs.YtblomippkddgiaaGreatDoor
open Go.Proofs.Tryz
open Go.RowKit
variable {zc:List (R.Cl×CE)}{Ts:List Tw}{L:List V.Kp}{N N' b i n x:Nat}{z:Nat→Option Obj}{o:LD}{c:R.Cf}{G':R.Wd}{t:Tw}{C K lv:Value}{W1 w w' w0 w2 wr:World}
def KP(G:R.Wd)(o:LD)(v:List R.It):R.Wd:=
 if o.Dz=8 then (R.E4 G o.s o.a).2
 else if o.Dz=9 then (R.Fb G o.s).2
 else if o.Dz=10 then (R.FV G o.a o.s).2
 else if o.Dz=11 then (R.Gc G o.a o.b o.c o.d v).2
 else if o.Dz=13 then R.Ni G
 else if o.Dz=16 then (R.JM G o.a).2
 else if o.Dz=17 then (R.JA G o.a).2
 else if o.Dz=18 then (R.Jz G o.a o.b o.c).2
 else if o.Dz=19 then (R.Fv G o.a).2
 else if o.Dz=20 then (R.FQ G).2
 else G
structure acL(o:LD)(v:List V.It)(A:D9)(w:Aa):Prop where
 s:o.s.length<=1000000000000000
 Gz:V.Ff w o.L v
 len:v.length<=9000000000000
 off:v≠[]->∀b off n c,o.L=.slice (some (Y b off)) n c->¬A b
 c:Ya o.c
 on:Ya o.on
def HF(b:Nat)(Ts:List Tw)(L:List V.Kp)(lv K:Ad):D9:=λk=>V.OY b L K k\/lv.ownBlock=some k\/∃t∈Ts,t.Fw k
def HnS(w0:Aa)(z:Nat->Option Obj)(b N:Nat)(Ts:List Tw)(i:Nat)(L:List V.Kp)(lv:Ad)(G':R.Wd)(w':Aa):Prop:=∃t' L' K',Hn w0 z b N (Ts.set i t') L' lv K' w'/\t'.G=G'/\L'.length<=L.length+2
theorem Hn.twS(h:Hn w0 z b N Ts L lv K w)(hi:Ts[i]?=some t)(y:KA N' t G' w w')(u:N<=N'):HnS w0 z b N' Ts i L lv G' w':=by
 have⟨B,e,f,g,j,m⟩:=y;exact⟨B,L,K,h.step hi e f g j u,m,U⟩
theorem KA.more(h:KA N t G' w w')(e:N<=N'):KA N' t G' w w':=h.le e
theorem MR(hk:o.Dz=8\/o.Dz=9\/o.Dz=10)(Q:World->Prop)(H:Hid (∀W1,(w.alloc (.cells #[ptr t.p.x,Ey t.x] 109)).alloc (.cells o.cells 72)=W1->D7 95 #[t.val,o.val] W1 (.bool true) λw'=>Q w')):
  D7 54 #[ptr b,t.val,o.val] w (.bool true) λw'=>Q w':=by
 obtain⟨W1,hW1⟩:∃W1,(w.alloc (.cells #[ptr t.p.x,Ey t.x] 109)).alloc (.cells o.cells 72)=W1:=⟨_,rfl⟩;have H1:=Dx (H W1 hW1);have j:Bx w.heap.size t o W1:=by
  exact kr
 have D:=Dv j.t;have M:=Dv j.o;have O:=EI j.o 0;have⟨HX,y⟩:=FU j.bl hW1;clear hW1 H j;obtain⟨m,e⟩:∃m,(o.Dz==8)=m:=⟨_,rfl⟩;obtain⟨u,h⟩:∃u,(o.Dz==9)=u:=⟨_,rfl⟩;obtain⟨f,g⟩:∃f,(o.Dz==10)=f:=⟨_,rfl⟩;have B:m=true\/(m=false/\u=true)\/(m=false/\u=false/\f=true):=by
  rcases hk with hk|hk|hk
  ·exact Aj (by rw[<-e,hk];rfl)
  ·exact Am (Aj ⟨by rw[<-e,hk];rfl,by rw[<-h,hk];rfl⟩)
  ·exact Am (Am ⟨by rw[<-e,hk];rfl,by rw[<-h,hk];rfl,by rw[<-g,hk];rfl⟩)
 clear hk;rcases B with rfl|⟨rfl,rfl⟩|⟨rfl,rfl,rfl⟩;all_goals
  go_enter func54,ntmps54
  go_upto_region 1 with fail
  rw[Dw y]
  go_upto_region 5 with fail
  refine Dh ?_;exact aaA
theorem OE(hk:o.Dz=11\/o.Dz=12)(Q:World->Prop)(H:Hid (∀W1,(w.alloc (.cells #[ptr t.p.x,Ey t.x] 109)).alloc (.cells o.cells 72)=W1->D7 96 #[ptr b,t.val,o.val] W1 (.bool true) λw'=>Q w')):
  D7 54 #[ptr b,t.val,o.val] w (.bool true) λw'=>Q w':=by
 obtain⟨W1,hW1⟩:∃W1,(w.alloc (.cells #[ptr t.p.x,Ey t.x] 109)).alloc (.cells o.cells 72)=W1:=⟨_,rfl⟩;have H1:=Dx (H W1 hW1);have g:Bx w.heap.size t o W1:=by
  exact kr
 have u:=Dv g.t;have y:=Dv g.o;have B:=EI g.o 0;have⟨HX,h⟩:=FU g.bl hW1;clear hW1 H g;have D:(o.Dz==8)=false:=by rcases hk with hk|hk<;>rw[hk]<;>rfl
 have M:(o.Dz==9)=false:=by rcases hk with hk|hk<;>rw[hk]<;>rfl
 have m:(o.Dz==10)=false:=by rcases hk with hk|hk<;>rw[hk]<;>rfl
 obtain⟨e,hq11⟩:∃e,(o.Dz==11)=e:=⟨_,rfl⟩;obtain⟨f,hq12⟩:∃f,(o.Dz==12)=f:=⟨_,rfl⟩;have j:e=true\/(e=false/\f=true):=by
  exact abL
 clear hk;rcases j with rfl|⟨rfl,rfl⟩;all_goals
  go_enter func54,ntmps54
  go_upto_region 1 with fail
  rw[Dw h]
  go_upto_region 8 with fail
  refine Dh ?_;refine MF rfl (.tmp 0) rfl (ptr b) rfl ?_;exact aaA
theorem Jr(hk:14<=o.Dz/\o.Dz<=19)(Q:World->Prop)(H:Hid (∀W1,(w.alloc (.cells #[ptr t.p.x,Ey t.x] 109)).alloc (.cells o.cells 72)=W1->D7 102 #[t.val,o.val] W1 (.bool true) λw'=>Q w')):
  D7 54 #[ptr b,t.val,o.val] w (.bool true) λw'=>Q w':=by
 obtain⟨W1,hW1⟩:∃W1,(w.alloc (.cells #[ptr t.p.x,Ey t.x] 109)).alloc (.cells o.cells 72)=W1:=⟨_,rfl⟩;have H1:=Dx (H W1 hW1);have f:Bx w.heap.size t o W1:=by
  exact kr
 have O:=Dv f.t;have T:=Dv f.o;have X:=EI f.o 0;have⟨HX,g⟩:=FU f.bl hW1;have e:∀n:Int,n<14\/19<n->(o.Dz==n)=false:=λn hn=>by simp;omega
 have k8:=e 8 U;have k9:=e 9 U;have h:=e 10 U;have j:=e 11 U;have m:=e 12 U;have u:=e 13 U;have y:=e 20 U;have B:=e 21 U;have D:=e 22 U;have M:=e 23 U;clear hW1 H hk e f;go_enter func54,ntmps54
 go_upto_region 1 with fail
 rw[Dw g]
 go_upto_region 24 with fail
 refine Dh ?_;exact aaA
theorem OG(hk:o.Dz=21\/o.Dz=22)(Q:World->Prop)(H:Hid (∀W1,(w.alloc (.cells #[ptr t.p.x,Ey t.x] 109)).alloc (.cells o.cells 72)=W1->D7 99 #[ptr b,t.val,o.val] W1 (.bool true) λw'=>Q w')):
  D7 54 #[ptr b,t.val,o.val] w (.bool true) λw'=>Q w':=by
 obtain⟨W1,hW1⟩:∃W1,(w.alloc (.cells #[ptr t.p.x,Ey t.x] 109)).alloc (.cells o.cells 72)=W1:=⟨_,rfl⟩;have H1:=Dx (H W1 hW1);have g:Bx w.heap.size t o W1:=by
  exact kr
 have M:=Dv g.t;have O:=Dv g.o;have T:=EI g.o 0;have⟨HX,h⟩:=FU g.bl hW1;clear hW1 H g;have X:(o.Dz==8)=false:=by rcases hk with hk|hk<;>rw[hk]<;>rfl
 have k9:(o.Dz==9)=false:=by rcases hk with hk|hk<;>rw[hk]<;>rfl
 have m:(o.Dz==10)=false:=by rcases hk with hk|hk<;>rw[hk]<;>rfl
 have u:(o.Dz==11)=false:=by rcases hk with hk|hk<;>rw[hk]<;>rfl
 have y:(o.Dz==12)=false:=by rcases hk with hk|hk<;>rw[hk]<;>rfl
 have B:(o.Dz==13)=false:=by rcases hk with hk|hk<;>rw[hk]<;>rfl
 have D:(o.Dz==20)=false:=by rcases hk with hk|hk<;>rw[hk]<;>rfl
 obtain⟨e,hq11⟩:∃e,(o.Dz==21)=e:=⟨_,rfl⟩;obtain⟨f,hq12⟩:∃f,(o.Dz==22)=f:=⟨_,rfl⟩;have j:e=true\/(e=false/\f=true):=by
  exact abL
 clear hk;rcases j with rfl|⟨rfl,rfl⟩;all_goals
  go_enter func54,ntmps54
  go_upto_region 1 with fail
  rw[Dw h]
  go_upto_region 19 with fail
  refine Dh ?_;refine MF rfl (.tmp 0) rfl (ptr b) rfl ?_;exact aaA
theorem X5(h:Ii N t w)(hk:o.Dz=13):
  D7 54 #[ptr b,t.val,o.val] w (.bool true) λw'=>KA N t (R.Ni t.G) w w':=by
 have⟨W1,f,j,X,M,m⟩:=Jc h o;have D:=Dx f;have Q:Hid (D7 15 #[ptr t.p.x] W1 Ep λw2=>Mid N t (R.Ni t.G) W1 w2):=by
  refine cm M.l.tick λw2 e=>?_
  have⟨F',l,g⟩:=e;exact⟨rfl,M.tH l g⟩
 have k8:(o.Dz==8)=false:=by rw[hk];rfl
 have k9:(o.Dz==9)=false:=by rw[hk];rfl
 have aa:(o.Dz==10)=false:=by rw[hk];rfl
 have ab:(o.Dz==11)=false:=by rw[hk];rfl
 have ac:(o.Dz==12)=false:=by rw[hk];rfl
 have ad:(o.Dz==13)=true:=by rw[hk];rfl
 have⟨HX,B⟩:=FU X j;clear h f hk X j;go_enter func54,ntmps54;go_wp2_with fail
 rw[Dw D];refine cm Q λw2 e=>?_
 have y:=HX.stays e m;have l1:=Dv y.t;have l2:=Dv y.o;have e1:=EI y.t 1;have T:Hid (D7 97 #[Ey t.x] w2 Ep λO=>KA N t (R.Ni t.G) w O):=by
  refine cm e.r.tick λO u=>?_
  exact⟨rfl,KA.ahead B (e.done u (Bd.tick e.MP.bd))⟩
 clear e y Q M;go_wp2_with fail
 refine cm T λO u=>?_
 have H3:=Dx u;clear u e1 T;go_wp2;go_returns;exact⟨rfl,H3⟩
theorem Vw(h:Ii N t w)(hk:o.Dz=20)(ht:JI w)(D:¬t.F 0):
  D7 54 #[ptr b,t.val,o.val] w (.bool true) λw'=>KA N t (R.FQ t.G).2 w w':=by
 have⟨W1,g,f,T,m,j⟩:=Jc h o;have B:=Dx g;have⟨M,Q⟩:=m.bd.iv;have O:Hid (D7 22 #[ptr t.p.x] W1 (Z (R.FQ t.G).1) λw2=>Mid N t (R.FQ t.G).2 W1 w2):=by
  refine cm (m.l.adD (ht.DG f) D Q) λw2 e=>?_
  exact⟨rfl,m.mid e⟩
 have k8:(o.Dz==8)=false:=by rw[hk];rfl
 have k9:(o.Dz==9)=false:=by rw[hk];rfl
 have aa:(o.Dz==10)=false:=by rw[hk];rfl
 have ab:(o.Dz==11)=false:=by rw[hk];rfl
 have ac:(o.Dz==12)=false:=by rw[hk];rfl
 have ad:(o.Dz==13)=false:=by rw[hk];rfl
 have ae:(o.Dz==20)=true:=by rw[hk];rfl
 have⟨X,y⟩:=FU T f;clear h g hk T f;go_enter func54,ntmps54;go_wp2_with fail
 rw[Dw B];refine cm O λw2 e=>?_
 have u:=X.stays e j;have l1:=Dv u.t;have l2:=Dv u.o;have e1:=EI u.t 1;have H2:Hid (D7 98 #[Ey t.x] w2 (Z (R.FQ t.G).1) λw3=>KA N t (R.FQ t.G).2 w w3):=by
  refine cm (e.r.serve Q) λw3 h3=>?_
  exact⟨rfl,KA.ahead y (e.done h3 (Bd.serve e.MP.bd))⟩
 clear e u O m;exact yd
theorem Nk(w:Aa)(t:Tw)(o:LD)(e:(w.alloc (.cells #[ptr t.p.x,Ey t.x] 109)).alloc (.cells o.cells 72)=W1):DY w W1:=by grind [WO]
theorem bc(h:Hn w0 z b N Ts L lv K w)(hi:Ts[i]?=some t)(o:LD){v:List V.It}(g:acL o v (HF b Ts L lv K) w)(hk:8<=o.Dz/\o.Dz<=22)(O:JI w0)(B:N<=9000000000000)(X:L.length+1<=1000000000000):
  D7 54 #[ptr b,t.val,o.val] w (.bool true) λw'=>HnS w0 z b (N+1) Ts i L lv (KP t.G o v) w':=by
 have M:=Ap hi;have j:=h.tw t M;have u:=O.DG h.U9;have fin:∀{G':R.Wd} {N':Nat} {W1 w':Aa},DY w W1->KA N' t G' W1 w'->N<=N'->N'<=N+1->HnS w0 z b (N+1) Ts i L lv G' w':=λm hS h1 T=>(h.DG m).twS hi (hS.more T) U
 have D:o.Dz=8\/o.Dz=9\/o.Dz=10\/o.Dz=11\/o.Dz=12\/o.Dz=13\/o.Dz=14\/o.Dz=15\/o.Dz=16\/o.Dz=17\/o.Dz=18\/o.Dz=19\/o.Dz=20\/o.Dz=21\/o.Dz=22:=U;have y:¬t.F 0:=λq=>by
  have:=h.base 0 (Am (Am ⟨t,M,Aj q⟩));have⟨_,_,hg⟩:=O
  grind
 rcases D with e|e|e|e|e|e|e|e|e|e|e|e|e|e|e
 ·refine MR (Aj e) _ (λW1 hW1=>?_);refine(Xr (j.DG (Nk w t o hW1)) e g.s B).mono ?_;rintro e' w' ⟨rfl,hS⟩
  grind [KP,Nk]
 ·refine MR (Am (Aj e)) _ (λW1 hW1=>?_);refine(Un (j.DG (Nk w t o hW1)) e g.s B).mono ?_;rintro e' w' ⟨rfl,hS⟩
  grind [KP,Nk]
 ·refine MR (Am (Am e)) _ (λW1 hW1=>?_);refine(Xt (j.DG (Nk w t o hW1)) e g.s B).mono ?_;rintro e' w' ⟨rfl,hS⟩
  grind [KP,Nk]
 ·refine OE (Aj e) _ (λW1 hW1=>?_);have m:=Nk w t o hW1;refine(Ys (j.DG m) e (g.Gz.DG m) (λhv Q off n c q f=>g.off hv Q off n c q (Am (Am ⟨t,M,f⟩))) g.len (u.DG m) B g.c).mono ?_;rintro e' w' ⟨rfl,hS⟩
  grind [KP]
 ·refine OE (Am e) _ (λW1 hW1=>?_);have m:=Nk w t o hW1;refine(Vh (h.DG m) hi e U).mono ?_;exact abM
 ·refine(X5 j e).mono ?_;rintro e' w' ⟨rfl,hS⟩
  grind [KP,Below.refl]
 ·refine Jr U _ (λW1 hW1=>?_);refine(Xg (j.DG (Nk w t o hW1)) e).mono ?_;exact aaH
 ·refine Jr U _ (λW1 hW1=>?_);refine(dS (j.DG (Nk w t o hW1)) e).mono ?_;exact aaH
 ·refine Jr U _ (λW1 hW1=>?_);refine(dR (j.DG (Nk w t o hW1)) e).mono ?_;rintro e' w' ⟨rfl,hS⟩
  grind [KP,Nk]
 ·refine Jr U _ (λW1 hW1=>?_);refine(dQ (j.DG (Nk w t o hW1)) e).mono ?_;rintro e' w' ⟨rfl,hS⟩
  grind [KP,Nk]
 ·refine Jr U _ (λW1 hW1=>?_);refine(dP (j.DG (Nk w t o hW1)) e).mono ?_;exact aaH
 ·refine Jr U _ (λW1 hW1=>?_);refine(Vi (j.DG (Nk w t o hW1)) e (u.DG (Nk w t o hW1)) y).mono ?_;exact aaH
 ·refine(Vw j e u y).mono ?_;rintro e' w' ⟨rfl,hS⟩;exact⟨rfl,by simp only[KP,e];exact fin (AA _ _) hS U U⟩
 ·refine OG (Aj e) _ (λW1 hW1=>?_);have m:=Nk w t o hW1;refine(eZ (j.DG m) e).mono ?_;rintro e' w' ⟨rfl,hS⟩;exact⟨rfl,by simp only[KP,e];exact fin m hS U U⟩
 ·refine OG (Am e) _ (λW1 hW1=>?_);have m:=Nk w t o hW1;refine(Xp (h.DG m) hi e X).mono ?_;exact abM
abbrev fI(c:R.Cf):Value:=.agg #[Z c.DI,Z c.DV,Z c.Ew,Z c.DW,Z c.FF]
def zl0(n:Nat):List (R.Ln×Value):=List.replicate n (R.Vm,.slice none 0 0)
theorem Z0(hn:1<=n/\n<=3)(W:Aa):(Instr.makeSlice 230 (Z n) (Z n)).run prog W=.ok (EJ W.heap.size n n) (W.alloc (.cells (tab Ui (zl0 n)).toArray 259)):=by
 exact abE
theorem Z1(W:Aa):(Instr.makeSlice 35 (Z 3) (Z 3)).run prog W=.ok (EJ W.heap.size 3 3) (W.alloc (.cells (GK [0,0,0]).toArray 3)):=by
 show _=_;kernel_rfl
theorem gw(W:Aa):(Instr.makeSlice 226 (Z 9) (Z 9)).run prog W=.ok (EJ W.heap.size 9 9) (W.alloc (.cells (tab Rk (List.replicate 9 R.Ic)).toArray 264)):=by
 show _=_;kernel_rfl
theorem aM{a b c:Addr}{u v y:Ad}:(((w.setCell a u).setCell b v).setCell c y).heap.size=w.heap.size:=by simp[World.setCell]
theorem Rb{o:Obj}(h:w.heap.size=n):(w.alloc o).heap[n]?=some o:=by
 subst h;exact AF w o
theorem ZK(w:Aa)(DR:Int)(n:Nat)(hn:1<=n/\n<=3):ET 144 #[Z DR,Z n] w λe w'=>∃lb,e=.returned (.agg #[Z DR,.slice none 0 0,EJ lb n n])/\w.heap.size<=lb/\w'.heap[lb]?=some (.cells (tab Ui (zl0 n)).toArray 259 (0,0))/\DY w w':=by
 have h:=Z0 hn;obtain⟨g,f⟩:∃g,(tab Ui (zl0 n)).toArray=g:=⟨_,rfl⟩;rw[f]at h ⊢;clear f;go_enter func144,ntmps144;go_wp2;go_returns;refine⟨w.heap.size+1,rfl,U,?_,F9.alloc Ev _⟩;exact Rb Ev
theorem fE(w:Aa)(x:Nat)(B D M O Q vN vS vV X T:Ad)(e:w.heap[x]?=some (.cells [B,D,M,O,Q,vN,vS,vV,X,T,.slice none 0 0,.slice none 0 0,.slice none 0 0].toArray 229 (0,0))):D7 145 #[Ey x] w Ep λw'=>∃L Sn,w.heap.size<=L/\w.heap.size<=Sn/\L≠Sn/\w'.heap[L]?=some (.cells (GK [0,0,0]).toArray 3 (0,0))/\w'.heap[Sn]?=some (.cells (tab Rk (List.replicate 9 R.Ic)).toArray 264 (0,0))/\w'.heap[x]?=some (.cells #[B,D,M,O,Q,vN,vS,vV,X,T,EJ L 3 3,EJ Sn 9 9,.slice none 0 0] 229 (0,0))/\DF (λk=>k=x) w w':=by
 have j:=Z1;have m:=gw;obtain⟨u,f⟩:∃u,(GK [0,0,0]).toArray=u:=⟨_,rfl⟩;obtain⟨y,g⟩:∃y,(tab Rk (List.replicate 9 R.Ic)).toArray=y:=⟨_,rfl⟩;rw[f]at j ⊢;rw[g]at m ⊢;clear f g;obtain⟨aa,ab,ac⟩:=TH e 10 11 12;have ad:=Hf e 10;have ae:=Hf e 11;have ah:=Hf e 12;have hl:=Dv e;have HX:=Dx e;clear e;go_enter func145,ntmps145;go_wp2;go_returns;have h:∀(u1 u2 u3:Ad),(((w.setCell (Y x 10) u1).setCell (Y x 11) u2).setCell (Y x 12) u3).heap.size=w.heap.size:=λu1 u2 u3=>aM
 have b1:=Ek (off:=12) (Ek (off:=11) (Ek (off:=10) HX (EJ w.heap.size 3 3)) (.slice (some ⟨w.heap.size+1,0,none⟩) 9 9)) (.slice none 0 0);refine⟨rfl,w.heap.size,w.heap.size+1,Ar _,U,U,?_,?_,?_,?_⟩
 ·rw[AL _ _ _ (by simp[h])];exact Rb (h _ _ _)
 ·exact Rb (by simp[h])
 ·rw[AL _ _ _ (by simp[h];omega),AL _ _ _ (by rw[h];exact hl)];exact b1
 ·exact(((((DF.refl (λk=>k=x) w).setCell (p:=Y x 10) (Aj rfl) _).setCell (p:=Y x 11) (Aj rfl) _).setCell (p:=Y x 12) (Aj rfl) _).alloc _).alloc _
theorem aaa(w:Aa)(c:R.Cf)(h:¬R.GA c):D7 87 #[fI c] w (.tuple #[.pointer none,Z 8]) λw'=>DY w w':=by
 have⟨a,b,r,t,e⟩:=c;unfold R.GA at h;simp only at h;by_cases f:a<1;rotate_left;by_cases g:3<a;rotate_left;by_cases j:b<1;rotate_left;by_cases m:3<b;rotate_left;by_cases u:r<1;rotate_left;by_cases y:8<r;rotate_left;by_cases B:t<1;rotate_left;by_cases D:6<t;rotate_left;by_cases M:e<1;rotate_left;have O:9<e:=U;all_goals
  clear h;go_enter func87,ntmps87;go_wp2;go_returns;exact⟨rfl,F9⟩
structure pW(w0:Aa)(x:Nat)(c:R.Cf)(n m:Nat)(C:Ad)(zc:List (R.Cl×CE))(wr:Aa):Prop where
 DG:Below w0.heap.size w0 wr
 lo:w0.heap.size<=x
 bx:wr.heap[x]?=some (.cells [Z c.DI,Z c.DV,Z c.Ew,Z c.DW,Z c.FF,.slice none 0 0,.slice none 0 0,.slice none 0 0,.slice none 0 0,C,.slice none 0 0,.slice none 0 0,.slice none 0 0].toArray 229 (0,0))
 len:zc.length=m
 cl:wr.ownsRow w0.heap.size 232 3 C m (tab bD zc)
 each:∀(i:Nat) (z:R.Cl×CE),zc[i]?=some z->z.1=⟨1,[],List.replicate n R.Vm⟩/\z.2.bv=.slice none 0 0/\w0.heap.size<=z.2.lb/\wr.heap[z.2.lb]?=some (.cells (tab Ui (zl0 n)).toArray 259 (0,0))
 inj:∀(i j:Nat) (z y:R.Cl×CE),zc[i]?=some z->zc[j]?=some y->i≠j->z.2.lb≠y.2.lb
theorem pW.push{m:Nat}{W u:Aa}{lb:Nat}(h:pW w0 x c n m C zc wr)(al:wr.heap.size<=lb)(B:DY wr w2)(M:w2.heap[lb]?=some (.cells (tab Ui (zl0 n)).toArray 259 (0,0)))(g:DY w2 W)(T:W.grownBy u C.ownBlock)(aa:u.ownsRow w0.heap.size 232 3 K (m+1) (tab bD zc++[Z 1,.slice none 0 0,EJ lb n n])):u.heap[x]?=wr.heap[x]?/\pW w0 x c n (m+1) K (zc++[(⟨1,[],List.replicate n R.Vm⟩,⟨.slice none 0 0,lb⟩)]) (u.setCell (Y x 9) K):=by
 have ae:=B.size;have ah:=g.size;have hC:∀j,C.ownBlock=some j->w0.heap.size<=j:=λj X=>GL h.cl X
 have keep:∀{b:Nat} {o:Obj},wr.heap[b]?=some o->C.ownBlock≠some b->u.heap[b]?=some o:=λ{b o} O hne=>by
  have hl:=(AB.1 O).1;rw[T.block b U (λe=>hne e.symm),g.block b U,B.block b hl];exact O
 have Ub:u.heap[lb]?=some (.cells (tab Ui (zl0 n)).toArray 259 (0,0)):=by
  have hl:=(AB.1 M).1;rw[T.block lb U (λe=>?_),g.block lb hl]
  ·exact M
  ·have⟨ac,hc⟩:=J3 h.cl e.symm;all_goals grind
 have D:=keep h.bx (Fg h.cl h.bx Em);have Q:=below_grown (((h.DG.trans (B.mono h.DG.size))).trans (g.mono (by have:=h.DG.size;omega))) T hC;have f:DF (λk=>k=x) u (u.setCell (Y x 9) K):=by grind [DF.setCell,DF.refl]
 have nx:∀{b:Nat} {ys:Array Value} {t:Ag},u.heap[b]?=some (.cells ys t (0,0))->t≠229->¬b=x:=λO h1 e=>by
  subst e;exact ES O D h1 rfl
 refine⟨D.trans h.bx.symm,⟨Q.setCell h.lo K,h.lo,Ek D K,by simp[h.len],?_,λi z hz=>?_,λi j z y hz hy ak=>?_⟩⟩
 ·rw[Jn];refine f.row ?_ (λj X=>?_);all_goals grind [bD,J3]
 ·rw[List.getElem?_append]at hz;split at hz
  ·have⟨e1,e2,e3,e4⟩:=h.each i z hz;have k4:=keep e4 (Fg h.cl e4 Em);exact⟨e1,e2,e3,f.at k4 (nx k4 Em)⟩
  ·rw[List.getElem?_singleton]at hz;split at hz
   ·cases hz;exact⟨rfl,rfl,by have:=h.DG.size;simp only;omega,f.at Ub (nx Ub Em)⟩
   ·cases hz
 all_goals grind [pW]
theorem gF{ops:Array Oper}{o:Oper}{a:Act}{K:Act->World->Prop}{Q:Exit->Act->World->Prop}{E:Prop}
  (hgd:o.guard=none) (f:Nat) (xs:Array Operand) (ts:Array TypeId) (ho:o.op=.call {callee:=.value (.func f),args:=xs,argTypes:=ts}) (hcf:∀args w,(callFunc f args).run prog w=.ok (.enter f args) w)
  (vs:Array Value) (hv0:xs.toList.map a.eval=vs.toList) (R:Ending->World->Prop) (hC:ET f vs w R) (hR:∀e w',R e w'->∃v,e=.returned v/\K (a.put o.dst v) w'):
  if Region.wanted o (yielded ops a.tmps)=true then Oper.wp prog o a w K Q else E:=by
 exact afo
theorem adv:∀args w,(callFunc 144 args).run prog w=.ok (.enter 144 args) w:=λ_ _=>rfl
theorem aag{a b:Aa}(h:DY a.drew b):DY a b:=⟨h.os,h.tape,h.output,h.size,h.block⟩
theorem ac5:(prog.info? 232).map (λi=>(i.zero,i.size,i.bytes))=some (some (.agg #[Z 0,.slice none 0 0,.slice none 0 0]),3,56):=EL
theorem nY{r t B:Int}(hc:R.GA ⟨(N:Int),(n:Int),r,t,B⟩):ET 87 #[fI ⟨(N:Int),(n:Int),r,t,B⟩] w λe w'=>∃x C zc L Sn wr,e=.returned (.tuple #[Ey x,Z 0])/\pW (w.alloc (.cells #[Z N,Z n,Z r,Z t,Z B] 26)) x ⟨(N:Int),(n:Int),r,t,B⟩ n N C zc wr/\wr.heap.size<=L/\wr.heap.size<=Sn/\L≠Sn/\w'.heap[L]?=some (.cells (GK [0,0,0]).toArray 3 (0,0))/\w'.heap[Sn]?=some (.cells (tab Rk (List.replicate 9 R.Ic)).toArray 264 (0,0))/\w'.heap[x]?=some (.cells #[Z N,Z n,Z r,Z t,Z B,.slice none 0 0,.slice none 0 0,.slice none 0 0,.slice none 0 0,C,EJ L 3 3,EJ Sn 9 9,.slice none 0 0] 229 (0,0))/\DF (λk=>k=x) wr w':=by
 have ah:=hc;unfold R.GA at ah;simp only at ah;obtain⟨h1,h2,h3,h4,h5,h6,h7,h8,h9,br,bt,b7⟩:¬(N:Int)<1/\¬3<(N:Int)/\¬(n:Int)<1/\¬3<(n:Int)/\¬r<1/\¬8<r/\¬t<1/\¬6<t/\¬B<1/\¬9<B/\N<=3/\1<=n/\n<=3:=U;have aS:=Dx (λw=>ZK w 1 n b7);have⟨i0,hi,ba,bb,be⟩:=A1 ac5;obtain⟨D,O⟩:∃D,w.alloc (.cells #[Z N,Z n,Z r,Z t,Z B] 26)=D:=⟨_,rfl⟩;have f:D.heap[w.heap.size]?=some (.cells #[Z N,Z n,Z r,Z t,Z B] 26 (0,0)):=by
  rw[<-O];exact AF w _
 have b5:D.heap.size=w.heap.size+1:=by rw[<-O];simp
 obtain⟨W1,ae⟩:∃W1,D.alloc (.cells #[Z N,Z n,Z r,Z t,Z B,.slice none 0 0,.slice none 0 0,.slice none 0 0,.slice none 0 0,.slice none 0 0,.slice none 0 0,.slice none 0 0,.slice none 0 0] 229)=W1:=⟨_,rfl⟩;have Q:pW D D.heap.size ⟨(N:Int),(n:Int),r,t,B⟩ n 0 (.slice none 0 0) [] W1:=by
  rw[<-ae];exact⟨F9,Ar _,AF _ _,rfl,AZ _ _ _ _,λi z hz=>by simp at hz,λi j z y hz=>by simp at hz⟩
 have ac:=Dx Q;have ao:Hid (∀(x m:Nat) (C:Ad) (zc:List (R.Cl×CE)) (wr:Aa),pW D x ⟨(N:Int),(n:Int),r,t,B⟩ n m C zc wr->Kk wr w 0 (Z N)/\Kk wr w 1 (Z n)):=λx m C zc wr h=>by
  have hl:=Dv f;exact⟨(h.DG.cell (p:=EN w 0) hl).trans (EI f 0),(h.DG.cell (p:=EN w 1) hl).trans (EI f 1)⟩
 have ad:Hid (∀{x m:Nat} {C K:Ad} {zc:List (R.Cl×CE)} {wr w2 W wz:Aa} {lb:Nat},pW D x ⟨(N:Int),(n:Int),r,t,B⟩ n m C zc wr->wr.heap.size<=lb->DY wr w2->w2.heap[lb]?=some (.cells (tab Ui (zl0 n)).toArray 259 (0,0))->DY w2 W->W.grownBy wz C.ownBlock->wz.ownsRow D.heap.size 232 3 K (m+1) (tab bD zc++[Z 1,.slice none 0 0,EJ lb n n])->wz.heap[x]?=wr.heap[x]?/\pW D x ⟨(N:Int),(n:Int),r,t,B⟩ n (m+1) K (zc++[(⟨1,[],List.replicate n R.Vm⟩,⟨.slice none 0 0,lb⟩)]) (wz.setCell (Y x 9) K)):=λh1 h2 h3 h4 h5 h6 h7=>h1.push h2 h3 h4 h5 h6 h7
 have⟨d0,d1⟩:=ao _ _ _ _ _ Q;obtain⟨X,hX⟩:∃X,D.heap.size=X:=⟨_,rfl⟩;rw[hX]at ac Q;have bz:w.heap.size+1=X:=U;have⟨aN,b4⟩:=FU O ae;have bT:=Dv Q.bx;have bS:w.heap.size<W1.heap.size:=U;rw[O];clear hc ah O f b5 ae Q;go_enter func87,ntmps87;go_wp2_with fail
 rw[Dw aN,Dw b4];go_loopw [5] (λiv wr=>∃(m:Nat) (C:Ad) (zc:List (R.Cl×CE)),m<=N/\iv=Z m/\pW D X ⟨(N:Int),(n:Int),r,t,B⟩ n m C zc wr) (λiv _=>N-(intOf iv).toNat)
 case atStart=>exact⟨0,_,_,AV _,rfl,ac⟩
 case round=>
  obtain⟨m,C,zc,hm,rfl,g⟩:=hrel;have⟨b0,b1⟩:=ao _ _ _ _ _ g;have f:=g.bx;have⟨ka,kc,ar⟩:=E8 g.cl;by_cases bU:m<N
  ·subst ar;have a9:=EI f 9;have f9:=Hf f 9;have al:=Dv f;have bV:=Gv b0;have bL:=g.DG.size;have M:=Dx g;clear g f d0 d1;go_wp2;go_region_law (first
    |(refine gF rfl 144 #[.const (Z 1),.tmp 69] #[3,3] rfl adv #[Z 1,Z n] rfl _ (aS _) ?_;rintro e w2 ⟨lb,rfl,aw,av,ab⟩;have T:=aag ab;have s2:=T.size;have e9:EB w2 X 9 (.slice ka m kc):=(T.cell (p:=Y X 9) al).trans a9;have bq:w2.frozen? (Y X 9)=false:=(T.frozen (p:=Y X 9) al).trans f9;have an:=Dx T;have aV:=Dx av;have b2:=Dx (show wr.heap.size<=lb from aw);have bp:X<w2.heap.size:=Ai al s2;clear T ab av aw;refine⟨_,rfl,?_⟩)
    |(refine FM rfl (.tmp 67) (.tmp 71) 225 rfl D.heap.size 232 i0 (.agg #[Z 0,.slice none 0 0,.slice none 0 0]) 3 56 underlying225 hi ba bb be rfl Em (.slice ka m kc) m (tab bD zc) rfl (by exact(ER M.cl an).alloc _) (EN w2 0) 1 1 [Z 1,.slice none 0 0,EJ lb n n] rfl rfl (by exact LH w2 232 [Z 1,.slice none 0 0,EJ lb n n]) Vd JG U (by simp;have:=M.DG.size;omega) ?_;intro v' wz u aa b6;have⟨va,vn,vc,b9⟩:=Ei u;subst b9;have⟨ak,az⟩:=ad M b2 an aV ((AA _ _).alloc (Ar _) (.cells #[Z 1,.slice none 0 0,EJ lb n n] 232)) aa u;have gn:EB wz X 9 (.slice ka m kc):=(AR ak).trans a9;have gz:wz.frozen? (Y X 9)=false:=(A8 ak).trans f9;have b3:=Dx az;clear u aa b6 ak az))
   all_goals
    clear M ad;go_wp2;go_roundw
    case rel=>exact⟨m+1,_,_,U,Kc,b3⟩
    case measure=>exact Kt
  ·obtain rfl:m=N:=U;have⟨aq,M⟩:=FU (fE wr X _ _ _ _ _ _ _ _ _ _ f) g;clear g f ar d0 d1 ad ac;go_wp2_with fail
   refine cm aq ?_;rintro w3 ⟨L,Sn,g1,g2,g3,g4,g5,g6,g7⟩;have HF:=Dx (And.intro g1 (And.intro g2 (And.intro g3 (And.intro g4 (And.intro g5 (And.intro g6 g7))))));clear aq g1 g2 g3 g4 g5 g6 g7;go_wp2_with fail
   go_returns;exact⟨X,C,zc,L,Sn,wr,rfl,M,HF⟩
def L9(c:R.Cf):R.Wd:=⟨c,[],[],[],[],List.replicate c.DI.toNat (R.RF 1 c.DV),[0,0,0],List.replicate 9 R.Ic,[]⟩
theorem vf(h:R.GA c):R.Wf (L9 c):=by
 have e:=h;unfold R.GA at e;refine⟨h,by simp only[L9,BN];omega,λi cl hc=>?_,by simp[L9],by simp[L9],by simp[L9],by simp[L9],by simp[L9],rfl,by simp[L9],by simp[L9]⟩;simp only[L9,Be]at hc;split at hc
 ·cases hc;refine⟨by simp only[R.RF,BN,L9];omega,by simp[R.RF],by simp[R.RF],λk l hl=>?_⟩;simp only[R.RF,Be]at hl;split at hl
  ·cases hl;exact⟨Em,λq=>absurd q Em⟩
  ·cases hl
 ·cases hc
theorem aab{L Sn:Nat}(hc:R.GA c)(h:pW w0 x c c.DV.toNat c.DI.toNat C zc wr)(g1:wr.heap.size<=L)(g2:wr.heap.size<=Sn)(g4:w'.heap[L]?=some (.cells (GK [0,0,0]).toArray 3 (0,0)))(g5:w'.heap[Sn]?=some (.cells (tab Rk (List.replicate 9 R.Ic)).toArray 264 (0,0)))(g6:w'.heap[x]?=some (.cells #[Z c.DI,Z c.DV,Z c.Ew,Z c.DW,Z c.FF,.slice none 0 0,.slice none 0 0,.slice none 0 0,.slice none 0 0,C,EJ L 3 3,EJ Sn 9 9,.slice none 0 0] 229 (0,0)))(g7:DF (λk=>k=x) wr w'):∃v F,RW x v F (L9 c) w'/\(∀k,F k->w0.heap.size<=k)/\DY w0 w':=by
 have m:=h.DG.size;have T:=(AB.1 h.bx).1;have nx:∀{b:Nat} {X:Array Value} {t:Ag},wr.heap[b]?=some (.cells X t (0,0))->t≠229->¬b=x:=λQ O e=>by
  subst e;exact ES Q h.bx O rfl
 have f:w'.ownsRow 0 232 3 C zc.length (tab bD zc):=by
  rw[h.len];exact UD (g7.row h.cl (λj g=>by
   have⟨M,u⟩:=J3 h.cl g;exact nx u Em))
 refine⟨⟨.slice none 0 0,.slice none 0 0,.slice none 0 0,.slice none 0 0,C,L,Sn,.slice none 0 0,[],zc⟩,λk=>k=x\/k=L\/k=Sn\/C.ownBlock=some k\/∃(i:Nat) (z:R.Cl×CE),zc[i]?=some z/\z.2.lb=k,RM.whole ⟨g6,AZ _ _ _ _,AZ _ _ _ _,rfl,AZ _ _ _ _,⟨λz hz=>(by cases hz),λi j z y hz=>(by simp at hz),Aj ⟨rfl,rfl⟩⟩,AZ _ _ _ _,?_,f,λi z hz=>?_,λi z hz=>?_,g4,g5,⟨Aj rfl,Am (Aj rfl),Am (Am (Aj rfl))⟩,λj g=>?_,λi z hz=>⟨Am (Am (Am (Am ⟨i,z,hz,rfl⟩))),λj g=>?_⟩,sow,λi j z y hz D B=>⟨h.inj i j z y hz D B,λk hk=>?_⟩,λk hk=>?_⟩ (vf hc) (R.ws0 hc),λk hk=>?_,h.DG.trans (g7.DG m (λk e=>by rw[e];exact h.lo))⟩
 ·apply BF;intro i;rw[BP];simp only[L9,Be];by_cases hi:i<c.DI.toNat
  ·obtain⟨z,hz⟩:∃z,zc[i]?=some z:=⟨_,Ah (by rw[h.len];exact hi)⟩;rw[hz,Ay hi,Ce,(h.each i z hz).1];rfl
  ·rw[Ao hi,BM (by rw[h.len];omega)];rfl
 ·have⟨e1,e2,_⟩:=h.each i z hz;rw[e2,e1];exact AZ _ _ _ _
 ·have⟨e1,_,_,e4⟩:=h.each i z hz;refine⟨zl0 c.DV.toNat,?_,g7.at e4 (nx e4 Em),λy D=>?_⟩
  ·rw[e1];simp[zl0]
  ·rw[(C3.1 D).2];exact Rs.nil _ _ rfl
 ·grind [Value.ownBlock]
 ·rw[(h.each i z hz).2.1]at g;simp[Value.ownBlock]at g
 ·rw[(h.each i z hz).2.1]at hk;simp[Value.ownBlock]at hk
 ·have hs:=g7.size;rcases hk with rfl|rfl|rfl|q|⟨i,z,hz,rfl⟩
  ·omega
  ·grind
  ·grind
  ·grind [J3]
  ·have:=(AB.1 (h.each i z hz).2.2.2).1;omega
 ·rcases hk with rfl|rfl|rfl|q|⟨i,z,hz,rfl⟩
  ·exact h.lo
  ·omega
  ·omega
  ·exact GL h.cl q
  ·exact(h.each i z hz).2.2.1
theorem vg(w:Aa)(c:R.Cf)(hc:R.GA c):ET 87 #[fI c] w λe w'=>∃x v F,e=.returned (.tuple #[Ey x,Z 0])/\RW x v F (L9 c) w'/\(∀k,F k->w.heap.size<=k)/\DY w w':=by
 have g:=hc;unfold R.GA at g;have⟨a,b,r,t,f⟩:=c;simp only at g;obtain⟨N,rfl⟩:∃N:Nat,a=(N:Int):=⟨a.toNat,U⟩;obtain⟨n,rfl⟩:∃n:Nat,b=(n:Int):=⟨b.toNat,U⟩;refine(nY hc).mono ?_;rintro e w' ⟨x,C,zc,L,Sn,wr,rfl,B,g1,g2,g3,g4,g5,g6,g7⟩;have h:pW (w.alloc (.cells #[Z N,Z n,Z r,Z t,Z f] 26)) x ⟨(N:Int),(n:Int),r,t,f⟩ (⟨(N:Int),(n:Int),r,t,f⟩:R.Cf).DV.toNat (⟨(N:Int),(n:Int),r,t,f⟩:R.Cf).DI.toNat C zc wr:=by grind
 have⟨v,F,m,u,y⟩:=aab hc h g1 g2 g4 g5 g6 g7;have D:(w.alloc (.cells #[Z N,Z n,Z r,Z t,Z f] 26)).heap.size=w.heap.size+1:=Ev;have j:DY w (w.alloc (.cells #[Z N,Z n,Z r,Z t,Z f] 26)):=F9;exact⟨x,v,F,rfl,m,λk hk=>by have:=u k hk;omega,j.trans (y.mono U)⟩
theorem zj:(prog.info? 109).map (λi=>(i.zero,i.size,i.bytes))=some (some (.agg #[.pointer none,.pointer none]),2,16):=EL
theorem mW(a:Addr)(w:Aa):(binOp .eql 34 (.pointer (some a)) (.pointer none)).run prog w=.ok (.bool false) w:=EL
theorem fC(a:Addr)(w:Aa):(binOp .eql 107 (.pointer (some a)) (.pointer none)).run prog w=.ok (.bool false) w:=EL
theorem QK(w:Aa)(b:Nat)(c:R.Cf)(hc:¬R.GA c):D7 52 #[ptr b,fI c] w (.bool true) λw'=>DY w w':=by
 obtain⟨a,l,r,t,D⟩:=c;obtain⟨X,H2⟩:=FU (ado a l r t D hc) (λW=>aaa W ⟨a,l,r,t,D⟩ hc);have f:DY w (w.alloc (.cells #[Z a,Z l,Z r,Z t,Z D] 26)):=F9;have h:=AF w (.cells #[Z a,Z l,Z r,Z t,Z D] 26);obtain⟨W1,e⟩:∃W1,w.alloc (.cells #[Z a,Z l,Z r,Z t,Z D] 26)=W1:=⟨_,rfl⟩;rw[e]at f h;obtain⟨O,T,Q,u⟩:=bE e h f OM;clear e f h hc;go_enter func52,ntmps52;go_wp2_with fail
 rw[Dw O];refine cm (X W1) λw2 g=>?_
 have j:=(g.block _ (Dv T)).trans (Dw T);obtain⟨c0,c1,c2,c3,c4⟩:=bC j 0 1 2 3 4;have lx:=Dv j;have m:=Dx (Q.trans (g.mono Q.size));clear g j;go_wp2_with fail
 refine cm (H2 w2) λw3 y=>?_
 have M:=Dx (m.trans (y.mono m.size));clear y c0 c1 c2 c3 c4;go_wp2_with fail
 refine cm (u _ _) λw4 B=>?_
 rw[B];clear B w4;go_wp2;go_returns;exact⟨rfl,M⟩
theorem adn(hc:R.GA c):Bd 0 (J0 c):=by
 have e:R.fh c=some (J0 c):=by
  unfold R.fh J0;rw[Ay hc]
 refine⟨λf g=>?_,⟨_,R.Inv.new e⟩,R.EP.new e⟩;have:f.Ee=[]:=by grind [R.fh,R.Inv.new,R.EP.new,List.replicate,R.RF]
 simp[this]
structure aek(w:Aa)(c:R.Cf)(t:Tw)(w3:Aa):Prop where
 at':Ii 0 t w3
 G:t.G=J0 c
 fresh:∀k,t.Fw k->w.heap.size<=k
 U9:Below w.heap.size w w3
theorem tW{f:Aa}(hB:Bd 0 (J0 c))(m:DY w W1){p:Pl}{F:D9}(j:LW p F (J0 c) w2)(B:∀k,F k->W1.heap.size<=k)(g:DY W1 w2){v:RV}{E:D9}(y:RW x v E (L9 c) f)(u:∀k,E k->w2.heap.size<=k)(h:DY w2 f):aek w c ⟨p,F,x,v,E,J0 c⟩ f:=by
 have s1:=m.size;have s2:=g.size;refine⟨⟨j.DG h,y,λk q e=>?_,hB⟩,rfl,λk hk=>?_,m.trans ((g.trans (h.mono s2)).mono s1)⟩
 ·have:=j.lt k q;have:=u k e;omega
 ·rcases hk with q|q;all_goals grind
theorem uw(w:Aa)(a b:Nat)(j:Nat)(u:Ad)(h:([ptr a,Ey b]:Ae)[j]?=some u):(w.alloc (.cells #[ptr a,Ey b] 109)).cell? (((EN w 0):Addr).add j)=some u:=by grind [Addr.add_lit,World.cell?_alloc_new]
theorem Ym(hc:R.GA c)(f:w.heap[b]?=some (.cells #[lv,K] 69 (0,0)))(y:w.ownsRow 0 109 2 lv Ts.length (tab Vv Ts))(hn:Ts.length<=1000000000000):
  D7 52 #[ptr b,fI c] w (.bool true) λw'=>∃t B ad,aek w c t B/\DF (λk=>k=b\/lv.ownBlock=some k) B w'/\w'.heap[b]?=some (.cells #[ad,K] 69 (0,0))/\w'.ownsRow 0 109 2 ad (Ts.length+1) (tab Vv Ts++Vv t)/\∀j,ad.ownBlock=some j->lv.ownBlock=some j\/B.heap.size<=j:=by
 obtain⟨HC,HR⟩:=FU f y;have lb:=Dv f;obtain⟨av,aw,ar⟩:=Ll (λW=>zG W c hc) (λW=>vg W c hc) (adn hc);have T:DY w (w.alloc (.cells #[Z c.DI,Z c.DV,Z c.Ew,Z c.DW,Z c.FF] 26)):=F9;have ab:=AF w (.cells #[Z c.DI,Z c.DV,Z c.Ew,Z c.DW,Z c.FF] 26);obtain⟨W1,O⟩:∃W1,w.alloc (.cells #[Z c.DI,Z c.DV,Z c.Ew,Z c.DW,Z c.FF] 26)=W1:=⟨_,rfl⟩;rw[O]at T ab;obtain⟨az,HX,HB,ah⟩:=bE O ab T OM;obtain⟨a0,ak,aS⟩:=E8 y;subst aS;generalize Ts.length=m at *;generalize tab Vv Ts=TT at *;clear O T ab hc f y;go_enter func52,ntmps52;go_wp2_with fail
 rw[Dw az];refine(av W1).mono ?_;rintro e w2 ⟨p,F,rfl,l2,f2,X⟩;have ac:=(X.block _ (Dv HX)).trans (Dw HX);obtain⟨d0,d1,d2,d3,d4⟩:=bC ac 0 1 2 3 4;have lx:=Dv ac;obtain⟨HL,HF,aq⟩:=Ll l2 f2 X;clear X ac l2 f2;go_wp2_with fail
 refine(aw w2).mono ?_;rintro e B ⟨x,v,E,rfl,r3,f3,am⟩;have hN:=tW ar HB HL HF aq r3 f3 am;have HN:=Dx hN;have Q:=hN.U9;have h:=(Q.block b lb).trans (Dw HC);have an:=ER HR Q;have x0:=EI h 0;have xz:=Hf h 0;have bj:=Dv h;have n1:¬B.heap.size=b:=U;have n2:¬b=B.heap.size:=U;obtain⟨ae,M⟩:=FU h an;have p1:=mW (Y p.x 0);have p2:=fC (Y x 0);clear hN Q am r3 f3 d0 d1 d2 d3 d4 h an;obtain⟨j0,aN,b1,b2,b3⟩:=A1 zj;go_wp2_with fail
 refine cm (ah _ _) λw4 ao=>?_
 rw[ao];clear ao w4;go_wp2_with (at_builtin;go_must (refine AQ _ rfl (.tmp 36) (.tmp 40) 64 rfl 0 109 j0 (.agg #[.pointer none,.pointer none]) 2 16 underlying64 aN b1 b2 b3 rfl Em (.slice a0 m ak) m TT rfl (by exact M.alloc _) (EN B 0) 1 1 [ptr p.x,Ey x] rfl rfl (by exact uw B p.x x) Vd JG U U ?_))
 intro v' wz u g _ al;obtain⟨va,vn,vc,aV⟩:=Ei u;subst aV;have aa:DY B (B.alloc (.cells #[ptr p.x,Ey x] 109)):=F9;obtain⟨r1,r2,r3,r4⟩:=OQ (o:=0) (cs:=[.slice a0 m ak,K]) ae M Em aa g u al Ev;have D:=Kd ae M Em aa g;have y0:=EI D 0;have yz:=Hf D 0;have lz:=Dv D;obtain⟨R1,R2,R3,R4⟩:=bE r1 r2 r3 r4;clear r1 r2 r3 r4 u g al aa D;go_wp2;go_returns;exact⟨rfl,_,B,_,HN,R3,R2,R1,R4⟩
theorem Nn(h:Hn w0 z b N Ts L lv K w)(c:R.Cf)(hn:Ts.length<=1000000000000):
  D7 52 #[ptr b,fI c] w (.bool true) λw'=>∃e j,Hn w0 z b N e L j K w'/\e.length<=Ts.length+1/\(R.GA c->∃t,e=Ts++[t]/\t.G=J0 c):=by
 by_cases hc:R.GA c
 ·refine cm (Ym hc h.bo.cell h.row hn) ?_;rintro w' ⟨t,O,j,f,hk,g,D,m⟩;have y:=h.DG f.U9;have M:Ii N t O:=⟨f.at'.l,f.at'.r,f.at'.ap,f.at'.bd.le (AV _)⟩;refine⟨rfl,Ts++[t],j,y.push hk g D m M (λk hk=>?_),Ev,λ_=>⟨t,rfl,f.G⟩⟩;have u:=f.fresh k hk;exact⟨⟨Br h.U9.size u,h.free k u⟩,λq=>by have:=h.lt k q;omega⟩
 ·refine cm (QK w b c hc) λw' B=>?_
  exact⟨rfl,Ts,lv,h.DG B,U,λq=>absurd q hc⟩
end Go.Proofs.YtblomippkddgiaaGreatDoor
