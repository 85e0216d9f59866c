import Derived.Test.YtblomippkddgiabGreatDoorJ12
set_option maxRecDepth 100000
set_option maxHeartbeats 4000000
namespace Go.Proofs.YtblomippkddgiabGreatDoor
open Go.Proofs.Tryz RowKit Maps Go
variable {a a':Act}{l' listed:Array Bool}{ops:Array Oper}{S v1:ByteArray}{Q:Exit→Act→World→Prop}{F:D9}{at' by' e0 host kd life tb u v0:Int}{rs:List Nat}{fl fl':List R.Fl}{js:List R.Jb}{rb s:List UInt8}{aN b c cap cb cc cs_ fuel g i id j0 jc jn k m n sn x:Nat}{o oi:Oper}{P:Pk}{p:Pl}{M:R.Bk}{f f':R.Fl}{l:R.Ln}{r:R.Sn}{G:R.Wd}{v:RV}{md:Region.Mode}{K K':Value}{W w wz:World}
theorem Mt(w:Aa)(n:Nat)(a:Af)(m c:Nat)i(d:Dy w n #[.slice a m c] 110):
  D7 151 #[ptr n,Z i] w (.bool (decide (0<=i/\i<m))) λf=>f=w:=by
 have c1:=EI d 0;clear d;by_cases b:0<=i
 .have e:decide (0<=i/\i<(m:Int))=decide (i<(m:Int)):=by simp[b]
  rw[e]
  delta D7
  go_in
  go_wp2
  go_ret
  exact DN
 .have e:decide (0<=i/\i<(m:Int))=false:=by simp[b]
  rw[e]
  delta D7
  go_in
  go_wp2
  go_ret
  exact DN
theorem Zn{a:Af}{i:Int}(b:Dy w n #[.slice a m c] 110)(hi:i<0\/m<=i):
  D7 89 #[ptr n,Z i] w (.tuple #[Z 0,.string ⟨#[]⟩,Z 9]) λd=>d=w:=by
 have H:=Dx (Mt w n a m c i b);rw[show decide (0<=i/\i<(m:Int))=false by simp;omega]at H;clear b hi
 delta D7
 go_in
 go_wp2_with (first|(go_at_call 151;refine cs H ?_))
 go_returns;exact DN
theorem uo(a:Dy w n #[EJ g m c] 110)(hi:i<m)(b:w.cell? (Y g (i*3))=Z v0)(d:w.cell? (Y g (i*3+1))=some (.string v1)):
  D7 89 #[ptr n,Z i] w (.tuple #[Z v0,.string v1,Z 0]) (DY w):=by
 have H:=Dx (Mt w n (some (Y g 0)) m c i a);rw[show decide (0<=(i:Int)/\(i:Int)<m)=true by simp;omega]at H;have c1:=EI a 0;have e:0<=(i:Int):=U;have f:(i:Int)<m:=U;clear a
 delta D7
 go_in
 go_wp2_with (first|(go_at_call 151;refine cs H ?_))
 exact afM
theorem SS(w:Aa)(n:Nat)(a:Af)(m c:Nat)i(b:Dy w n #[.slice a m c] 110)(hi:i<0\/(m:Int)<=i):
  D7 53 #[ptr n,Z i] w (.tuple #[Z 0,.string ⟨#[]⟩,Z 9]) λd=>d=w:=by
 have H:=Dx (Zn b hi);clear b hi
 delta D7
 go_in
 go_wp2_with (first|(go_at_call 89;refine cs H ?_))
 go_returns;exact DN
theorem zu(m:Dy w n #[K] 110)(l:w.ownsRow 0 166 3 K fl (tab Gp fl))(hf:fl[i]?=f)(J:fl.length<=40):
  D7 53 #[ptr n,Z i] w (.tuple #[Z f.to,.string (str f.s),Z 0]) λx=>Kh w n K (fl.eraseIdx i) x:=by
 have hi:=GG hf;rcases l.2 with ⟨_,Q⟩|⟨g,cap,y,rfl,_,hg,t,h,v,htk⟩
 .omega
 have q:∀j,j<3->y[i*3+j]?=(Gp f)[j]?:=λj hj=>by
  exact acy
 have C:w.cell? (Y g (i*3))=some (Z f.to):=by
  have:=q 0 U;simp[World.cell?,hg];simpa [Gp] using this
 have D:w.cell? (Y g (i*3+1))=some (.string (str f.s)):=by
  exact xb
 have u:=ES m hg Em;have H:=Dx (uo m hi C D);have F:Hid (∀x,DY w x->D7 90 #[EJ g fl.length cap,Z i,Z ((i:Int)+1)] x (EJ g (fl.length-1) cap) λc=>Dy c n #[EJ g fl.length cap] 110/\Kh w n (EJ g fl.length cap) (fl.eraseIdx i) (c.setCell (Y n 0) (EJ g (fl.length-1) cap))):=λx z=>by
  refine(yJ ((z.block g (AB.1 hg).1).trans hg) I t h v htk hi).mono ?_;rintro e c ⟨rfl,⟨r,M,k2,N⟩,hk⟩;have s:Dy c n #[EJ g fl.length cap] 110:=by
   have:=(z.block n (AB.1 m).1).trans m;exact hk.at this u
  have a:(fl.eraseIdx i).length=fl.length-1:=by rw[List.length_eraseIdx,Ay hi]
  refine⟨I,s,⟨⟨EJ g (fl.length-1) cap,?_,?_,Aj I⟩,?_⟩⟩
  .exact Ek (cs:=[EJ g fl.length cap]) (off:=0) s _
  .refine⟨?_,Am ⟨g,cap,r,by rw[a],AV _,?_,by rw[a];omega,h,k2,by rw[a];exact N⟩⟩
   .rw[F8 JN,BZ]
   .rw[AU _ _ _ _ (λe=>u e.symm)];exact M
  .have A:DF (λk=>k=n\/(Value.slice (some (Y g 0)) fl.length cap).ownBlock=some k) w c:=(DF.J z _).trans (hk.mono (λk _ e=>Am (by rw[e];rfl)));exact A.setCell (p:=Y n 0) (Aj (Aj I)) _
 have c1:=EI m 0;have B:=Dv m;have e1:IntKind.i64.wrap ((i:Int)+1)=(i:Int)+1:=Iz;generalize Kh w n (EJ g fl.length cap) (fl.eraseIdx i)=Post at *;generalize str f.s=SF at *;generalize fl.length-1=L1 at *;generalize fl.length=L0 at *;clear q m l hf hg v htk C D
 delta D7
 go_in
 go_wp2_with fail
 refine cm H λO o=>?_
 have E:=Dx (F O o);have d1:=(o.cell (p:=Y n 0) B).trans c1;clear o;go_wp2_with fail
 refine cm E ?_;rintro P ⟨d,b⟩;have d2:=EI d 0;have S:DJ P n 0:=Eb d;have L:=Dv d;have G:=Dx b;clear d b;go_wp2;go_returns;exact⟨I,G⟩
theorem R.Wf.Ms(h:R.Wf G)(a:fl.length<=40)(b:∀f∈fl,f.s.length<=21):R.Wf {G with D:=fl}:=⟨h.cf,h.a,λj c hc=>⟨(h.cl j c hc).a,(h.cl j c hc).b,(h.cl j c hc).d,(h.cl j c hc).H⟩,a,b,h.sv,h.e,h.nm,h.st,h.nd,h.d⟩
theorem R.Wf.erase(h:R.Wf G)(k:Nat):R.Wf {G with D:=G.D.eraseIdx k}:=by grind [R.Wf,R.Wf.Ms,List.mem_of_mem_eraseIdx]
theorem LW.land(h:LW p F G w)(g:G.D[i]?=f):
  D7 53 #[ptr p.n,Z i] w (.tuple #[Z f.to,.string (str f.s),Z 0]) λb=>∃c,LW p c {G with D:=G.D.eraseIdx i} b/\D8 F c w b:=by
 have⟨K,d,a,e⟩:=h.bn;refine cm (zu d a g h.wf.X) λb hn=>?_
 exact⟨I,h.net d a hn e (R.Wf.erase h.wf i)⟩
theorem LW.SS(h:LW p F G w){i:Int}(hi:R.off G i):D7 53 #[ptr p.n,Z i] w (.tuple #[Z 0,.string ⟨#[]⟩,Z 9]) λa=>a=w:=by grind [LW,R.off,Fa,YtblomippkddgiabGreatDoor.SS]
theorem R.jW{i:Int}(h:¬R.off G i):∃(k:Nat) (f:R.Fl),i=k/\G.D[k]?=f:=by
 unfold R.off at h;have hl:i.toNat<G.D.length:=U;exact⟨i.toNat,G.D[i.toNat],U,Ah hl⟩
theorem LW.show(h:LW p F G w)i:D7 136 #[ptr p.x,Z i] w (.tuple #[Z (R.MC G i).1,.string (str (R.MC G i).2.1),Z (R.MC G i).2.2]) (DY w):=by
 unfold R.MC;by_cases hi:R.off G i
 .rw[Ay hi];have⟨K,d,b,g⟩:=h.bn;obtain⟨a,c,rfl⟩:=Fa b;have H:=Dx (Zn d hi);have c0:=EI h.bx 0;clear h d b g hi
  delta D7
  go_in
  go_wp2_with (first|(go_at_call 89;refine cs H ?_))
  go_returns;exact⟨I,AA _ _⟩
 .rw[Ao hi];obtain⟨k,f,rfl,e⟩:=R.jW hi;rw[AY,e];exact h.adF e
theorem LW.drop(h:LW p F G w)i:D7 61 #[ptr p.x,Z i] w (Z (R.JM G i).1) λd=>∃a,LW p a (R.JM G i).2 d/\D8 F a w d:=by
 have c0:EB w p.x 0 (ptr p.n):=EI h.bx 0;unfold R.JM;by_cases hi:R.off G i
 .rw[Ay hi];have H:=Dx (h.SS hi);have e:Hid (∃a,LW p a G w/\D8 F a w w):=⟨F,h,D8.refl F w⟩;generalize p.n=n at *;clear h hi
  delta D7
  go_in
  go_wp2_with (first|(go_at_call 103;go_in)|(go_at_call 53;refine cs H ?_))
  go_returns;exact⟨I,e⟩
 .rw[Ao hi];obtain⟨k,f,rfl,c⟩:=R.jW hi;rw[AY];have H:=Dx (h.land c);generalize str f.s=SF at *;clear h hi c
  delta D7
  go_in
  go_wp2_with (first|(go_at_call 103;go_in)|(go_at_call 53;refine cm H λg b=>?_))
  go_returns;exact⟨I,b⟩
theorem iF(w:Aa)(s:Ac)(k:Nat)(b:UInt8)(hk:k<s):
  D7 171 #[.string (str s),Z k,.int .u8 b.toNat] w (.string (str (s.set k (s.getD k 0 ^^^ b)))) (DY w):=by
 have⟨cap,W,hc,e,j⟩:=yF w s;have f:s[k]?=some (s.getD k 0):=by rw[Bu,Ah hk];rfl
 generalize s.getD k 0=a at f ⊢;have⟨c1,p⟩:=e.2 k a f;have c:=e.set k (a ^^^ b);have d:=c.conv cap;rw[BG]at d;have g:=aeg a b;have h:Hid (DY w (W.setCell (EN w k) (.int .u8 ((a ^^^ b).toNat:Int)))):=j.setCell Ev _;have m:0<=(k:Int):=U;have o:(k:Int)<(s.length:Int):=U;have l:=e.1;obtain⟨X,i⟩:∃X:Int,X=((a ^^^ b).toNat:Int):=DR;rw[<-i]at d g h;clear i;generalize str (s.set k (a ^^^ b))=S2 at *;generalize str s=S1 at *;generalize s.length=n at *;clear e c j f hk
 delta D7
 go_in
 go_wp2
 go_ret
 exact⟨I,h⟩
theorem jq{a:Af}{i:Int}(b:Dy w n #[.slice a m c] 110)(h:((i<0\/m<=i)/\e0=9)\/(0<=i/\i<m/\m=40/\e0=12)):
  D7 104 #[ptr n,Z i] w (Z e0) λg=>g=w:=by
 have⟨H,d⟩:=FU (Mt w n a m c i b) (Qd w n a m c b);clear b;rcases h with ⟨hi,rfl⟩|⟨e,f,rfl,rfl⟩
 .rw[show decide (0<=i/\i<(m:Int))=false by simp;omega]at H;clear hi
  delta D7
  go_in
  go_wp2_with (first|(go_at_call 151;refine cs H ?_))
  go_ret
  exact DN
 .rw[show decide (0<=i/\i<((40:Nat):Int))=true by simp;omega]at H;rw[show decide ((40:Nat)=40)=true by simp]at d;clear e f
  delta D7
  go_in
  go_wp2_with (first|(go_at_call 151;refine cs H ?_)|(go_at_call 170;refine cs d ?_))
  go_ret
  exact DN
theorem Xw(w:Aa)a(S:Ab)(b:Bool)(j:Nat)(u:Ad)(h:([Z a,.string S,.bool b]:Ae)[j]?=u):(w.alloc (.cells #[Z a,.string S,.bool b] 166)).cell? (((EN w 0):Addr).add j)=u:=by grind [Addr.add_lit,World.cell?_alloc_new]
theorem zD{xs:Ae}(d:w.heap[n]?=some (.cells #[K] 110 (0,0)))(b:w.ownsRow 0 166 3 K m xs)(f:DY w W)(l:W.grownBy wz K.ownBlock)(i:wz.ownsRow 0 166 3 K' fl' (tab Gp fl'))(j:K'.ownBlock=K.ownBlock\/K'.ownBlock=j0)(p:w<=j0):wz.heap[n]?=some (.cells #[K] 110 (0,0))/\Kh w n K fl' (wz.setCell (Y n 0) K'):=by
 have g:=K5 b d Em;have a:=(AB.1 d).1;have c:wz.heap[n]?=some (.cells #[K] 110 (0,0)):=by
  rw[l.block n (Ai a f.size) (λe=>g e.symm),f.block n a];exact d
 have h:K'.ownBlock≠some n:=by grind
 refine⟨c,⟨⟨K',?_,?_,?_⟩,?_⟩⟩
 .exact Ek (cs:=[K]) (off:=0) c K'
 .grind [Jl,Below.heap_setCell]
 .grind
 .have o:DF (λk=>k=n\/K.ownBlock=some k) w W:=DF.J f _
  grind [DF.grown,DF.setCell]
theorem yG(l:Dy w n #[K] 110)(b:w.ownsRow 0 166 3 K fl (tab Gp fl))(hf:fl[i]?=f)(F:fl.length<40):
  D7 104 #[ptr n,Z i] w (Z 0) λM=>Kh w n K (fl++[f]) M:=by
 have hi:=GG hf;rcases id b.2 with ⟨_,N⟩|⟨g,cap,p,rfl,_,hg,B,C,u,htk⟩
 .omega
 have q:∀j,j<3->p[i*3+j]?=(Gp f)[j]?:=λj hj=>by
  exact acy
 have S:w.cell? (Y g (i*3))=some (Z f.to):=by
  have:=q 0 U;simp[World.cell?,hg];simpa [Gp] using this
 have T:w.cell? (Y g (i*3+1))=some (.string (str f.s)):=by
  exact xb
 have W:w.cell? (Y g (i*3+2))=some (.bool f.a):=by
  have:=q 2 U;simp[World.cell?,hg];simpa [Gp] using this
 have H:=Dx (Mt w n (some (Y g 0)) fl.length cap i l);rw[show decide (0<=(i:Int)/\(i:Int)<(fl.length:Int))=true by simp;omega]at H;have A:=Dx (Qd w n (some (Y g 0)) fl.length cap l);rw[show decide (fl.length=40)=false by simp;omega]at A;have D:Hid (∀(k:Aa) (m:Ad),k.ownsRow 0 166 3 m (fl.length+1) (tab Gp fl++[Z f.to,.string (str f.s),.bool f.a])->(w.drew.alloc (.cells #[Z f.to,.string (str f.s),.bool f.a] 166)).grownBy k (Value.slice (some (Y g 0)) fl.length cap).ownBlock->(m.ownBlock=(Value.slice (some (Y g 0)) fl.length cap).ownBlock\/m.ownBlock=some (w.heap.size+1))->Dy k n #[EJ g fl.length cap] 110/\Kh w n (EJ g fl.length cap) (fl++[f]) (k.setCell (Y n 0) m)):=λk m how r e=>by
  refine zD l b ((AA _ _).drew.alloc (Ar _) _) r ?_ e U;rw[AJ,Jn];exact how
 have⟨i0,s,x,y,z⟩:=A1 dY;have o:=Dx b;have c1:=EI l 0;have J:=Dv l;have G:=(AB.1 hg).1;have O:0<=(i:Int):=U;have P:(i:Int)<(fl.length:Int):=U;generalize Kh w n (EJ g fl.length cap) (fl++[f])=Post at *;generalize str f.s=SF at *;generalize tab Gp fl=TF at *;generalize fl.length=L0 at *;clear q l b hf hg u htk
 delta D7
 go_in
 go_wp2_with (first|(go_at_call 151;refine cs H ?_)|(go_at_call 170;refine cs A ?_))
 go_region_law (refine FM I (.tmp 15) (.tmp 23) 108 I 0 166 i0 (.agg #[Z 0,.string ⟨#[]⟩,DI]) 3 32 underlying108 s x y z I Em (EJ g L0 cap) L0 TF I (by exact(ER o ((AA _ _).drew)).alloc _) (EN w 0) 1 1 [Z f.to,.string SF,.bool f.a] I I (by exact Xw w.drew f.to SF f.a) Vd JG U U ?_;intro Q k a c e;have⟨X,vn,vc,v⟩:=Ei a;subst v;have t:=D k _ a c (by simpa using e);have⟨h,d⟩:=t;have E:=Dx d;have d1:k.cell? (Y n 0)=some (EJ g L0 cap):=EI h 0;have z1:DJ k n 0:=Eb h;have L:=Dv h;clear a c e h d)
 all_goals
  go_wp2
  go_ret
  exact⟨I,E⟩
theorem LW.copy(h:LW p F G w)i:D7 62 #[ptr p.x,Z i] w (Z (R.JA G i).1) λw'=>∃d,LW p d (R.JA G i).2 w'/\D8 F d w w':=by
 have c0:=EI h.bx 0;have⟨K,j,b,s⟩:=h.bn;have m:=h.wf.X;have H:D7 104 #[ptr p.n,Z i] w (Z (R.JA G i).1) λw'=>∃d,LW p d (R.JA G i).2 w'/\D8 F d w w':=by
  obtain⟨a,c,rfl⟩:=Fa b;unfold R.JA;by_cases hi:R.off G i
  .rw[Ay hi];refine(jq j (Aj ⟨hi,I⟩)).mono ?_;exact iE
  .rw[Ao hi];obtain⟨k,f,rfl,l⟩:=R.jW hi;have hk:=GG l;by_cases o:40<=G.D.length
   .rw[Ay o];refine(jq j (Am ⟨U,U,U,I⟩)).mono ?_;exact iE
   .rw[Ao o,AY,l];refine(yG j b l U).mono ?_;rintro e w' ⟨rfl,hn⟩;refine⟨I,h.net j b hn s (R.Wf.Ms h.wf Fy (λg u=>?_))⟩;rcases Bj.1 u with q|q
    .exact h.wf.b g q
    .rw[Bg.1 q];exact h.wf.b f (Ap l)
 have t:=Dx H;clear H h j b s m;generalize R.JA G i=r at *
 delta D7
 go_in
 go_wp2_with (first|(go_at_call 104;refine(Dw t).mono ?_;rintro e v ⟨rfl,n⟩))
 go_returns;exact⟨I,n⟩
theorem qM{a:Af}{i:Int}(b:Dy w n #[.slice a m c] 110)(hi:i<0\/m<=i):
  D7 105 #[ptr n,Z i,Z at',Z by'] w (Z 9) λd=>d=w:=by
 have H:=Dx (Mt w n a m c i b);rw[show decide (0<=i/\i<(m:Int))=false by simp;omega]at H;clear b hi;exact pz
theorem qL(a:Dy w n #[EJ g m cap] 110)(hi:i<m)(e:EB w g (i*3+1) (.string S))(b:at'<0\/S<=at'\/by'<1\/255<by'):
  D7 105 #[ptr n,Z i,Z at',Z by'] w (Z 9) λd=>d=w:=by
 have H:=Dx (Mt w n (some (Y g 0)) m cap i a);rw[show decide (0<=(i:Int)/\(i:Int)<m)=true by simp;omega]at H;have c1:=EI a 0;have f:0<=(i:Int):=U;have h:(i:Int)<m:=U;have c:=Dx b;clear a b;by_cases a0:at'<0
 .exact pz
 .by_cases a1:(S.size:Int)<=at'
  .exact pz
  .by_cases a2:by'<1
   .exact pz
   .have a3:255<by':=by have:=Dw c;omega
    exact pz
theorem kV(a:Dy w n #[EJ g m cap] 110)(hi:i<m)(c:EB w g (i*3+1) (.string S))(d:EB w g (i*3+2) DC)(a0:¬at'<0)(a1:¬S<=at')(a2:¬by'<1)(a3:¬255<by'):
  D7 105 #[ptr n,Z i,Z at',Z by'] w (Z 18) λb=>b=w:=by
 have H:=Dx (Mt w n (some (Y g 0)) m cap i a);rw[show decide (0<=(i:Int)/\(i:Int)<m)=true by simp;omega]at H;have c1:=EI a 0;have e:0<=(i:Int):=U;have f:(i:Int)<m:=U;clear a;exact pz
theorem yu{b:UInt8}(c:World->Prop)(o:Dy w n #[EJ g m cap] 110)(hi:i<m)(h:∃e,Dy w g e 166)(z:EB w g (i*3+1) (.string (str s)))(A:EB w g (i*3+2) DI)(hk:k<s)(q:1<=b.toNat)
  (v:Hid (∀l,DY w l->c ((l.setCell (Y g (i*3+1)) (.string (str (s.set k (s.getD k 0 ^^^ b))))).setCell (Y g (i*3+2)) DC))):
  D7 105 #[ptr n,Z i,Z k,Z b.toNat] w (Z 0) λl=>c l:=by
 have H:=Dx (Mt w n (some (Y g 0)) m cap i o);rw[show decide (0<=(i:Int)/\(i:Int)<m)=true by simp;omega]at H;have y:=Dx (iF w s k b hk);have c1:=EI o 0;have E:0<=(i:Int):=U;have F:(i:Int)<m:=U;have j:=Er s;have a0:¬(k:Int)<0:=U;have a1:¬((str s).size:Int)<=(k:Int):=by rw[j];omega
 have r:=b.toNat_lt;have a2:¬(b.toNat:Int)<1:=U;have a3:¬255<(b.toNat:Int):=U;have D:IntKind.u8.wrap (b.toNat:Int)=(b.toNat:Int):=by rw[wrap_u8];omega
 have⟨e,h⟩:=h;have d:=(AB.1 h).1;have u:=Dx h;generalize str (s.set k (s.getD k 0 ^^^ b))=S2 at *;generalize str s=S1 at *;generalize (b.toNat:Int)=B at *;clear o j hk q r h
 delta D7
 go_in
 go_wp2_with (first|(go_at_call 151;refine cs H ?_))
 refine cm y λt f=>?_
 have a:=(f.block g d).trans (Dw u);have d1:=(f.cell (p:=(Y g (i*3+1))) d).trans z;have d2:=(f.cell (p:=(Y g (i*3+2))) d).trans A;have G:DJ t g (i*3+1):=Eb a;have J:DJ t g (i*3+2):=Eb a;have C:=Dv a;have x:=Dx (v t f);clear f a;go_wp2
 go_ret
 exact⟨I,x⟩
theorem yZ(b:fl[i]?=f)(a:Ac):((tab Gp fl).set (i*3+1) (.string (str a))).set (i*3+2) DC=tab Gp (fl.set i ⟨f.to,a,true⟩):=by
 have hl:=GG b;rw[J6 JN fl i 1 f ⟨f.to,a,f.a⟩ _ b U rfl];rw[J6 JN (fl.set i ⟨f.to,a,f.a⟩) i 2 ⟨f.to,a,f.a⟩ ⟨f.to,a,true⟩ _ (by simp[hl]) U rfl];rw[A5]
theorem LW.Sf{p:Pl}(h:LW p F G w)(i at' d:Int):D7 63 #[ptr p.x,Z i,Z at',Z d] w (Z (R.Jz G i at' d).1) λw'=>∃s,LW p s (R.Jz G i at' d).2 w'/\D8 F s w w':=by
 have c0:=EI h.bx 0;have⟨K,n,m,T⟩:=h.bn;have H:D7 105 #[ptr p.n,Z i,Z at',Z d] w (Z (R.Jz G i at' d).1) λw'=>∃s,LW p s (R.Jz G i at' d).2 w'/\D8 F s w w':=by
  unfold R.Jz;by_cases hi:R.off G i
  .rw[Ay hi];obtain⟨a,c,rfl⟩:=Fa m;refine(qM n hi).mono ?_;exact iE
  .rw[Ao hi];obtain⟨k,f,rfl,v⟩:=R.jW hi;have hk:=GG v;rw[AY,v];rcases id m.2 with ⟨_,h0⟩|⟨g,cap,t,rfl,_,hg,u,x,P,A⟩
   .omega
   have q:∀j,j<3->t[k*3+j]?=(Gp f)[j]?:=λj X=>by
    rw[<-Jh JN G.D k j f v X,<-A,BI,Ay U];simp
   have S:w.cell? (Y g (k*3+1))=some (.string (str f.s)):=by
    exact xb
   have B:w.cell? (Y g (k*3+2))=some (.bool f.a):=by
    have:=q 2 U;simp[World.cell?,hg];simpa [Gp] using this
   simp only;by_cases E:at'<0\/(f.s.length:Int)<=at'\/d<1\/255<d
   .rw[Ay E];refine(qL n hk S (by rw[Er];exact E)).mono ?_;exact iE
   .rw[Ao E];by_cases o:f.a=true
    .rw[Ay o];rw[o]at B;refine(kV n hk S B U (by rw[Er];omega) U U).mono ?_;exact iE
    .rw[Ao o];have L:f.a=false:=by simpa using o
     rw[L]at B;obtain⟨a,rfl⟩:∃a:Nat,at'=(a:Int):=⟨at'.toNat,U⟩;obtain⟨b,rfl⟩:∃b:UInt8,d=(b.toNat:Int):=⟨b8 d,(FP U U).symm⟩;rw[AY,bQ];have y:=ES n hg Em;refine(yu (λw'=>∃s,LW p s {G with D:=G.D.set k ⟨f.to,f.s.set a (f.s.getD a 0 ^^^ b),true⟩} w'/\D8 F s w w') n hk ⟨t,hg⟩ S B U U ?_);intro w' J;have M:=(J.block g (AB.1 hg).1).trans hg;have C:=(J.block p.n (AB.1 n).1).trans n;have O:=Ek (cs:=t.toList) (off:=k*3+1) M (.string (str (f.s.set a (f.s.getD a 0 ^^^ b))));have z:=Ek (off:=k*3+2) O DC;have l:(G.D.set k ⟨f.to,f.s.set a (f.s.getD a 0 ^^^ b),true⟩).length=G.D.length:=Ev;have hn:Kh w p.n (EJ g G.D.length cap) (G.D.set k ⟨f.to,f.s.set a (f.s.getD a 0 ^^^ b),true⟩) ((w'.setCell (Y g (k*3+1)) (.string (str (f.s.set a (f.s.getD a 0 ^^^ b))))).setCell (Y g (k*3+2)) DC):=by
      refine⟨⟨EJ g G.D.length cap,?_,?_,Aj I⟩,?_⟩
      .rw[AU _ _ _ _ (λe=>y e),AU _ _ _ _ (λe=>y e)];exact C
      .refine⟨by rw[F8 JN,BZ],Am ⟨g,cap,_,by rw[l],AV _,z,by rw[l];exact u,x,by simpa using P,?_⟩⟩;rw[l];rw[Wq,Wq,A,yZ v]
      .have N:DF (λq=>q=p.n\/(Value.slice (some (Y g 0)) G.D.length cap).ownBlock=some q) w w':=DF.J J _;exact(N.setCell (p:=(Y g (k*3+1))) (Aj (Am I)) _).setCell (p:=(Y g (k*3+2))) (Aj (Am I)) _
     refine h.net n m hn T (R.Wf.Ms h.wf (by rw[l];exact h.wf.X) (λq hq=>?_));rcases BJ hq with r|r
     .exact h.wf.b q r
     .rw[r];simpa using h.wf.b f (Ap v)
 have W:=Dx H;clear H h n m T;generalize R.Jz G i at' d=r at *
 delta D7
 go_in
 go_wp2_with (first|(go_at_call 105;refine(Dw W).mono ?_;rintro e w1 ⟨rfl,Q⟩))
 go_returns;exact⟨I,Q⟩
theorem oq{a:Af}{i:Int}(x8:EB w x 8 (.slice a m cc))(h:i<0\/m<=i):D7 137 #[Ey x,Z i] w (.tuple #[Z 0,.string ⟨#[]⟩,Z 9]) λb=>b=w:=by
 have hl:=Gv x8;by_cases c:i<0
 .delta D7
  go_in
  go_wp2;go_returns;exact DN
 .have d:(m:Int)<=i:=U
  delta D7
  go_in
  go_wp2;go_returns;exact DN
theorem vq(x8:w.cell? (Y x 8)=EJ g m cap)(hi:i<m)(b:w.cell? (Y g (i*3))=Z v0)(c:w.cell? (Y g (i*3+1))=some (.string v1)):D7 137 #[Ey x,Z i] w (.tuple #[Z v0,.string v1,Z 0]) (DY w):=by
 obtain⟨d,e,f,h⟩:¬(i:Int)<0/\¬(m:Int)<=i/\0<=(i:Int)/\(i:Int)<m:=U
 delta D7
 go_in
 go_wp2;go_region_held3 (λa=>a.cell? (Y x 8)=some (EJ g m cap)/\a.cell? (Y g (i*3))=some (Z v0)/\a.cell? (Y g (i*3+1))=some (.string v1)) (go_keep) (fail)
 go_wp2;go_returns;exact⟨I,(AA _ _).drew⟩
theorem RW.VJ(h:RW x v F G w):∃a b,v.Fl=.slice a G.D b/\EB w x 8 (.slice a G.D b):=by
 have⟨a,b,c⟩:=Fa h.X;exact⟨a,b,c,ED h.bx 8 _ (by rw[<-c];rfl)⟩
theorem RW.show(h:RW x v F G w)i:D7 137 #[Ey x,Z i] w (.tuple #[Z (R.MC G i).1,.string (str (R.MC G i).2.1),Z (R.MC G i).2.2]) (DY w):=by
 have⟨a,j,e,x8⟩:=h.VJ;unfold R.MC;by_cases b:R.off G i
 .rw[Ay b];refine cs (oq x8 b) ?_;exact⟨I,AA _ _⟩
 .rw[Ao b];unfold R.off at b;obtain⟨k,rfl⟩:∃k:Nat,i=(k:Int):=⟨i.toNat,U⟩;have hk:k<G.D.length:=U;obtain⟨f,c⟩:∃f,G.D[k]?=some f:=⟨_,Ah hk⟩;simp only[AY,c];have⟨g,cap,d,_,hc,_⟩:=Jx FY U h.X c;rw[e]at d;cases d;exact vq x8 hk (hc 0 _ U I) (hc 1 _ U I)
theorem nA{a:Af}{i:Int}(x8:EB w x 8 (.slice a m cc))(h:i<0\/m<=i):D7 139 #[Ey x,Z i] w (Z 9) λb=>b=w:=by
 have hl:=Gv x8;by_cases c:i<0
 .exact wU
 .have d:(m:Int)<=i:=U;exact wU
theorem fK{a:Af}{i:Int}(x8:EB w x 8 (.slice a m cc))(c:¬i<0)(d:¬m<=i)(e:(40:Int)<=m):D7 139 #[Ey x,Z i] w (Z 12) λb=>b=w:=by
 have hl:=Gv x8;exact wU
theorem Zv{b:Bool}(j:Nat)(u:Ad)(h:([Z host,.string S,.bool b]:Ae)[j]?=u):(w.alloc (.cells #[Z host,.string S,.bool b] 278)).cell? (((EN w 0):Addr).add j)=u:=by grind [Addr.add_lit,World.cell?_alloc_new]
theorem fM{c:R.Cf}(hx:w.heap[x]?=some (.cells (Iv c v) 186 (0,0)))(a:w.ownsRow 0 278 3 v.Fl fl (tab FN fl))(L:fl[i]?=f)(hl:fl.length<40):
  D7 139 #[Ey x,Z i] w (Z 0) λy=>Jy w x c v (fl++[f]) y:=by
 have⟨g,E,C,aa,b,_⟩:=Jx FY U a L;have N:=GG L;obtain⟨m,F⟩:∃m,fl.length=m:=DK;rw[F]at C;have⟨i0,hi,P,Q,S⟩:=A1 dZ;have⟨to,r,p⟩:=f;have k0:EB w g (i*3) (Z to):=b 0 _ U I;have k1:EB w g (i*3+1) (.string (str r)):=b 1 _ U I;have k2:EB w g (i*3+2) (.bool p):=b 2 _ U I;obtain⟨B,s⟩:∃B,B=tab FN fl:=DR;have l:Hid (∀(y:Aa) (K:Ad),y.ownsRow 0 278 3 K (m+1) (B++[Z to,.string (str r),.bool p])->y.heap[x]?=some (.cells (Iv c {v with Fl:=K}) 186 (0,0))->DF (λk=>k=x\/v.Fl.ownBlock=some k) w y->(∀j,K.ownBlock=some j->v.Fl.ownBlock=some j\/w.heap.size<=j)->Jy w x c v (fl++[⟨to,r,p⟩]) y):=λy K h1 h2 h3 h4=>⟨K,by
  rw[Jn,AJ,F,<-s];exact h1,h2,h3,h4⟩
 rw[F,<-s,C]at a;generalize Jy w x c v (fl++[⟨to,r,p⟩])=Post at *;have e:w.heap[x]?=some (.cells [Z c.b,Z c.a,Z c.c,Z c.e,Z c.d,v.N,v.S,v.V,EJ g m E,v.C,EJ v.L 3 3,EJ v.Sn 9 9,v.J].toArray 186 (0,0)):=by
  rw[hx,<-C]
 rw[C]at l;obtain⟨ae,X,ac,ad,W,T⟩:¬(m:Int)<=i/\(i:Int)<m/\¬(i:Int)<0/\0<=(i:Int)/\¬(40:Int)<=m/\m<40:=U;have x8:EB w x 8 (EJ g m E):=EI e 8;have z8:DJ w x 8:=Hf e 8;have ab:=Dv e;have t:DY w (w.drew.alloc (.cells #[Z to,.string (str r),.bool p] 278)):=(AA w.heap.size w).drew.alloc Ev _;have G:Hid (∀(n:Aa),(w.drew.alloc (.cells #[Z to,.string (str r),.bool p] 278)).grownBy n (some g)->n.heap[x]?=w.heap[x]?):=λn M=>(Kd e a Em t M).trans e.symm
 have A:Hid (∀(n:Aa) (z:Ad),(w.drew.alloc (.cells #[Z to,.string (str r),.bool p] 278)).grownBy n (some g)->n.ownsRow 0 278 3 z (m+1) (B++[Z to,.string (str r),.bool p])->(z.ownBlock=some g\/z.ownBlock=some (w.heap.size+1))->Post (n.setCell (Y x 8) z)):=λn z M d q=>by
  have D:=OQ (o:=8) e a Em t M d q U;have⟨d1,d2,d3,d4⟩:=D;exact l _ _ d1 d2 d3 d4
 have J:=Dx a;clear e a s F hl hx C l t b L N;generalize str r=SF at *
 delta D7
 go_in
 go_wp2;go_region_law (first
  |(refine FM rfl (.tmp 26) (.tmp 34) 181 rfl 0 278 i0 (.agg #[Z 0,.string ⟨#[]⟩,DI]) 3 32 underlying181 hi P Q S rfl Em (EJ g m E) m B rfl (by exact(ER J (AA _ _).drew).alloc _) (EN w 0) 1 1 [Z to,.string SF,.bool p] rfl rfl (by exact Zv) Vd JG U U ?_;intro z n d h q;have⟨va,vn,vc,O⟩:=Ei d;subst O;have u:=G _ h;have H:=Dx (A _ _ h d (by simpa [Value.ownBlock] using q));have g8:EB n x 8 (EJ g m E):=(AR u).trans x8;have gz:DJ n x 8:=(A8 u).trans z8;clear d h q u))
 all_goals
  go_wp2;go_returns;exact⟨I,H⟩
theorem rT:∀u∈tab FN fl,u.oneCell'=true:=by
 intro u hu;simp only[tab,List.mem_flatMap]at hu;have⟨f,_,a⟩:=hu;simp only[FN,CX,List.not_mem_nil,or_false]at a;rcases a with rfl|rfl|rfl<;>rfl
theorem nH{a:Af}{i:Int}(x8:EB w x 8 (.slice a m cc))(h:i<0\/m<=i):D7 138 #[Ey x,Z i] w (Z 9) λb=>b=w:=by
 have hl:=Gv x8;by_cases c:i<0
 .delta D7
  go_in
  go_wp2;go_returns;exact DN
 .have d:(m:Int)<=i:=U
  delta D7
  go_in
  go_wp2;go_returns;exact DN
theorem uL{c:R.Cf}(hx:w.heap[x]?=some (.cells (Iv c v) 186 (0,0)))(a:w.ownsRow 0 278 3 v.Fl fl (tab FN fl))(M:i<fl)(hl:fl.length<=40):
  D7 138 #[Ey x,Z i] w (Z 0) λD=>Jy w x c v (fl.eraseIdx i) D:=by
 obtain⟨g,W,L,aN,-,-⟩:=Jx FY U a (Ah M);obtain⟨m,E⟩:∃m,fl.length=m:=DK;rw[E]at L;have⟨i0,hi,A,B,C⟩:=A1 dZ;have an:m<=W:=by
  have X:=a.2;rw[L]at X;rcases X with ⟨h0,_⟩|⟨g',am,aw,hv,_,_,hc,_⟩
  .cases h0
  .cases hv;omega
 have r:Hid (∀(D:Aa) (K:Ad),D.ownsRow 0 278 3 K (i+(m-(i+1))) (tab FN (fl.take i)++tab FN (fl.drop (i+1)))->D.heap[x]?=some (.cells (Iv c {v with Fl:=K}) 186 (0,0))->DF (λk=>k=x) w D->(∀j,K.ownBlock=some j->w.heap.size<=j)->Jy w x c v (fl.eraseIdx i) D):=λD K h1 X h3 h4=>⟨K,by
  rw[List.eraseIdx_eq_take_drop_succ,UX,AJ,Bv,A9,E,Ct U];exact h1,X,h3.mono (λk _ h=>Aj h),λj t=>Am (h4 j t)⟩
 have ah:∀j u,(tab FN (fl.take i))[j]?=some u->(tab FN fl)[j]?=some u:=λj u hu=>by
  rw[<-UZ FY,BI]at hu;split at hu
  .exact hu
  .cases hu
 have ak:∀j u,(tab FN (fl.drop (i+1)))[j]?=some u->(tab FN fl)[(i+1)*3+j]?=some u:=λj u hu=>by
  rw[<-UY FY,Cn]at hu;exact hu
 have l1:(tab FN (fl.take i)).length=i*3:=by rw[F8 FY,Bv,E,Ct U,BZ]
 have l2:(tab FN (fl.drop (i+1))).length=(m-(i+1))*3:=by rw[F8 FY,A9,E,BZ]
 have o1:∀u∈tab FN (fl.take i),u.oneCell'=true:=rT;have o2:∀u∈tab FN (fl.drop (i+1)),u.oneCell'=true:=rT;generalize tab FN (fl.take i)=T1 at *;generalize tab FN (fl.drop (i+1))=T2 at *;generalize tab FN fl=TF at *;rw[E,L]at a;generalize Jy w x c v (fl.eraseIdx i)=Post at *;have o:w.heap[x]?=some (.cells [Z c.b,Z c.a,Z c.c,Z c.e,Z c.d,v.N,v.S,v.V,EJ g m W,v.C,EJ v.L 3 3,EJ v.Sn 9 9,v.J].toArray 186 (0,0)):=by
  rw[hx,<-L]
 have b1:¬(m:Int)<=i:=U;have aV:¬(i:Int)<0:=U;have x8:=EI o 8;have ae:=Dv o;have e1:IntKind.i64.wrap ((i:Int)+1)=(i:Int)+1:=Iz;have⟨HX,J⟩:=FU o a;obtain⟨aq,ar,aS⟩:i<40/\m<=40/\i<m:=U;clear o a hx L M hl E
 delta D7
 go_in
 go_wp2_with (at_builtin;go_must (refine AQ _ I (.tmp 17) (.tmp 23) 181 I 0 278 i0 (.agg #[Z 0,.string ⟨#[]⟩,DI]) 3 32 underlying181 hi A B C I Em (.slice none 0 0) 0 [] I (AZ _ _ _ _) (Y g 0) i _ T1 I l1 (by intro j u hu;rw[Bc,Cr];exact Nb J (ah j u hu)) o1 JG U U ?_))
 intro v1 G b d _ s;have l:DY w G:=⟨d.os,d.tape,d.output,d.size,λk hk=>d.block k hk (λe=>by cases e)⟩;have⟨Q,T,S,al⟩:=Ei b;subst al;have f:=(l.block x ae).trans (Dw HX);have y8:EB G x 8 (EJ g m W):=EI f 8;have N:=Dv f;have aa:=Dx (ER J l);have z:∀k,(Value.slice Q T S).ownBlock=some k->w.heap.size<=k:=λk hk=>by
  rcases s with q|q
  .rw[q]at hk;cases hk
  .rw[q]at hk;cases hk;exact Ar _
 have HFIN:Hid (∀(n:Ad) (w2:Aa),w2.ownsRow 0 278 3 n (i+(m-(i+1))) (T1++T2)->G.grownBy w2 (Value.slice Q T S).ownBlock->(n.ownBlock=(Value.slice Q T S).ownBlock\/n.ownBlock=some G.heap.size)->Post (w2.setCell (Y x 8) n)/\w2.heap[x]?=G.heap[x]?):=λn w2 ho hg ac=>by
  have hgx:=hg.block x N (λe=>Fg b f Em e.symm);have P:=hgx.trans f;have hk:=DF.setCell (F:=λk=>k=x) (DF.refl _ w2) (p:=Y x 8) (Aj I) n;have h1:DF (λk=>k=x) w G:=DF.J l _;refine⟨r _ n (hk.row ho (λj t e=>Fg ho P Em (e ▸ t))) (Ek P n) ((h1.grown hg (λk hk=>Am (z k hk))).setCell (p:=Y x 8) (Aj I) n) (λj t=>?_),hgx⟩;rcases ac with q|q
  .exact z j (q ▸ t)
  .rw[q]at t;cases t;exact l.size
 have H:=Dx b;have z8:=Hf f 8;clear b d s l f x8 z r;by_cases ad:W=i+1
 .have O:m=i+1:=U;obtain rfl:T2=[]:=BA (by rw[l2,O];simp);subst ad O;go_wp2_with (at_builtin;go_must (refine AQ _ I (.tmp 25) (.tmp 32) 181 I 0 278 i0 (.agg #[Z 0,.string ⟨#[]⟩,DI]) 3 32 underlying181 hi A B C I Em (.slice Q T S) i T1 I (by exact H) (Y g 0) 0 0 [] I Ev (by intro j u hu;cases hu) (by intro u hu;cases hu) JG U U ?_))
  intro n w2 how2 hg2 _ hat2;have⟨ua,un,uc,y⟩:=Ei how2;subst y;have⟨hP,hgx⟩:=HFIN _ _ (by rw[CZ,Cb];exact how2) hg2 hat2;have u8:=(AR hgx).trans y8;exact abv
 .go_wp2_with (at_builtin;go_must (refine AQ _ I (.tmp 25) (.tmp 32) 181 I 0 278 i0 (.agg #[Z 0,.string ⟨#[]⟩,DI]) 3 32 underlying181 hi A B C I Em (.slice Q T S) i T1 I (by exact H) (Y g ((i+1)*3)) (m-(i+1)) _ T2 I l2 (by intro j u hu;rw[Bc];exact Nb aa (ak j u hu)) o2 JG U U ?_))
  intro n w2 how2 hg2 _ hat2;have⟨ua,un,uc,y⟩:=Ei how2;subst y;have⟨hP,hgx⟩:=HFIN _ _ how2 hg2 hat2;have u8:=(AR hgx).trans y8;exact abv
theorem RW.drop(h:RW x v F G w)i:D7 138 #[Ey x,Z i] w (Z (R.JM G i).1) λd=>∃n e,RW x n e (R.JM G i).2 d/\D8 F e w d:=by
 have⟨a,o,p,x8⟩:=h.VJ;unfold R.JM;by_cases b:R.off G i
 .rw[Ay b];refine cs (nH x8 b) ?_
  grind [D8.refl]
 .rw[Ao b];unfold R.off at b;obtain⟨k,rfl⟩:∃k:Nat,i=(k:Int):=⟨i.toNat,U⟩;have hk:k<G.D.length:=U;simp only[AY];have hwf:=h.wf;refine cm (uL h.bx h.X hk hwf.X) λd m=>?_
  refine⟨I,h.zb ⟨hwf.cf,hwf.a,λj c hc=>?_,?_,λf g=>hwf.b f (Cj g),hwf.sv,hwf.e,hwf.nm,hwf.st,hwf.nd,hwf.d⟩ m⟩
  .exact wN
  .have:=List.length_eraseIdx_le (l:=G.D) (i:=k);have:=hwf.X;simp only;omega
theorem RW.copy(h:RW x v F G w)i:D7 139 #[Ey x,Z i] w (Z (R.JA G i).1) λl=>∃p m,RW x p m (R.JA G i).2 l/\D8 F m w l:=by
 have⟨a,r,s,x8⟩:=h.VJ;unfold R.JA;by_cases d:R.off G i
 .rw[Ay d];refine cs (nA x8 d) ?_
  grind [D8.refl]
 .rw[Ao d];unfold R.off at d;obtain⟨k,rfl⟩:∃k:Nat,i=(k:Int):=⟨i.toNat,U⟩;have hk:k<G.D.length:=U;have hwf:=h.wf;by_cases b:40<=G.D.length
  .rw[Ay b];refine cs (fK x8 U U U) ?_
   grind [D8.refl]
  .rw[Ao b];obtain⟨f,e⟩:∃f,G.D[k]?=some f:=⟨_,Ah hk⟩;simp only[AY,e];refine cm (fM h.bx h.X e U) λl o=>?_
   refine⟨I,h.zb ⟨hwf.cf,hwf.a,λj c hc=>?_,?_,λg n=>?_,hwf.sv,hwf.e,hwf.nm,hwf.st,hwf.nd,hwf.d⟩ o⟩
   .exact wN
   .grind
   .rcases Bj.1 n with q|q
    .exact hwf.b g q
    .rw[Bg.1 q];exact hwf.b f (Ap e)
theorem vY(s:Ac)(k:Nat)(h:k<s):(str s)[k]'(by rw[Er];exact h)=s.getD k 0:=by grind [K8]
theorem nt(s:Ac)(k:Nat)(c:UInt8)(h:k<s):(str s).extract 0 k++str [c]++(str s).extract (k+1) s=str (s.set k c):=by grind [LB,Qs,List.set_eq_take_append_cons_drop,List.take_of_length_le]
theorem nz(W:Aa)(c:UInt8):(convert 281 9 (EJ W 1 1)).run prog (W.alloc (.cells #[.int .u8 c.toNat] 5))=.ok (.string (str [c])) (W.alloc (.cells #[.int .u8 c.toNat] 5)):=by
 have:=C5 (P:=prog) (W.alloc (.cells #[.int .u8 (c.toNat:Int)] 5)) 281 9 5 (EN W 0) 1 [c] underlying281 EL underlying9 λj a=>?_
 all_goals grind [Addr.add_lit,World.cell?_alloc_new]
theorem fJ(W:Aa)(c:UInt8):(convert 281 9 (EJ W 1 1)).run prog (W.alloc (.cells #[.int .u8 c.toNat] 5)).drew=.ok (.string (str [c])) (W.alloc (.cells #[.int .u8 c.toNat] 5)).drew:=nz W.drew c
theorem nk{a:Af}{i:Int}(x8:EB w x 8 (.slice a m cc))(h:i<0\/m<=i):D7 140 #[Ey x,Z i,Z at',Z by'] w (Z 9) λb=>b=w:=by
 have hl:=Gv x8;by_cases c:i<0
 .exact iC
 .have d:(m:Int)<=i:=U;exact iC
theorem nj(x8:EB w x 8 (EJ g m cap))(hi:i<m)(b:EB w g (i*3+1) (.string S))(h:at'<0\/S<=at'\/by'<1\/255<by'):D7 140 #[Ey x,Z i,Z at',Z by'] w (Z 9) λa=>a=w:=by
 have hl:=Gv x8;obtain⟨c,d,e,f⟩:¬(i:Int)<0/\¬(m:Int)<=i/\0<=(i:Int)/\(i:Int)<m:=U;by_cases a0:at'<0
 .exact iC
 .by_cases a1:(S.size:Int)<=at'
  .exact iC
  .by_cases a2:by'<1
   .exact iC
   .have a3:255<by':=U;exact iC
theorem fF(x8:EB w x 8 (EJ g m cap))(hi:i<m)(b:EB w g (i*3+1) (.string S))(c:EB w g (i*3+2) DC)(a0:¬at'<0)(a1:¬S<=at')(a2:¬by'<1)(a3:¬255<by'):D7 140 #[Ey x,Z i,Z at',Z by'] w (Z 18) λa=>a=w:=by
 have hl:=Gv x8;obtain⟨d,e,f,h⟩:¬(i:Int)<0/\¬(m:Int)<=i/\0<=(i:Int)/\(i:Int)<m:=U;exact iC
theorem uH{to:Int}{b:UInt8}(l:by'=b.toNat)(x8:EB w x 8 (EJ g m cap))(hi:i<m)(j:EB w g (i*3) (Z to))(z:EB w g (i*3+1) (.string (str s)))(A:EB w g (i*3+2) DI)(hz:∀o,DJ w g o)(hk:k<s)(B:s.length<=21)(a2:¬by'<1)(a:World->Prop)(f:∀o,a (((((w.setCell (Y g (i*3)) (Z to)).setCell (Y g (i*3+1)) (.string (str (s.set k ((s.getD k 0) ^^^ b))))).setCell (Y g (i*3+2)) DC).alloc o).drew)):D7 140 #[Ey x,Z i,Z k,Z by'] w (Z 0) λy=>a y:=by
 have⟨hl,q⟩:=KM x8 j;obtain⟨D,E,F,G⟩:¬(i:Int)<0/\¬(m:Int)<=i/\0<=(i:Int)/\(i:Int)<m:=U;have r:=Er s;obtain⟨H,J,K⟩:¬(k:Int)<0/\¬((str s).size:Int)<=(k:Int)/\(k:Int)<((str s).size:Int):=U;have L:¬255<by':=by have:=b.toNat_lt;omega
 have M:0<=(k:Int):=U;have d:=Dx f;have e1:IntKind.i64.wrap ((k:Int)+1)=(k:Int)+1:=Iz;have p:k<=s.length:=U;have h:k+1<=s.length:=U;have t:=hz (i*3);have u:=hz (i*3+1);have v:=hz (i*3+2);obtain⟨C,hC⟩:∃C,(str s)[k]'U ^^^ b=C:=DK;have c:=(CG (· ^^^ b) (vY s k hk).symm).trans hC;have n:=fJ w C;clear f hz
 delta D7
 go_in
 go_wp2_with fail
 rw[aeg,hC]
 go_region
 all_goals
  rw[show (str s).extract 0 k++str [C]++(str s).extract (k+1) s.length=str (s.set k C) from nt s k C hk];have e:=Dx (d (.cells #[.int .u8 (C.toNat:Int)] 5));rw[Dw c]at e;clear d;go_wp2;go_returns;exact⟨I,e⟩
theorem wh(a:fl[i]?=f):(((tab FN fl).set (i*3) (Z f'.to)).set (i*3+1) (.string (str f'.s))).set (i*3+2) (.bool f'.a)=tab FN (fl.set i f'):=by
 have hi:=GG a;have s0:=J6 FY fl i 0 f ⟨f'.to,f.s,f.a⟩ (Z f'.to) a U I;have s1:=J6 FY (fl.set i ⟨f'.to,f.s,f.a⟩) i 1 ⟨f'.to,f.s,f.a⟩ ⟨f'.to,f'.s,f.a⟩ (.string (str f'.s)) (by simp[hi]) U I;have s2:=J6 FY ((fl.set i ⟨f'.to,f.s,f.a⟩).set i ⟨f'.to,f'.s,f.a⟩) i 2 ⟨f'.to,f'.s,f.a⟩ f' (.bool f'.a) (by simp[hi]) U I;rw[Cz]at s0;rw[s0,s1,s2];simp
theorem oe(h:w.ownsRow 0 278 3 (EJ g n cap) n (tab FN fl))(s:fl[i]?=f)(o:Obj)(j:W=((((w.setCell (Y g (i*3)) (Z f'.to)).setCell (Y g (i*3+1)) (.string (str f'.s))).setCell (Y g (i*3+2)) (.bool f'.a)).alloc o).drew):W.ownsRow 0 278 3 (EJ g n cap) n (tab FN (fl.set i f'))/\DF (λk=>k=g) w W:=by
 have hi:=GG s;have q:DF (λk=>k=g) w W:=by
  rw[j];exact(((((DF.refl (λk=>k=g) w).setCell (p:=(Y g (i*3))) (Aj I) _).setCell (p:=(Y g (i*3+1))) (Aj I) _).setCell (p:=(Y g (i*3+2))) (Aj I) _).alloc _).drew
 refine⟨⟨by rw[F8 FY,BG,<-F8 FY];exact h.1,Am ?_⟩,q⟩;have hl:=h.1;rw[F8 FY]at hl;rcases h.2 with ⟨m,_⟩|⟨x,e,a,v,r,l,hc,b,d,u⟩
 .cases m
 .cases v;have c:w.heap[g]?=some (.cells a.toList.toArray 278 (0,0)):=by rw[l]
  have t:=(AB.1 l).1;have y:=Ek (off:=i*3+2) (Ek (off:=i*3+1) (Ek (off:=i*3) c (Z f'.to)) (.string (str f'.s))) (.bool f'.a);refine⟨g,cap,(((a.toList.set (i*3) (Z f'.to)).set (i*3+1) (.string (str f'.s))).set (i*3+2) (.bool f'.a)).toArray,I,r,?_,hc,b,by simpa using d,?_⟩
  .rw[j];show ((((w.setCell (Y g (i*3)) (Z f'.to)).setCell (Y g (i*3+1)) (.string (str f'.s))).setCell (Y g (i*3+2)) (.bool f'.a)).alloc o).heap[g]?=_
   grind [Below.heap_alloc]
  grind [List.take_set,wh]
theorem RW.Sf(h:RW x v F G w)(i at' b:Int):D7 140 #[Ey x,Z i,Z at',Z b] w (Z (R.Jz G i at' b).1) λl=>∃L m,RW x L m (R.Jz G i at' b).2 l/\D8 F m w l:=by
 have⟨a,S,M,x8⟩:=h.VJ;unfold R.Jz;by_cases u:R.off G i
 .rw[Ay u];refine cs (nk x8 u) ?_
  grind [D8.refl]
 .rw[Ao u];unfold R.off at u;obtain⟨n,rfl⟩:∃n:Nat,i=(n:Int):=⟨i.toNat,U⟩;have hn:n<G.D.length:=U;obtain⟨f,t⟩:∃f,G.D[n]?=some f:=⟨_,Ah hn⟩;simp only[AY,t];have⟨g,cap,z,N,hc,hz⟩:=Jx FY U h.X t;have hrow:=h.X;rw[z]at hrow;have H:=z;rw[M]at z;cases z;have k0:=hc 0 _ U I;have J:=hc 1 _ U I;have k2:=hc 2 _ U I;have E:((str f.s).size:Int)=(f.s.length:Int):=by rw[Er]
  by_cases C:at'<0\/(f.s.length:Int)<=at'\/b<1\/255<b
  .rw[Ay C];refine(nj x8 hn J (by rw[E];exact C)).mono ?_;rintro e l ⟨rfl,rfl⟩
   grind [D8.refl]
  .rw[Ao C];by_cases p:f.a=true
   .rw[Ay p];rw[p]at k2;refine cs (fF x8 hn J k2 U U U U) ?_
    grind [D8.refl]
   .rw[Ao p];rw[Bool.not_eq_true]at p;rw[p]at k2;obtain⟨k,rfl⟩:∃k:Nat,at'=(k:Int):=⟨at'.toNat,U⟩;have hwf:=h.wf;have d:=hwf.b f (Ap t);have A:b=((b8 b).toNat:Int):=by grind [b8,UInt8.toNat_ofNat']
    simp only[AY];have s:R.Wf {G with D:=G.D.set n ⟨f.to,f.s.set k ((f.s.getD k 0) ^^^ b8 b),true⟩}:=by
     refine⟨hwf.cf,hwf.a,λj c hc=>?_,by simpa using hwf.X,λy Q=>?_,hwf.sv,hwf.e,hwf.nm,hwf.st,hwf.nd,hwf.d⟩
     .exact wN
     .rcases BJ Q with q|q
      .exact hwf.b y q
      .rw[q];simpa using d
    refine(uH A x8 hn k0 J k2 hz U d U (λl=>∃L m,RW x L m {G with D:=G.D.set n ⟨f.to,f.s.set k ((f.s.getD k 0) ^^^ b8 b),true⟩} l/\D8 F m w l) (λo=>?_)).mono ?_
    .have⟨P,r⟩:=oe (f':=⟨f.to,f.s.set k ((f.s.getD k 0) ^^^ b8 b),true⟩) hrow t o I;have B:¬x=g:=λe=>by
      exact wR
     refine h.Ms (K:=v.Fl) s (r.mono (λk _ e=>Am (by rw[H,e];rfl))) (r.at h.bx B) ?_ (λj O=>Aj O)
     grind
    grind
theorem Mp.aeU{α:Type}{k t:Ag}{lit:α->Lit}{g:α->Option Int}(h:Mp w k b lit g n)(K:Keyed prog k)(i:prog.underlying t=some (.map k 3)){key:Ad}{a:α}(d:keyOf prog k key=lit a):(Instr.lookup t (.map (b)) key false).run prog w=.ok (.int .i64 ((g a).getD 0)) w:=by
 have⟨D,f,l,h3⟩:=h;obtain⟨v,m,e,j⟩:=f.lookup K i (acF) (plainElem_int underlying3 (pK (by omega))) d;obtain⟨c,rfl,hc,_⟩:=plainElem_int_inv underlying3 j;simp only[Prod.mk.injEq]at hc;rw[e];cases hg:g a with
 |some x=>
  have:=(h3 a).2 x hg;rw[hc.1]at this;cases this;rfl
 |none=>
  exact ab2
theorem LW.aeM(h:LW p F G w){c:R.Cl}(a:R.At G i k c l):i<3/\k<3:=by
 have b:=h.wf.cf;unfold R.GA at b;have d:=h.wf.a;have e:=(h.wf.cl i c a.cl).a;have f:=GG a.cl;have g:=GG a.ln;omega
theorem LW.X(h:LW p F G w){c:R.Cl}(g:R.At G i k c l)(C:l.d=1)(S:P.H=k)(hr:EC P)(aa:P.off=R.DL l.b):
  D7 159 #[ptr (p.cb i),pv P] w Ep λr=>∃f,LW p f (if P.Ez=l.X then R.JS (if l.X+1<R.DL l.b then R.EG (R.Eh G i k {l with X:=l.X+1}) i k false else R.Eh G i k {l with X:=l.X+1}) i k else G) r/\D8 F f w r:=by
 have⟨xs,x,D,hR,hx,b,z,K,J⟩:=h.H g.cl g.ln;have E:=P4 h g.cl;have hi:=GG g.cl;have hk:=GG g.ln;have B:=(h.wf.cl i c g.cl).H k l g.ln;have⟨z1,z2,A,ah,M,L⟩:=B.one C;have⟨eu,Q,ea,ew,et⟩:=b.one C;have H:=(h.b i hi).2.1;have ak:c.a.length=c.a.length:=rfl;have u:=E.a3;have a6:=z.a6;rw[ea]at a6;have a5:=z.a5;rw[Q]at a5;have am:=R.IV A.2;by_cases o:P.Ez=l.X
 .rw[Ay o];have al:=hr.2.2.2.2.2.2.2.1;have st:=GJ (j:=6) (x':={x with X:=l.X+1}) (v:=Z (l.X+1)) D hx U I;have y:DF (λq=>q=p.lb i) w (w.setCell ⟨p.lb i,k*10+6,none⟩ (Z (l.X+1))):=Eg _;have T:=h.Sr (l':={l with X:=l.X+1}) g.cl D hR K y st.1 ⟨B.a,λ_=>⟨z1,z2,A,by simp only;omega,M,L⟩⟩ ⟨b.d,b.a,b.b,λq=>⟨eu,Q,I,ew,et⟩,b.two⟩ J;have W:D8 F F w (w.setCell ⟨p.lb i,k*10+6,none⟩ (Z (l.X+1))):=⟨y.mono (λq _ e=>by rw[e];exact H),λ_ q=>Aj q⟩;have m:=g.set {l with X:=l.X+1};refine qj (λr=>∃f,LW p f (if l.X+1<R.DL l.b then R.EG (R.Eh G i k {l with X:=l.X+1}) i k false else R.Eh G i k {l with X:=l.X+1}) r/\D8 F f w r) _ hk S u a5 a6 (Eb D) U o (λw=>IC l.b w U) (λn wa d=>?_) ?_ (λn wa d=>?_)
  .have s:(w.setCell ⟨p.lb i,k*10+6,none⟩ (Z (l.X+1))).heap.size=w.heap.size:=Ev;rw[<-s]at d;refine cm ((T.h d).piece m.cl m.ln C n false) ?_;rintro r ⟨f,N,O⟩;rw[Ay n];exact⟨I,f,N,(W.trans (D8.J F d)).trans O⟩
  .rintro r ⟨f,N,O⟩;have t:R.At (if l.X+1<R.DL l.b then R.EG (R.Eh G i k {l with X:=l.X+1}) i k false else R.Eh G i k {l with X:=l.X+1}) i k {c with a:=c.a.set k {l with X:=l.X+1}} {l with X:=l.X+1}:=by
    split
    .unfold R.EG;exact m.send _ _
    .exact m
   refine cm (N.rest t C) ?_;rintro ar ⟨r1,r2⟩;exact⟨I,f,r1,O.trans r2⟩
  .have s:(w.setCell ⟨p.lb i,k*10+6,none⟩ (Z (l.X+1))).heap.size=w.heap.size:=Ev;rw[<-s]at d;rw[Ao n];exact⟨F,T.h d,W.trans (D8.J F d)⟩
 .rw[Ao o];refine cm (acM hk S u a6 o) λr d=>?_
  exact⟨I,F,h.h d,D8.J F d⟩
theorem LW.rejected(h:LW p F G w){c:R.Cl}(a:R.At G i k c l)(O:l.d=1)(D:P.H=k)(K:EC P)(A:P.off=2):
  D7 161 #[ptr (p.cb i),pv P] w Ep λv=>∃y,LW p y (R.Eh G i k {l with d:=4+P.Ez}) v/\D8 F y w v:=by
 have⟨C,x,g,E,L,f,H,u,o⟩:=h.H a.cl a.ln;have m:=P4 h a.cl;have hi:=GG a.cl;have hk:=GG a.ln;have s:=(h.wf.cl i c a.cl).H k l a.ln;have n:=(h.b i hi).2.1;have J:=K.2.2.2.2.2.2.2.1;have t:=f.b U;have r:=Dv g;refine Vr w (p.cb i) (p.lb i) c.a.length k (4+P.Ez) P _ hk D m.a3 U (λB z=>?_);have j:B.heap[p.lb i]?=some (.cells (tab J7.cells C).toArray 129 (0,0)):=by rw[z.block _ r];exact g
 refine cm (TW B (p.lb i) k (4+P.Ez) C x (Lc o) j L) ?_;rintro v ⟨M,N⟩;have b:=(DF.J z _).trans N;refine⟨I,F,?_,b.mono (λq _ e=>by rw[e];exact n),λ_ q=>Aj q⟩;refine h.Sr a.cl g E u b M ⟨s.a,λq=>by simp only at q;omega⟩ ⟨I,f.a,λ_=>t,λq=>by simp only at q;omega,λq=>by simp only at q;omega⟩ ?_
 grind [Gg.nil]
theorem iG{a b:Int}(c:a=0\/a=1)(d:b=0\/b=1)(h:EU a=EU b):a=b:=aP U U U U h
theorem iq{l:Ac}{n:Int}(h:l=8*n):R.DL l=n:=by
 unfold R.DL;omega
theorem mE{g:Int->Option Int}(h:Mp w 3 b Vl g n)(hu:-9223372036854775808<=u/\u<=9223372036854775807):(Instr.lookup 130 (.map (b)) (Z u) false).run prog w=.ok (Z ((g u).getD 0)) w:=
 h.aeU (int_keyed underlying3) underlying130 (keyOf_int_mk underlying3 (pK hu))
theorem V6{t:Ab}{v:List R.It}(h:R.Fi t v=rb)(b:1<=rb.length):v≠[]:=λe=>by
 subst e;have a:=R.JK h;unfold R.Fi at h;rw[Ay a]at h;have⟨_,d,_,c,_⟩:=V.JO a;have:=Option.some.inj h;rw[c]at this;rw[<-this]at b;cases d<;>simp[V.Et]at b
theorem LW.uY(h:LW p F G w)(ht:JI w)(bg:¬F 0)(hI:R.Inv M G){c:R.Cl}(o:R.At G i k c l)(h1:l.d=1)(hP:P.H=k)(hr:EC P){d:R.Cd}{e:R.En}(hd:M ⟨i,c.b,k,l.a⟩=d)(hdn:R.Kz G.a ⟨i,c.b,k,l.a⟩ d e rb)(ho:P.off=R.DL rb)(b:P.d=R.EY rb P.Ez):
  D7 160 #[ptr (p.cb i),pv P] w Ep λg=>∃F',LW p F' (R.IL G i P) g/\D8 F F' w g:=by
 have⟨xs,x,L,hR,hx,y,A,b9,ak⟩:=h.H o.cl o.ln;have K:=P4 h o.cl;have⟨aV,b2⟩:=h.aeM o;have hk:=GG o.ln;have an:=(h.wf.cl i c o.cl).H k l o.ln;have⟨z1,z2,am,c7,bt,br⟩:=an.one h1;have⟨eu,em,ea,ew,et⟩:=y.one h1;have⟨ec,ep,ac⟩:=y.two h1;have ah:=(h.b i (GG o.cl)).2.1;have⟨d',w1,w2,w3,w4,w5,w6,w7⟩:=(hI.ln i c k l o.cl o.ln).H h1;rw[hd]at w1;cases w1;have⟨aS,_⟩:=hI.bk _ d hd;have cg:=hr.2.2.2.2.2.2.2.1;have b7:=hr.2.2.2.2.2.2.1;have ch:=R.IV am.2;have bT:=R.ID (s:=l.b) am.1;have cc:=iq w6.2;have ci:=y.b U;have a3:=A.a3;rw[eu]at a3;have a5:=A.a5;rw[em]at a5;have a6:=A.a6;rw[ea]at a6;have a7:=A.a7;rw[ec]at a7;have bU:rb.length<=70:=by
  exact ab9
 have ca:l.H.length<=72:=by grind [R.Inv.unique]
 have c8:P.d.length<=8:=by rw[b,R.LA];omega
 have H1:Hid (∀w,D7 203 #[.string (str l.b)] w (Z (R.DL l.b)) λg=>g=w):=λw=>IC l.b w U
 have H2:Hid (∀w,D7 203 #[.string (str l.H)] w (Z l.f) λg=>g=w):=λw=>by
  grind [IC]
 have ce:R.Ia G i P.H=l:=by rw[hP];exact o.H
 have ao:R.IL G i P=if l.X<R.DL l.b-1\/l.f<P.Ez then G else if P.Ez=l.f then (if l.f+1=P.off then R.Eh G i k {l with H:=l.H++P.d,f:=l.f+1,X:=R.DL l.b,D:=(V.I8 l.to (l.H++P.d)).2,d:=2} else R.JS (R.LP (R.Eh G i k {l with H:=l.H++P.d,f:=l.f+1,X:=R.DL l.b}) i P) i k) else R.LP G i P:=by grind [R.IL]
 rw[ao];by_cases hold:l.X<R.DL l.b-1\/¬P.Ez=l.f
 .refine fV w (p.cb i) (p.lb i) c.a.length k (R.DL l.b) l.f l.X P (str l.b) (str l.H) _ hk hP K.a3 a5 a6 a7 U H1 H2 hold (λq B b=>?_) (λq1 q2 B b=>?_)
  .rw[Ay q];exact⟨F,h.h b,D8.J F b⟩
  .rw[Ao U,Ao U];refine cm ((h.h b).got o h1 hr aV b2 hP) ?_;rintro g ⟨F',r1,r2⟩;exact⟨I,F',r1,(D8.J F b).trans r2⟩
 .have b5:¬l.X<R.DL l.b-1:=λq=>hold (Aj q)
  have hm:P.Ez=l.f:=by grind
  rw[Ao U,Ay hm];have s1:=GJ (j:=7) (x':={x with H:=l.H++P.d}) (v:=.string (str (l.H++P.d))) L hx U I;have s2:=GJ (j:=6) (x':={x with H:=l.H++P.d,X:=R.DL l.b}) (v:=Z (R.DL l.b)) s1.1 s1.2 U I;simp only[A5]at s2;have S:DF (λq=>q=p.lb i) w (Mq w (p.lb i) k (str (l.H++P.d)) (R.DL l.b)):=(Eg _).trans (Eg _);have aa:VA {l with H:=l.H++P.d,f:=l.f+1,X:=R.DL l.b} {x with H:=l.H++P.d,X:=R.DL l.b}:=⟨y.d,y.a,y.b,λ_=>⟨eu,em,I,ew,et⟩,λ_=>⟨I,ep,ac⟩⟩;have hT:=h.Sr (l':={l with H:=l.H++P.d,f:=l.f+1,X:=R.DL l.b}) o.cl L hR b9 S s2.1 ⟨an.a,λ_=>⟨z1,z2,am,by simp only;omega,bt,br⟩⟩ aa ak;have hW:D8 F F w (Mq w (p.lb i) k (str (l.H++P.d)) (R.DL l.b)):=⟨S.mono (λq _ e=>by rw[e];exact ah),λ_ q=>Aj q⟩;have N:=o.set {l with H:=l.H++P.d,f:=l.f+1,X:=R.DL l.b};have t:(Mq w (p.lb i) k (str (l.H++P.d)) (R.DL l.b)).heap.size=w.heap.size:=Ev;have C:=XW l.H P.d;have b6:¬9223372036854775807<(str l.H).size+(str P.d).size:=by rw[Er,Er];omega
  have bi:∀B,Below w.heap.size (Mq w (p.lb i) k (str (l.H++P.d)) (R.DL l.b)) B->JI B:=λB b=>by
   refine JI.h (w:=Mq w (p.lb i) k (str (l.H++P.d)) (R.DL l.b)) (ht.H S ?_) (by show Below _ _ _;rw[t];exact b);intro q;exact bg (by rw[q];exact ah)
  by_cases r:l.f+1=P.off
  .rw[Ay r];have T:l.H++P.d=rb:=by
    obtain⟨n,hn⟩:∃n:Nat,l.f=(n:Int):=⟨l.f.toNat,U⟩;have ae:l.H=rb.take (8*n):=by
     exact abU
    rw[ae,b,hm,hn,R.Md,R.L6 (by rw[<-ho,<-r,hn];rfl)]
   have E:V.I8 l.to (l.H++P.d)=(0,e.D):=by rw[T,w4];exact R.Kq hdn.bytes
   have bp:GU G l.c=R.NQ G.a d.c:=by rw[w2];rfl
   have bq:x.g=d.g:=by
    have h3:l.b.take 2=EU d.g:=by rw[w3];simp[R.Cd.h,EU]
    rw[h3]at ac;exact iG ep (R.Rj aS.sig) ac.symm
   rw[E];refine UC w (p.cb i) (p.lb i) (p.bm i) c.a.length k (R.DL l.b) l.f l.X l.c x.g (GU G l.c) P (str l.b) (str l.H) (λ_=>False) _ (λO g=>V.Row g w.heap.size O e.D/\Below w.heap.size (Mq w (p.lb i) k (str (l.H++P.d)) (R.DL l.b)) g) hk hP K.a2 K.a3 a3 A.a4 a5 a6 a7 (Eb L) (Eb L) (ES (h.cl i c o.cl) L Em) U b5 hm b7 b6 H1 H2 (λq B b=>absurd (show P.Ez=P.off-1 by omega) q) (λg q=>q.elim) (λq B b=>?_) (λq B b=>?_) ?_
   .rw[<-C]at b;have m:=b;rw[<-t]at m;have bj:l.c∈c.d:=by rw[w2];exact w5
    have:=mE ((hT.h m).d i _ N.cl) (u:=l.c) U;rw[this];have e1:GY (R.Eh G i k {l with H:=l.H++P.d,f:=l.f+1,X:=R.DL l.b}) {c with a:=c.a.set k {l with H:=l.H++P.d,f:=l.f+1,X:=R.DL l.b}} l.c=some (GU G l.c):=by
     unfold GY;rw[Ay bj];rfl
    rw[e1];rfl
   .rw[<-C]at b ⊢;have m:=b;rw[<-t]at m;refine(Sj (GU G l.c) x.g d.a d.to (by rw[bp,bq];exact aS.sig) (l.H++P.d) e.D (by rw[<-w4];exact E) B (bi B b)).mono ?_;rintro e1 g ⟨⟨O,rfl,z⟩,Q⟩;have⟨W,rn,rc,hO⟩:=Ei z;subst hO;exact⟨W,rn,rc,I,V.GL z (by have:=b.size;rw[t]at this;exact this),b.trans (Q.mono (by have:=b.size;rw[t]at this;exact this))⟩
   .rintro W rn rc g ⟨z,Q⟩;have J:=Q;rw[<-t]at J;have⟨b1,b3⟩:=ND z (V6 hdn.bytes hdn.pos);have aw:=hT.h J;have av:g.heap[p.lb i]?=some (.cells (tab J7.cells (xs.set k {x with H:=l.H++P.d,X:=R.DL l.b})).toArray 129 (0,0)):=by rw[Q.block _ (Dv L)];exact s2.1
    refine(YF g (p.lb i) k W rn rc (xs.set k {x with H:=l.H++P.d,X:=R.DL l.b}) {x with H:=l.H++P.d,X:=R.DL l.b} (Lc ak) av s2.2).mono ?_;rintro e2 bz ⟨rfl,q1,q2⟩;have aq:=aw.wide (F':=λj=>F j\/(Value.slice W rn rc).ownBlock=some j) (λ_ q=>Aj q) (λj hj=>by
     rcases hj with hj|hj
     .exact aw.lt j hj
     .exact(b3 j hj).2)
    have al:=S.trans (DF.J J _);have aN:Pp w F (λq=>q=p.lb i):=Pp.one L Em;have g2:=hR.set (k:=k) aa;have g3:Iq g (λj=>F j\/(Value.slice W rn rc).ownBlock=some j) (c.a.set k {l with H:=l.H++P.d,f:=l.f+1,X:=R.DL l.b}) (xs.set k {x with H:=l.H++P.d,X:=R.DL l.b}):=(b9.h al aN (λ_ q=>Aj q)).set (ak.h al aN (λ_ q=>Aj q));have bS:=aq.Sr (k:=k) (l':={l with H:=l.H++P.d,f:=l.f+1,X:=R.DL l.b,D:=e.D,d:=2}) (x':={Qb 2 x.a with rv:=.slice W rn rc}) N.cl av g2 g3 q2 q1 ⟨an.a,λq=>by simp only at q;omega⟩ ⟨I,y.a,λq=>absurd I q,λq=>by simp only at q;omega,λq=>by simp only at q;omega⟩ (b1.keep (DF.refl (λ_=>False) g) (λ_ _ _ _ q=>q) (λ_ q=>Am q));refine⟨I,λj=>F j\/(Value.slice W rn rc).ownBlock=some j,?_,?_,λj hj=>?_⟩
    .grind [Pm]
    .exact(al.trans q2).mono (λq _ e=>by rw[e];exact ah)
    grind
  .have b4:=r;rw[Ao b4];refine UC w (p.cb i) (p.lb i) (p.bm i) c.a.length k (R.DL l.b) l.f l.X l.c x.g (GU G l.c) P (str l.b) (str l.H) (λg=>∃F',LW p F' (R.LP (R.Eh G i k {l with H:=l.H++P.d,f:=l.f+1,X:=R.DL l.b}) i P) g/\D8 F F' w g) _ (λO g=>V.Row g w.heap.size O e.D/\Below w.heap.size (Mq w (p.lb i) k (str (l.H++P.d)) (R.DL l.b)) g/\l.f+1=P.off/\l.H++P.d=rb) hk hP K.a2 K.a3 a3 A.a4 a5 a6 a7 (Eb L) (Eb L) (ES (h.cl i c o.cl) L Em) U b5 hm b7 b6 H1 H2 (λq B b=>?_) ?_ (λq B b=>?_) (λq B b=>?_) ?_
   .rw[<-C]at b;have m:=b;rw[<-t]at m;refine cm ((hT.h m).got N h1 hr aV b2 hP) ?_;rintro g ⟨F',r1,r2⟩;exact⟨I,F',r1,(hW.trans (D8.J F m)).trans r2⟩
   .rintro g ⟨F',r1,r2⟩;have az:R.At (R.LP (R.Eh G i k {l with H:=l.H++P.d,f:=l.f+1,X:=R.DL l.b}) i P) i k {c with a:=c.a.set k {l with H:=l.H++P.d,f:=l.f+1,X:=R.DL l.b}} {l with H:=l.H++P.d,f:=l.f+1,X:=R.DL l.b}:=by
     unfold R.LP;exact N.send _ _
    refine cm (r1.rest az h1) ?_;rintro bz ⟨g1,g2⟩;exact⟨I,F',g1,r2.trans g2⟩
   .exact absurd q U
   .exact absurd q U
   .rintro W rn rc g ⟨_,_,q,_⟩;exact absurd q b4
theorem LW.heard{p:Pl}(h:LW p F G w)(T:JI w)(A:¬F 0)(hI:R.Inv M G)(C:EC P){to:Int}(n:to≠-1)(O:R.Tj M G.a to P):
  ∃i:Nat,to=i/\i<G.b/\D7 94 #[ptr (p.cb i),pv P] w Ep λw'=>∃F',LW p F' (R.Kl G to P) w'/\D8 F F' w w':=by
 have⟨d,hd,hu,hk⟩:=O;have⟨L,i,c,k,l,o,H,g,W,r5,r6,r7,r8,r9⟩:=hI.bk _ d hd;simp only[R.JD]at o g r5 r6 r7 r8 r9;have hat:R.At G i k c l:=⟨H,W⟩;have D:to=(i:Int):=by
  rcases hk with ⟨_,q,_⟩|⟨_,q,_⟩|⟨_,q⟩|⟨_,q⟩|⟨_,q,_⟩|⟨_,q⟩|⟨_,q,_⟩
  .exact absurd q n
  .rw[q,o]
  .exact absurd q n
  .rw[q,o]
  .rw[q,o]
  .exact absurd q n
  .rw[q,o]
 subst D;refine⟨i,I,(GG H),?_⟩;have⟨xs,x,K,hR,hx,z,u,Q,N⟩:=h.H hat.cl hat.ln;have f:=P4 h hat.cl;have s:=GG hat.ln;have v:=Dv K;have e0:R.Kl G i P=if l.d≠1\/P.b≠c.b\/P.a≠l.a then G else if P.J=2 then (if P.Ez=l.X then R.JS (if l.X+1<R.DL l.b then R.EG (R.Eh G i k {l with X:=l.X+1}) i k false else R.Eh G i k {l with X:=l.X+1}) i k else G) else if P.J=4 then R.JS G i k else if P.J=5 then R.IL G i P else if P.J=7 then R.Eh G i k {l with d:=4+P.Ez} else G:=by
  unfold R.Kl;simp only;rw[g,hat.H,R.GH hat.cl]
 rw[e0];have S:=z.d;have y:=z.a;refine oY w (p.cb i) (p.lb i) c.a.length k (decide (x.d=1/\c.b=P.b/\x.a=P.a)) P _ s g f.a3 (λr hb=>?_) (λa m r hb=>?_) (λa m r hb=>?_) (λa m r hb=>?_) (λa m r hb=>?_) (λB r hb=>?_)
 .have t:=Gv f.a3;exact pF r (p.cb i) (p.lb i) c.a.length k c.b x.d x.a P s g ((hb.cell (p:=⟨p.cb i,1,none⟩) t).trans f.a1) ((hb.cell (p:=⟨p.cb i,3,none⟩) t).trans f.a3) ((hb.cell (p:=⟨p.lb i,k*10,none⟩) v).trans u.a0) ((hb.cell (p:=⟨p.lb i,k*10+1,none⟩) v).trans u.a1)
 .have j:=Cs a;have h1:l.d=1:=U;rw[Ao U,Ay m];have b:P.off=R.DL l.b:=by
   have hkey:R.JD P=⟨i,c.b,k,l.a⟩:=by simp[R.JD,o,g,j.2.1,<-y,j.2.2]
   exact afO
  refine cm ((h.h hb).X hat h1 g C b) ?_;exact pB
 .have j:=Cs a;have h1:l.d=1:=U;rw[Ao U,Ao U,Ay m];refine cm ((h.h hb).rest hat h1) ?_;rintro w' ⟨q1,q2⟩;exact⟨I,F,q1,(D8.J F hb).trans q2⟩
 .have j:=Cs a;have h1:l.d=1:=U;rw[Ao U,Ao U,Ao U,Ay m];have hkey:R.JD P=⟨i,c.b,k,l.a⟩:=by simp[R.JD,o,g,j.2.1,<-y,j.2.2]
  rw[hkey]at hd hk;rcases hk with ⟨q,_⟩|⟨q,_⟩|⟨q,_⟩|⟨q,_⟩|⟨_,_,e,rb,q1,q2,q3⟩|⟨q,_⟩|⟨q,_⟩
  .omega
  .omega
  .omega
  .omega
  .refine cm ((h.h hb).uY (T.h hb) A hI hat h1 g C hd q1 q2 q3) ?_;exact pB
  .omega
  .omega
 .have j:=Cs a;have h1:l.d=1:=U;rw[Ao U,Ao U,Ao U,Ao U,Ay m];have b:P.off=2:=by
   rcases hk with ⟨q,_⟩|⟨q,_,q2⟩|⟨q,_⟩|⟨q,_⟩|⟨q,_⟩|⟨q,_⟩|⟨_,_,q⟩
   .omega
   .omega
   .omega
   .omega
   .omega
   .omega
   .exact q
  refine cm ((h.h hb).rejected hat h1 g C b) ?_;exact pB
 .have J:(if l.d≠1\/P.b≠c.b\/P.a≠l.a then G else if P.J=2 then (if P.Ez=l.X then R.JS (if l.X+1<R.DL l.b then R.EG (R.Eh G i k {l with X:=l.X+1}) i k false else R.Eh G i k {l with X:=l.X+1}) i k else G) else if P.J=4 then R.JS G i k else if P.J=5 then R.IL G i P else if P.J=7 then R.Eh G i k {l with d:=4+P.Ez} else G)=G:=by
   rcases B with q|q
   .have j:=of_decide_eq_false q;rw[Ay U]
   .by_cases E:l.d≠1\/P.b≠c.b\/P.a≠l.a
    .rw[Ay E]
    .rw[Ao E,Ao U,Ao U,Ao U,Ao U]
  rw[J];exact⟨F,h.h hb,D8.J F hb⟩
theorem aga:∀args w,(callFunc 93 args).run prog w=.ok (.enter 93 args) w:=λ_ _=>rfl
theorem agb:∀args w,(callFunc 94 args).run prog w=.ok (.enter 94 args) w:=λ_ _=>rfl
theorem Y1{s:Nat}(a:World->Prop)(x1:EB w x 1 (ptr s))
  (g:Hid (∀d,DY w d->D7 93 #[ptr s,pv P] d Ep λc=>a c)):
  D7 55 #[ptr x,Z (-1),pv P] w Ep λc=>a c:=by
 have f:Hid (∀o,DY w (w.alloc o).drew):=λo=>F9.drew
 have hl:=Gv x1
 delta D7
 go_in
 go_wp2_with fail
 go_region_law (refine FG I 93 #[.tmp 11,.tmp 12] #[68,82] I aga #[ptr s,pv P] I _ (g _ (f _)) ?_;rintro e h ⟨rfl,b⟩;refine⟨_,I,?_⟩)
 all_goals
  go_wp2;go_returns;exact⟨I,b⟩
theorem Y0(a:World->Prop)(x2:EB w x 2 (EJ cs_ n cap))(hi:i<n)(hc:EB w cs_ i (ptr cb))
  (g:Hid (∀d,DY w d->D7 94 #[ptr cb,pv P] d Ep λc=>a c)):
  D7 55 #[ptr x,Z i,pv P] w Ep λc=>a c:=by
 have f:Hid (∀o,DY w (w.alloc o).drew):=λo=>F9.drew
 have⟨hl,h⟩:=KM x2 hc;have j:0<=(i:Int):=U;have k:(i:Int)<n:=U;have e1:((i:Int)==-1)=false:=Ev
 delta D7
 go_in
 go_wp2_with fail
 go_region_law (refine FG I 94 #[.tmp 20,.tmp 21] #[93,82] I agb #[ptr cb,pv P] I _ (g _ (f _)) ?_;rintro e l ⟨rfl,b⟩;refine⟨_,I,?_⟩)
 all_goals
  go_wp2;go_returns;exact⟨I,b⟩
theorem dz{i:Int}(c:EB w x 0 (ptr n))
  (a:Hid (D7 53 #[ptr n,Z i] w (.tuple #[Z 0,.string ⟨#[]⟩,Z 9]) λb=>b=w)):
  D7 29 #[ptr x,Z i] w (Z 9) λb=>b=w:=by
 delta D7
 go_in
 go_wp2_with (first|(go_at_call 53;refine cs a ?_))
 go_returns;exact DN
theorem YB{i to:Int}(A a:World->Prop)(o:EB w x 0 (ptr n))
  (f:Hid (D7 53 #[ptr n,Z i] w (.tuple #[Z to,.string S,Z 0]) λg=>A g))
  (k:Hid (∀b,A b->D7 54 #[.string S] b (.tuple #[NY,Z 7]) (DY b)))
  (l:Hid (∀b j,A b->DY b j->a j)):
  D7 29 #[ptr x,Z i] w (Z 0) λg=>a g:=by
 delta D7
 go_in
 go_wp2_with (first|(go_at_call 53;refine cm f λb d=>?_;have h:=Dx d;clear d)|(go_at_call 54;refine cm (k _ h) λm e=>?_;have c:=Dx e;clear e))
 go_returns;exact⟨I,l _ _ h (c.alloc c.size _)⟩
theorem W7{i to:Int}(A a:World->Prop)(q:EB w x 0 (ptr n))
  (g:Hid (D7 53 #[ptr n,Z i] w (.tuple #[Z to,.string S,Z 0]) λf=>A f))
  (l:Hid (∀b,A b->D7 54 #[.string S] b (.tuple #[pv P,Z 0]) (DY b)))
  (m:Hid (∀b k,A b->DY b k->D7 55 #[ptr x,Z to,pv P] k Ep λf=>a f)):
  D7 29 #[ptr x,Z i] w (Z 0) λf=>a f:=by
 delta D7
 go_in
 go_wp2_with (first|(go_at_call 53;refine cm g λb d=>?_;have j:=Dx d;clear d)|(go_at_call 54;refine cm (l _ j) λo e=>?_;have c:=Dx e;clear e)|(go_at_call 55;refine cm (m _ _ j (c.alloc c.size _)) λp h=>?_))
 go_returns;exact⟨I,h⟩
theorem LW.Ki(h:LW p F G w)(ht:JI w)(s:¬F 0)(hI:R.Inv M G)(r:R.EP G)i:
  D7 29 #[ptr p.x,Z i] w (Z (R.Fv G i).1) λJ=>NM p F w (R.Fv G i).2 J:=by
 have W:=EI h.bx 0;by_cases C:R.off G i
 .have e0:R.Fv G i=(9,G):=by
   unfold R.Fv;rw[Ay C]
  rw[e0];refine(dz W (h.SS C)).mono ?_;rintro e J ⟨rfl,rfl⟩
  grind [NM.of,D8.refl]
 .unfold R.off at C;obtain⟨n,rfl⟩:∃n:Nat,i=(n:Int):=⟨i.toNat,U⟩;have hn:n<G.D.length:=U;obtain⟨f,B⟩:∃f,G.D[n]?=some f:=⟨_,Ah hn⟩;have g:=hI.fl f (Ap B);have u:=hI.erase n;have l:=r.same I I;have e0:R.Fv G (n:Int)=(0,if f.a=true then {G with D:=G.D.eraseIdx n} else match Ih f.s with
   |none=>{G with D:=G.D.eraseIdx n}
   |some p=>if f.to=-1 then R.KB {G with D:=G.D.eraseIdx n} p else R.Kl {G with D:=G.D.eraseIdx n} f.to p):=by
   unfold R.Fv;rw[Ao (by unfold R.off;exact C)];simp only[AY];rw[B];rfl
  have y:f.s.length<=1000:=by
   have:=h.wf.b f (Ap B);omega
  have b:=h.land B;rw[e0];unfold R.Sc at g;cases hb:f.a with
  |true=>
   rw[hb,Ay rfl]at g;simp only[CQ];refine YB (λm=>∃c,LW p c {G with D:=G.D.eraseIdx n} m/\D8 F c w m) _ W b (λm _=>mP g y) ?_;rintro m T ⟨c,Q,S⟩ d;exact NM.of (Q.h d) (S.trans (D8.J c d))
  |false=>
   rw[hb,Ao Ev]at g;have⟨P,E,hs,o⟩:=g;simp only[Ao (show ¬(false:Bool)=true by simp)];rw[hs,L8 E];rw[hs]at b;refine W7 (λm=>∃c,LW p c {G with D:=G.D.eraseIdx n} m/\D8 F c w m) _ W b (λm _=>fj E) ?_;rintro m T ⟨c,Q,S⟩ d;have v:=Q.h d;have A:=S.trans (D8.J c d);have L:=ht.H A.H s;have K:¬c 0:=λq=>by
    rcases A.fresh 0 q with q|q
    .exact s q
    .have⟨_,_,hg⟩:=ht
     grind
   simp only;by_cases k:f.to=-1
   .rw[Ay k,k];rw[k]at o;refine Y1 _ (EI v.bx 1) (λz a=>?_);refine((v.h a).acO u l E o).mono ?_;rintro e J ⟨rfl,t,X,H,O⟩;exact⟨I,t,X,H,(A.trans (D8.J c a)).trans O⟩
   .rw[Ao k];have hH:∀z,DY T z->_:=λz a=>(v.h a).heard (L.h a) K u E k o
    have⟨j,hj,x,_⟩:=hH T (AA _ _);rw[hj];have N:=v.lG x;refine Y0 _ (EI v.bx 2) x N (λz a=>?_);have⟨j',aa,_,hc⟩:=hH z a;have:j'=j:=U;subst this;refine hc.mono ?_;rintro e J ⟨rfl,X,H,O⟩;rw[hj]at H;exact⟨I,NM.of H ((A.trans (D8.J c a)).trans O)⟩
theorem Vs{lb:Nat}(hi:i<9)(c:r.at'=aN)(o:8*aN<=r.D)(k:r.D.length<=72)(l:w.cell? (Y x 11)=EJ sn 9 9)(y:w.cell? (Y x 10)=EJ lb 3 3)(n:iZ w sn i r)(f:w.cell? (Y lb (i / 3))=Z life)(b:World->Prop)
  (j:Hid (∀W,DY w W->D7 131 #[Ey x,Z ((i / 3:Nat):Int),.agg #[Z 5,Z ((i / 3:Nat):Int),Z life,Z ((i % 3:Nat):Int),Z r.a,Z r.c,Z aN,Z (R.DL r.D),DI,.string (str (R.EY r.D aN))]] W Ep λa=>b a)):
  D7 132 #[Ey x,Z i] w Ep λa=>b a:=by
 have p:0<=(i:Int):=U;have D:(i:Int)<9:=U;obtain⟨d,hd⟩:∃d,i / 3=d:=DK;obtain⟨m,g⟩:∃m,i % 3=m:=DK;rw[hd]at f j;rw[g]at j;have Ll:(d:Int)<3:=U;have s:0<=(d:Int):=U;have z:(i:Int).tdiv 3=(d:Int):=by rw[CM p];omega
 have A:(i:Int).tmod 3=(m:Int):=by rw[Ca p];omega
 have B:IntKind.i64.wrap (d:Int)=d:=Iz;have⟨C,u,t⟩:=Va l n.s0 f;have q:=Dx (Ma r.D aN o U);have⟨s0,s1,s2,s3,s4,s5,s6,s7,s8,s9⟩:=n;rw[c]at s6;clear c o k hd g
 delta D7
 go_in
 go_wp2_with fail
 go_region_held3 (λa=>a.cell? (Y x 10)=some (EJ lb 3 3)/\a.cell? (Y lb d)=some (Z life)/\a.cell? (EN w 0)=some (Z r.a)/\a.cell? (EN w 1)=some (Z r.c)/\a.cell? (EN w 6)=some (Z aN)) (go_keep) (fail)
 go_wp2_with fail
 refine cm (q _) λv h=>?_
 rw[h];clear h v;go_wp2_with fail
 refine(j _ ?_).mono ?_
 .exact(F9.alloc Ev _).drew
 rintro e E ⟨rfl,hp⟩;exact aO
theorem RM.JU(h:RM x v F G w)(c:G.D.length<=40)(k:G.C.length=3)(n:G.J[i]?=r)(hi:i<9)(g:0<=r.at'/\r.at'<R.DL r.D)(l:r.D.length<=72)(b:EC ⟨5,((i / 3:Nat):Int),(G.C[i / 3]?).getD 0,((i % 3:Nat):Int),r.a,r.c,r.at',R.DL r.D,false,R.EY r.D r.at'⟩):
  D7 132 #[Ey x,Z i] w Ep λw'=>∃v' F',RM x v' F' (R.Ex G i) w'/\D8 F F' w w':=by
 obtain⟨f,a⟩:∃f:Nat,r.at'=(f:Int):=⟨r.at'.toNat,U⟩;have m:=g.2;unfold R.DL at m;have j:i / 3<G.C.length:=U;have d:w.cell? (Y v.L (i / 3))=some (Z ((G.C[i / 3]?).getD 0)):=by
  refine E7 h.C ?_;unfold GK
  grind
 have e:R.Ex G i=R.E9 G ((i / 3:Nat):Int) ⟨5,((i / 3:Nat):Int),(G.C[i / 3]?).getD 0,((i % 3:Nat):Int),r.a,r.c,r.at',R.DL r.D,false,R.EY r.D r.at'⟩:=by grind [R.Ex,R.EZ]
 rw[e];rw[a]at b ⊢;refine Vs hi a U l (EI h.bx 11) (EI h.bx 10) (Kg h.J n) d _ (Dx λW hb=>?_);refine((h.h hb).send c _ _ b).mono ?_;exact acr
theorem vQ{sn:List R.Sn}(t:Bool)(a c:Int)(h:Dy w b (tab Rk sn).toArray 227)(d:sn[i]?=r):Dy (((w.setCell (Y b (i*10+7)) (.bool t)).setCell (Y b (i*10+8)) (Z a)).setCell (Y b (i*10+9)) (Z c)) b (tab Rk (sn.set i {r with g:=t,C:=a,e:=c})).toArray 227:=by
 have hi:=GG d;have s1:=Fz (r1:={r with g:=t}) h d (j:=7) (u:=.bool t) U I;have s2:=Fz (r:={r with g:=t}) (r1:={r with g:=t,C:=a}) s1 (AO hi) (j:=8) (u:=Z a) U I;rw[A5]at s2;have s3:=Fz (r:={r with g:=t,C:=a}) (r1:={r with g:=t,C:=a,e:=c}) s2 (AO hi) (j:=9) (u:=Z c) U I;rw[A5]at s3;exact s3
theorem gG(w:Aa)(x i:Nat)(r:R.Sn)(rt p:Int)(t:Bool)(hi:i<9)(u:0<=r.at'/\r.at'<=9)(n:t=decide (8*r.at'+8<r.D))(k:World->Prop)(b:World->Prop)
  (g:Hid (D7 132 #[Ey x,Z i] w Ep λd=>k d))
  (h:Hid (∀a,k a->∃sn,a.cell? (Y x 11)=EJ sn 9 9/\a.cell? (Y x 2)=Z rt/\a.cell? (Y x 3)=Z p/\sn≠x/\iZ a sn i r/\(∀o,DJ a sn o)/\b (((a.setCell (Y sn (i*10+7)) (.bool t)).setCell (Y sn (i*10+8)) (Z rt)).setCell (Y sn (i*10+9)) (Z p)).drew)):
  D7 195 #[Ey x,Z i] w Ep λd=>b d:=by
 have A:0<=(i:Int):=U;have B:(i:Int)<9:=U;have e1:IntKind.i64.wrap (8*r.at')=8*r.at':=Iz;have e2:IntKind.i64.wrap (8*r.at'+8)=8*r.at'+8:=Iz;have j:=Dx n;clear n u
 delta D7
 go_in
 go_wp2_with fail
 refine cm g λa m=>?_
 have⟨sn,f,x2,x3,c,⟨s0,s1,s2,s3,s4,s5,s6,s7,s8,s9⟩,hz,l⟩:=h a m;have⟨z,y⟩:=KM f s0;have C:=hz (i*10+7);have D:=hz (i*10+8);have E:=hz (i*10+9);have n1:=c;have n2:¬x=sn:=λe=>c e.symm
 have hd:=j.symm;have s:=Dx l;have q:Hid ((a.setCell (Y sn (i*10+7)) (.bool t)).drew.cell? (Y sn (i*10+6))=some (Z r.at')/\(a.setCell (Y sn (i*10+7)) (.bool t)).drew.cell? (Y sn (i*10+5))=some (.string (str r.D))):=⟨(Yt (w:=a) (v:=.bool t) U).trans s6,(Yt (w:=a) (v:=.bool t) U).trans s5⟩;clear l m hz c g h j;go_wp2_with fail
 go_region_held3 (λd=>d.cell? (Y sn (i*10+6))=some (Z r.at')/\d.cell? (Y sn (i*10+5))=some (.string (str r.D))) (first|exact Dw q|go_keep) (fail)
 go_wp2;go_returns;exact⟨I,s⟩
theorem wj(a:G.J[i]?=r):R.JF G i={R.Ex G i with J:=(R.Ex G i).J.set i {r with g:=decide (8*r.at'+8<r.D),C:=G.c.c,e:=G.c.e}}:=by grind [R.EZ,R.Ex,R.KX,R.JF,R.EA]
theorem RM.tell(h:RM x v F G w)(j:G.D.length<=40)(k:G.C.length=3)(l:G.J[i]?=r)(hi:i<9)(g:0<=r.at'/\r.at'<R.DL r.D)(t:r.D.length<=72)(m:EC ⟨5,((i / 3:Nat):Int),(G.C[i / 3]?).getD 0,((i % 3:Nat):Int),r.a,r.c,r.at',R.DL r.D,false,R.EY r.D r.at'⟩):
  D7 195 #[Ey x,Z i] w Ep λp=>∃d b,RM x d b (R.JF G i) p/\D8 F b w p:=by
 have u:=g.2;unfold R.DL at u;rw[wj l];refine gG w x i r G.c.c G.c.e _ hi ⟨g.1,U⟩ I (λn=>∃d b,RM x d b (R.Ex G i) n/\D8 F b w n) _ (Dx (h.JU j k l hi g t m)) (Dx λn y=>?_);have⟨d,b,c,g1⟩:=y;have q:(R.Ex G i).c=G.c:=by unfold R.Ex;exact R.Mb _ _ _
 have s:(R.Ex G i).J=G.J:=by unfold R.Ex;exact R.KX _ _ _
 have f:(R.Ex G i).J[i]?=some r:=by rw[s];exact l
 have a:=c.bx;rw[q]at a;refine⟨d.Sn,EI a 11,EI a 2,EI a 3,λe=>?_,Kg c.J f,λo=>Eb c.J,d,b,?_⟩
 .exact ES c.J (e ▸ c.bx) Em I
 .have⟨z,A⟩:=c.q (((Eg _).trans (Eg _)).trans (Eg _)) (vQ (decide (8*r.at'+8<(r.D.length:Int))) G.c.c G.c.e c.J f);exact⟨z.h (AA _ _).drew,(g1.trans A).trans (D8.J b (AA _ _).drew)⟩
theorem Z5{p:Pk}{k o:Int}(a:World->Prop)(c:Hid (∀W,DY w W->D7 131 #[Ey x,Z p.f,.agg #[Z kd,Z p.f,Z p.b,Z p.H,Z p.a,Z p.c,Z k,Z o,DI,.string ⟨#[]⟩]] W Ep λb=>a b)):
  D7 243 #[Ey x,pv p,Z kd,Z k,Z o] w Ep λb=>a b:=by
 delta D7
 go_in
 go_wp2_with fail
 refine cm (c _ F9) λd hp=>?_
 exact aO
theorem RM.KN(h:RM x v F G w)(a:G.D.length<=40)(p:Pk)(b k o:Int)(c:EC ⟨b,p.f,p.b,p.H,p.a,p.c,k,o,false,[]⟩):
  D7 243 #[Ey x,pv p,Z b,Z k,Z o] w Ep λw'=>∃v' F',RM x v' F' (R.G8 G p b k o) w'/\D8 F F' w w':=by
 refine Z5 _ (Dx λW hb=>?_);refine((h.h hb).send a p.f _ c).mono ?_;exact acr
theorem ZJ(w:Aa)(x n:Nat)(a:Af)(cap:Nat)u(b:Bool)(hn:n<=255)(x7:EB w x 7 (.slice a n cap))(h:(¬1<=u/\b=false)\/(1<=u/\¬u<=(n:Int)/\b=false)\/(∃(k g:Nat),u=k+1/\k<n/\a=Y g 0/\EB w g (k*3+1) (.bool b))):
  D7 240 #[Ey x,Z u] w (.bool b) λf=>f=w:=by
 have j:=Gv x7;rcases h with ⟨c,rfl⟩|⟨c,e,rfl⟩|⟨k,g,rfl,hk,rfl,hc⟩
 .have d:decide (1<=u)=false:=Fy;clear c;exact wX
 .have d:decide (1<=u)=true:=Fy;have k2:decide (u<=(n:Int))=false:=Fy;clear c e;exact wX
 .have d:(1:Int)<=k+1:=U;have k2:(k:Int)+1<=(n:Int):=U;have e1:IntKind.i64.wrap ((k:Int)+1-1)=(k:Int):=Iz;have e2:IntKind.i64.wrap (k:Int)=k:=Iz;have l:0<=(k:Int):=U;have m:(k:Int)<n:=U;have i:=Gv hc;exact wX
theorem RM.T(h:RM x v F G w)(l:G.a.length<=255)u:
  D7 240 #[Ey x,Z u] w (.bool (R.Js G u)) λm=>m=w:=by
 have f:v.zs.length=G.a.length:=by rw[<-h.zs,AX]
 have⟨a,cap,e⟩:=Fa h.a;refine ZJ w x v.zs.length a cap u _ U (ED h.bx 7 _ (by rw[<-e];rfl)) ?_;unfold R.Js;by_cases i:1<=u
 .by_cases j:u<=(v.zs.length:Int)
  .obtain⟨k,rfl⟩:∃k:Nat,u=(k:Int)+1:=⟨(u-1).toNat,U⟩;have hk:k<v.zs.length:=U;obtain⟨z,hz⟩:∃z,v.zs[k]?=some z:=⟨_,Ah hk⟩;have⟨g,d,c,_,b,_⟩:=Jx MD U h.a hz;rw[e]at c;cases c;have n:G.a[k]?=some z.1:=by rw[<-h.zs,BP,hz];rfl
   refine Am (Am ⟨k,g,I,hk,I,?_⟩);have:=b 1 _ U I
   grind
  .refine Am (Aj ⟨i,j,?_⟩);rw[BM U];simp
 grind
theorem IB(j:R.Jb):(IA j).length=4:=rfl
abbrev FJ(F:D9)(w:Aa):D9:=λk=>F k/\∃ys,w.heap[k]?=some (.cells ys 229 (0,0))
theorem ze{α:Type}(a b c:List α)(i:Nat)(h:a<=i)(d:i<a+b):(a++b++c)[i]?=b[i-a]?:=by grind
theorem aeQ{a:Array Value}{off:Nat}(h:∀(k:Nat) (j:R.Jb),js[k]?=j->∀(o:Nat) (u:Ad),(IA j)[o]?=u->a[(off+k)*4+o]?=u)(i:Nat)(u:Ad)(hu:(tab IA js)[i]?=u):a[off*4+i]?=u:=by
 have hi:=GG hu;rw[F8 IB]at hi;obtain⟨j,b⟩:∃j,js[i / 4]?=some j:=⟨_,Ah U⟩;have:=Jh IB js (i / 4) (i % 4) j b U
 grind
theorem ac6:(prog.info? 229).map (λi=>(i.zero,i.size,i.bytes))=some (some (.agg #[Z 0,Z 0,Z 0,Z 0]),4,32):=EL
theorem Ua(js:List R.Jb):(tab IA js)=js.length*4:=by grind [F8,IB]
theorem Y8{V:Ad}(h:Yb w F V js)(hl:js.length<=100){j:R.Jb}(hb:∀(o:Nat) (u:Ad),(IA j)[o]?=u->EB w b o u){ty:Ag}:
  ∃a n v H,(Builtin.append_ #[184,184] ty #[V,EJ b 1 c]).run prog w=.ok (.slice a n v) H/\DF (FJ F w) w H/\Yb H (λk=>F k\/(w<=k/\k<H)) (.slice a n v) (js++[j]):=by
 have⟨i0,y,C,f,D⟩:=A1 ac6;have s:∀l u,(IA j)[l]?=some u->w.cell? (((Y b 0):Addr).add l)=some u:=λl u hu=>by
  grind [Addr.add_lit]
 have x:∀(cs:Ae) (k:Nat) (l:R.Jb),(js++[j])[k]?=some l->k<js.length\/(k=js.length/\l=j):=λcs k l hk=>by
  grind
 have p:∀(W:Aa) (z:Aa) (v:Nat) (t:Ae),z=w.drew.alloc (.cells (t.toArray++(IA j).toArray++Builtin.zeroCells (Value.agg #[Z 0,Z 0,Z 0,Z 0]).cells (v-(js.length+1))) 229)->t=tab IA js->js.length+1<=v->v<=maxLen->DF (FJ F w) w z/\Yb z (λk=>F k\/(w.heap.size<=k/\k<z.heap.size)) (EJ w.heap.size (js.length+1) v) (js++[j]):=λW z v t X M S T=>by
  subst X;refine⟨(DF.refl _ _).drew.alloc _,Am ⟨w.heap.size,0,v,_,Ev,Am ⟨Ar _,Ev⟩,AF w.drew _,by simpa using S,?_,T,λk l hk o u hu=>?_⟩⟩
  .subst M;have e1:=Ua js;simp only[Array.size_append,List.size_toArray,e1,IB,size_zeroCells];have e2:(Value.agg #[Z 0,Z 0,Z 0,Z 0]).cells.size=4:=rfl;rw[e2];omega
  .subst M;have e1:=Ua js;have A:o<4:=by have:=(GG hu);rwa [IB]at this
   rw[<-Array.getElem?_toList];simp only[Array.toList_append];rcases x [] k l hk with q|⟨rfl,rfl⟩
   .rw[Bs,A6 (by rw[e1];omega)];rw[A6 q]at hk;rw[Cr,Jh IB js k o l hk A];exact hu
   grind
 rcases h with ⟨rfl,rfl⟩|⟨g,off,cap,m,rfl,K,G,aa,ab,J,d⟩
 .have N:=run_append_nil (P:=prog) w 184 ty 229 i0 _ underlying184 y C (Y b 0) 1 c (IA j) (by rw[f];rfl) s U U (by rw[D];omega);have⟨O,Q⟩:=p w _ (grownCap w 1 0 229) [] I I (grownCap_ge w 1 0 229) (grownCap_le_maxLen w 1 0 229 JG)
  grind
 .by_cases r:js.length+1<=cap
  .have L:=run_firstCells_some (P:=prog) w i0.size 1 (Y b 0) 1 c (IA j) (by rw[f];rfl) s;have B:=run_storeCells_at prog g (off*4+js.length*4) 229 (IA j) 0 m w G (by rw[IB];omega) ((by simp[IA,Value.oneCell']));simp only[Cz]at B;refine⟨some (Y g (off*4)),js.length+1,cap,w.setRow g (m.toList.take (off*4+js.length*4)++IA j++m.toList.drop (off*4+js.length*4+(IA j).length)).toArray,?_,(NE _ _ _).mono (λk _ e=>by subst e;exact⟨K,_,G⟩),Am ⟨g,off,cap,_,Ev,Aj K,Nf G,by simpa using r,?_,J,λk l hk o u hu=>?_⟩⟩
   .rw[f]at L;simp[Builtin.append_,run_underlying underlying184,sizeOf,typeInfo,y,f,Builtin.lenOf,r,L,Addr.add_lit,B]
   .simp[IB];omega
   .have A:o<4:=by have:=(GG hu);rwa [IB]at this
    have E:(m.toList.take (off*4+js.length*4)).length=off*4+js.length*4:=by have:=BO (xs:=m);rw[Bv];omega
    rw[CO];rcases x [] k l hk with q|⟨rfl,rfl⟩
    .rw[A6 q]at hk;rw[Bs,A6 (by rw[E];omega),List.getElem?_take_of_lt U,Array.getElem?_toList];exact d k l hk o u hu
    .rw[ze _ _ _ _ (by rw[E];omega) (by rw[E,IB];omega),E,show (off+js.length)*4+o-(off*4+js.length*4)=o by omega];exact hu
  .have N:=run_append_grow (P:=prog) w 184 ty 229 i0 _ underlying184 y C (Y g (off*4)) js.length cap (tab IA js) (by rw[f];exact Ua js) (λi u hu=>by
    rw[Bc];have:=aeQ d i u hu;simp[World.cell?,G,this]) (Y b 0) 1 c (IA j) (by rw[f];rfl) s U U (growslice_fits U (by rw[D];omega))
   have⟨O,Q⟩:=p w _ (grownCap w (js.length+1) cap 229) _ I I (grownCap_ge w _ cap 229) (grownCap_le_maxLen w _ cap 229 JG);exact⟨_,_,_,_,N,O,Q⟩
theorem ZT{p:Pk}(a:World->Prop)(hi:i<9)(d:w.cell? (Y x 11)=EJ sn 9 9)(g:iZ w sn i r)(c:p.Ez≠r.f)
  (f:Hid (p.e=true->∀W,DY w W->D7 243 #[Ey x,pv p,Z 2,Z p.Ez,Z p.off] W Ep λb=>a b)) (e:Hid (p.e=false->∀W,DY w W->a W)):
  D7 261 #[Ey x,Z i,pv p] w Ep λb=>a b:=by
 have q:0<=(i:Int):=U;have s:(i:Int)<9:=U;have⟨s0,s1,s2,s3,s4,s5,s6,s7,s8,s9⟩:=g;have⟨l,h⟩:=KM d s0;have⟨n,k,o,ln,t,u,pt,off,j,bd⟩:=p;have m:=c;clear c
 delta D7
 go_in
 go_wp2_with fail
 go_region_held3 (λb=>b.cell? (Y sn (i*10+3))=some (Z r.f)/\b.cell? (EN w 6)=some (Z pt)) (go_keep) (fail)
 cases j with
 |true=>
  go_wp2_with fail
  refine cm (f (by trivial) _ (F9.drew)) λv hp=>?_
  exact aO
 |false=>
  go_wp2_with fail
  go_returns;exact⟨I,e (by trivial) _ (F9.drew)⟩
theorem XI{p:Pk}(a:World->Prop){g:Af}(hi:i<9)(d:w.cell? (Y x 11)=EJ sn 9 9)(j:iZ w sn i r)(e:p.Ez=r.f)(f:p.Ez=p.off-1)(c:0<=p.off/\p.off<=255)(x4:w.cell? (Y x 4)=Z tb)(l:w.cell? (Y x 12)=some (.slice g jn jc))(n:tb<=jn)
  (h:Hid (∀W,DY w W->a W)):
  D7 261 #[Ey x,Z i,pv p] w Ep λb=>a b:=by
 have u:0<=(i:Int):=U;have v:(i:Int)<9:=U;have⟨s0,s1,s2,s3,s4,s5,s6,s7,s8,s9⟩:=j;have⟨o,k⟩:=KM d s0;have⟨q,m,s,ln,y,z,pt,off,t,bd⟩:=p;rw[<-e]at s3;have e1:IntKind.i64.wrap (off-1)=pt:=by rw[BS];simp only at f c;omega
 clear e f c
 delta D7
 go_in
 go_wp2_with fail
 go_region_held3 (λb=>b.cell? (Y sn (i*10+3))=some (Z pt)/\b.cell? (EN w 6)=some (Z pt)) (go_keep) (fail)
 go_wp2_with fail
 go_region_held3 (λb=>b.cell? (Y x 12)=some (.slice g jn jc)/\b.cell? (Y x 4)=some (Z tb)) (go_keep) (fail)
 go_wp2_with fail
 go_returns;exact⟨I,h _ (F9.drew.drew)⟩
theorem ZS{p:Pk}(a:World->Prop)(hi:i<9)(g:w.cell? (Y x 11)=EJ sn 9 9)(n:iZ w sn i r)(hz:∀o,DJ w sn o)(j:p.Ez=r.f)(hp:0<=p.Ez/\p.Ez<=255)(f:p.Ez≠p.off-1)(d:0<=p.off/\p.off<=255)(k:r.b.length<=1000)(e:p.d.length<=1000)
  (m:Hid (p.e=true->∀c,Below w ((w.setCell (Y sn (i*10+2)) (.string (str (r.b++p.d)))).setCell (Y sn (i*10+3)) (Z (p.Ez+1))) c->D7 243 #[Ey x,pv p,Z 2,Z p.Ez,Z p.off] c Ep λb=>a b))
  (l:Hid (p.e=false->∀c,Below w ((w.setCell (Y sn (i*10+2)) (.string (str (r.b++p.d)))).setCell (Y sn (i*10+3)) (Z (p.Ez+1))) c->a c)):
  D7 261 #[Ey x,Z i,pv p] w Ep λb=>a b:=by
 have z:0<=(i:Int):=U;have A:(i:Int)<9:=U;have⟨s0,s1,s2,s3,s4,s5,s6,s7,s8,s9⟩:=n;have⟨u,q⟩:=KM g s0;have E:=hz (i*10+2);have F:=hz (i*10+3);have⟨v,t,y,ln,B,C,pt,off,s,bd⟩:=p;rw[<-j]at s3;simp only at f d hp e;have h:=Td k e;have e1:IntKind.i64.wrap (off-1)=off-1:=Iz;have e2:IntKind.i64.wrap (pt+1)=pt+1:=Iz;have k2:=f;clear j f d hp k e hz;generalize str r.b=MS at *;generalize str (r.b++bd)=MB at *
 delta D7
 go_in
 go_wp2_with fail
 go_region_held3 (λb=>b.cell? (Y sn (i*10+3))=some (Z pt)/\b.cell? (EN w 6)=some (Z pt)) (go_keep) (fail)
 go_wp2_with fail
 go_region_law (fail)
 all_goals
  cases s with
  |true=>
   go_wp2_with fail
   refine cm (m (by trivial) _ (((AA _ _).alloc (by simp[World.setCell]) _).drew.drew)) λD hp=>?_
   exact aO
  |false=>
   go_wp2_with fail
   go_returns;exact⟨I,l (by trivial) _ (((AA _ _).alloc (by simp[World.setCell]) _).drew.drew)⟩
section
variable {P:Program} {ops:Array Oper} {Q:Exit->Act->World->Prop} {md:Region.Mode} {S T Uq:World->Prop} {k:Nat}
def Ko(P:Program)(md:Region.Mode)(ops:Array Oper)(Q:Exit->Act->World->Prop)(S T:World->Prop)(k:Nat):Nat->Array Bool->Act->World->Prop
 |0,listed,a,w=>Region.ready md ops listed=[]/\Q .normal a w
 |fuel+1,listed,a,w=>
  (Region.ready md ops listed=[]->Q .normal a w) /\
  ∀i∈Region.ready md ops listed,wpOp P ops Q i (λa' w'=>(S w'/\((listed.setIfInBounds i true).getD k true=false->T w'))/\Ko P md ops Q S T k fuel (listed.setIfInBounds i true) a' w') a w
theorem U6:∀(fuel:Nat) (b:Array Bool) (a:Act) (w:Aa),Ko P md ops Q S T k fuel b a w->wpAny P md ops Q fuel b a w
 |0,_,_,_,h=>h
 |fuel+1,_,_,_,h=>⟨h.1,λi hi=>wpOp_mono (λc e d=>U6 fuel _ c e d.2) (h.2 i hi)⟩
def Down(md:Region.Mode)(ops:Array Oper)(listed:Array Bool):Prop:=
 ∀j oj,ops[j]?=some oj->listed.getD j true=true->∀e∈oj.after,Region.binds md e=true->listed.getD e.on false=true
theorem Down.set{j:Nat}(h:Down md ops listed)(k:j∈Region.ready md ops listed):Down md ops (listed.setIfInBounds j true):=by
 intro i l c hl e g f;by_cases b:j=i
 .subst b;have⟨_,m,d,a⟩:=mem_ready.1 k;rw[c]at d;cases d;exact getD_set_true (a e g f)
 .rw[getD_set_ne true b]at hl;exact getD_set_true (h i l c hl e g f)
inductive Hr (md:Region.Mode) (ops:Array Oper):Nat->Nat->Prop
 |one {k i:Nat} {ok:Oper} {e:Edge} (hk:ops[k]?=some ok) (he:e∈ok.after) (hb:Region.binds md e=true) (hi:e.on=i):Hr md ops k i
 |more {k j i:Nat} (h:Hr md ops k j) (h':Hr md ops j i):Hr md ops k i
def aJ(md:Region.Mode)(ops:Array Oper)(k i:Nat):Bool:=
 match ops[k]? with
 |some ok=>ok.after.any λe=>Region.binds md e&&e.on==i
 |none=>false
theorem Hr.of(h:aJ md ops k i=true):Hr md ops k i:=by grind [aJ,Hr,Array.any_eq_true']
theorem Hr.xL(h:Hr md ops k i)(hd:Down md ops listed)(hi:listed.getD i true=false):listed.getD k true=false:=by
 induction h with
 |one hk he hb hi'=>grind [Down]
 |more _ _ ih1 ih2=>exact ih1 (ih2 hi)
theorem QD{v:Ad}(hi:ops[i]?=oi)(p:∀(j:Nat) (o:Oper) cs b,ops[j]?=o->o.op≠.select cs b)
  (M:∀c a w,Q (.panic c) (a.put oi.dst v) w->Q (.panic c) a w) (q:i≠k)
  (G:∀(d:Array Bool) w,Down md ops d->d.getD i true=false->S w->(d.getD k true=false->T w)->Uq w):
  ∀(fuel:Nat) (d:Array Bool) (a:Act) (w:Aa),Down md ops d ->
   (∀j s,ops[j]?=some s->j≠i->d.getD j true=false->(∀e∈s.after,Region.binds md e=true->e.on≠i)->oi.apart ops s=true) ->
   i∈Region.ready md ops d->YieldsIf P ops Uq oi v a->S w->(d.getD k true=false->T w) ->
   Ko P md ops Q S T k fuel (d.setIfInBounds i true) (a.put oi.dst v) w->Ko P md ops Q S T k (fuel+1) d a w:=by
 intro fuel;induction fuel with
 |zero=>
  intro d a w hd _ n D t u H;refine⟨λh=>(by rw[h]at n;cases n),λj y=>?_⟩;by_cases f:j=i
  .subst f;exact D.wpOp hi (G _ _ hd (mem_ready.1 n).1 t u) ⟨⟨t,by rw[getD_set_ne true q];exact u⟩,H⟩
  .have:=ready_mono y f;rw[H.1]at this;cases this
 |succ fuel ih=>
  intro d a w hd g n D t u H;refine⟨λh=>(by rw[h]at n;cases n),λj y=>?_⟩;by_cases f:j=i
  .subst f;exact D.wpOp hi (G _ _ hd (mem_ready.1 n).1 t u) ⟨⟨t,by rw[getD_set_ne true q];exact u⟩,H⟩
  .have⟨m,s,r,J⟩:=mem_ready.1 y;have A:∀e∈s.after,Region.binds md e=true->e.on≠i:=λe W O N=>by
    grind [Region.ready]
   have l:∀k ok,ops[k]?=some ok->k≠i->(d.setIfInBounds j true).getD k true=false ->
     (∀e∈ok.after,Region.binds md e=true->e.on≠i)->oi.apart ops ok=true:=λk ok hk E B F=>by
    refine g k ok hk E ?_ F;by_cases z:j=k
    .subst z;exact m
    .rw[getD_set_ne true z]at B;exact B
   refine wpOp_mono (λL K C=>?_) (wpOp_putIf r (g j s r f m A) (λcs b=>p i oi cs b hi) (λcs b=>p j s cs b r) M D (H.2 j (ready_mono y f)));have x:(d.setIfInBounds j true).getD k true=false->T K:=λh=>C.2.1.2 (by
    rw[Array.setIfInBounds_comm _ _ (Ne.symm f),getD_set_ne true q];exact h)
   refine⟨⟨C.2.1.1,x⟩,ih (d.setIfInBounds j true) L K (hd.set y) l (ready_mono n (Ne.symm f)) C.1 C.2.1.1 x ?_⟩
   grind [Array.setIfInBounds_comm]
structure Pb(md:Region.Mode)(ops:Array Oper)(S T:World->Prop)(k:Nat)(listed:Array Bool)(w:Aa):Prop where
 down:Down md ops listed
 s:S w
 t:listed.getD k true=false->T w
theorem Pb.set(h:Pb md ops S T k listed w)(b:(Region.ready md ops listed).contains i=true)(a:(i==k)=false):Pb md ops S T k (listed.setIfInBounds i true) w:=
 ⟨h.down.set (by simpa using b),h.s,by rw[getD_set_ne true (by simpa using a)];exact h.t⟩
theorem bw{v:Ad}(hi:ops[i]?=oi)
  (j:Region.noSelect ops=true) (g:Region.free md ops listed i=true) (e:(Region.ready md ops listed).contains i=true) (b:(i==k)=false)
  (f:∀c a w,Q (.panic c) (a.put oi.dst v) w->Q (.panic c) a w) (l:YieldsIf P ops S oi v a) (d:Pb md ops S T k listed w)
  (h:Pb md ops S T k (listed.setIfInBounds i true) w->Ko P md ops Q S T k fuel (listed.setIfInBounds i true) (a.put oi.dst v) w):Ko P md ops Q S T k (fuel+1) listed a w:=
 QD (Uq:=S) hi (Region.noSelect_spec j) f (by simpa using b) (λ_ _ _ _ h _=>h) fuel listed a w d.down (Region.free_spec hi g) (by simpa using e) l d.s d.t (h (d.set e b))
theorem X6{v:Ad}(hi:ops[i]?=oi)
  (l:Region.noSelect ops=true) (j:Region.free md ops listed i=true) (f:(Region.ready md ops listed).contains i=true) (b:(i==k)=false) (n:Hr md ops k i)
  (g:∀c a w,Q (.panic c) (a.put oi.dst v) w->Q (.panic c) a w) (o:YieldsIf P ops (λw=>S w/\T w) oi v a) (d:Pb md ops S T k listed w)
  (h:Pb md ops S T k (listed.setIfInBounds i true) w->Ko P md ops Q S T k fuel (listed.setIfInBounds i true) (a.put oi.dst v) w):Ko P md ops Q S T k (fuel+1) listed a w:=
 QD (Uq:=λw=>S w/\T w) hi (Region.noSelect_spec l) g (by simpa using b) (λ_ _ hd e h m=>⟨h,m (n.xL hd e)⟩) fuel listed a w d.down (Region.free_spec hi j) (by simpa using f) o d.s d.t (h (d.set f b))
def IP(P:Program)(md:Region.Mode)(ops:Array Oper)(Q:Exit->Act->World->Prop)(S T:World->Prop)(k:Nat)(fuel:Nat)(listed:Array Bool)(a:Act)(w:Aa)(rs:List Nat):Prop:=
 ∀i∈rs,wpOp P ops Q i (λa' w'=>(S w'/\((listed.setIfInBounds i true).getD k true=false->T w'))/\Ko P md ops Q S T k fuel (listed.setIfInBounds i true) a' w') a w
theorem IP.nil:IP P md ops Q S T k fuel listed a w []:=λ_ h=>by cases h
theorem IP.cons(l:ops[i]?=o)
  (hd:Down md ops listed) (m:(Region.ready md ops listed).contains i=true)
  (h:∀b,Shut (∀a w,S w->((listed.setIfInBounds i true).getD k true=false->T w)->(Pb md ops S T k (listed.setIfInBounds i true) w->Ko P md ops Q S T k fuel (listed.setIfInBounds i true) a w)->b a w)->if Region.wanted o (yielded ops a.tmps)=true then Oper.wp P o a w b Q else b (a.put o.dst undef) w)
  (n:IP P md ops Q S T k fuel listed a w rs):IP P md ops Q S T k fuel listed a w (i :: rs):=λj c=>by
 rcases CX.1 c with rfl|c
 .exact wpOp_step l (λb f=>h b (λa w d e g=>f a w ⟨⟨d,e⟩,g ⟨hd.set (by simpa using m),d,e⟩⟩))
 .exact n j c
theorem QE(c:Region.ready md ops listed=rs)(b:rs≠[])
  (h:IP P md ops Q S T k fuel listed a w rs):Ko P md ops Q S T k (fuel+1) listed a w:=by grind [IP,Ko]
theorem bu(b:Region.ready md ops listed=[])(h:Q .normal a w):
  ∀fuel,Ko P md ops Q S T k fuel listed a w
 |0=>⟨b,h⟩
 |_+1=>⟨λ_=>h,by rw[b];simp⟩
theorem bA(e:P.follows .mixedOrders=true)(c:S w.drew)(d:T w.drew)
  (h:Pb .any ops S T k (Array.replicate ops false) w.drew->Ko P .any ops Q S T k ops (Array.replicate ops false) a w.drew):(Code.region id ops true).wp P Q a w:=
 wp_region_any e (U6 _ _ _ _ (h ⟨λj f b hl=>by
  simp[((Array.getElem?_eq_some_iff.1 b).1)]at hl,c,λ_=>d⟩))
def WK(P:Program)(md:Region.Mode)(ops:Array Oper)(Q:Exit->Act->World->Prop)(S T:World->Prop)(k:Nat)(fuel:Nat)(listed:Array Bool)(a:Act)(w:Aa):Prop:=
 Pb md ops S T k listed w->Ko P md ops Q S T k fuel listed a w
theorem WK.take{v:Ad}(hi:ops[i]?=oi)
  (g:Region.noSelect ops=true) (e:Region.free md ops listed i=true) (f:(Region.ready md ops listed).contains i=true) (b:(i==k)=false)
  (d:∀c a w,Q (.panic c) (a.put oi.dst v) w->Q (.panic c) a w) (j:YieldsIf P ops S oi v a)
  (h:WK P md ops Q S T k fuel (listed.setIfInBounds i true) (a.put oi.dst v) w):WK P md ops Q S T k (fuel+1) listed a w:=by grind [WK,bw]
theorem WK.one(c:Region.ready md ops listed=[i])(l:ops[i]?=o)
  (h:∀b,Shut (∀a w,S w->T w->WK P md ops Q S T k fuel (listed.setIfInBounds i true) a w->b a w)->if Region.wanted o (yielded ops a.tmps)=true then Oper.wp P o a w b Q else b (a.put o.dst undef) w):WK P md ops Q S T k (fuel+1) listed a w:=
 λd=>QE c Ev (IP.cons l d.down (by rw[c];simp) (λb e=>h b λa w f g j=>e a w f (λ_=>g) j) IP.nil)
theorem WK.store(d:Region.ready md ops listed=[k])(j:ops[k]?=o)
  (h:∀b,Shut (∀a w,S w->WK P md ops Q S T k fuel (listed.setIfInBounds k true) a w->b a w)->if Region.wanted o (yielded ops a.tmps)=true then Oper.wp P o a w b Q else b (a.put o.dst undef) w):WK P md ops Q S T k (fuel+1) listed a w:=
 λe=>QE d Ev (IP.cons j e.down (by rw[d];simp) (λb f=>h b λa w g i=>f a w g (λhc=>by
  exfalso;rcases CR k listed.size with c|c
  .simp[c]at hc
  .simp[Nat.not_lt.2 c]at hc) i) IP.nil)
theorem WK.done(b:Region.ready md ops listed=[])(h:Q .normal a w):WK P md ops Q S T k fuel listed a w:=
 λ_=>bu b h fuel
theorem WK.begin(d:P.follows .mixedOrders=true)(b:S w.drew)(c:T w.drew)
  (h:WK P .any ops Q S T k ops (Array.replicate ops false) a w.drew):(Code.region id ops true).wp P Q a w:=
 bA d b c h
end
theorem DT{P:Program}{S T:World->Prop}(i:Nat){v:Ad}(hi:ops[i]?=some oi)(h:WK P md ops Q S T k fuel l' a' w)
  (j:Region.noSelect ops=true:=by kernel_rfl) (f:Region.free md ops listed i=true:=by kernel_rfl) (g:(Region.ready md ops listed).contains i=true:=by kernel_rfl) (b:(i==k)=false:=by rfl)
  (d:∀c a w,Q (.panic c) (a.put oi.dst v) w->Q (.panic c) a w:=by exact λ_ _ _ h=>h) (l:YieldsIf P ops S oi v a:=by(refine Aj ⟨by rfl,?_⟩;intro w _;go_simp;try with_reducible rfl))
  (hl:listed.setIfInBounds i true=l':=by(try simp only[Al,Av,Ax]);try rfl)
  (e:a.put oi.dst v=a':=by(try simp only[Act.put,Al,Av,Ax,Az,Aq,Au]);try rfl):WK P md ops Q S T k (fuel+1) listed a w:=WK.take hi j f g b d l (by rw[hl,e];exact h)
theorem Iw{P:Program}{S T:World->Prop}(i:Nat){v:Ad}(hi:ops[i]?=some oi)(l:Hr md ops k i)(m:YieldsIf P ops (λw=>S w/\T w) oi v a)(h:WK P md ops Q S T k fuel l' a' w)
  (j:Region.noSelect ops=true:=by kernel_rfl) (f:Region.free md ops listed i=true:=by kernel_rfl) (g:(Region.ready md ops listed).contains i=true:=by kernel_rfl) (b:(i==k)=false:=by rfl)
  (d:∀c a w,Q (.panic c) (a.put oi.dst v) w->Q (.panic c) a w:=by exact λ_ _ _ h=>h)
  (hl:listed.setIfInBounds i true=l':=by(try simp only[Al,Av,Ax]);try rfl)
  (e:a.put oi.dst v=a':=by(try simp only[Act.put,Al,Av,Ax,Az,Aq,Au]);try rfl):WK P md ops Q S T k (fuel+1) listed a w:=(by grind [WK,X6])
theorem Fw{P:Program}{S T:World->Prop}(i:Nat){v:Ad}(hi:ops[i]?=some oi)(l:Hr md ops k i)(h:WK P md ops Q S T k fuel l' a' w)(m:YieldsIf P ops (λw=>S w/\T w) oi v a:=by(refine Aj ⟨by rfl,?_⟩;intro w _;go_simp;try with_reducible rfl))
  (j:Region.noSelect ops=true:=by kernel_rfl) (f:Region.free md ops listed i=true:=by kernel_rfl) (g:(Region.ready md ops listed).contains i=true:=by kernel_rfl) (b:(i==k)=false:=by rfl)
  (d:∀c a w,Q (.panic c) (a.put oi.dst v) w->Q (.panic c) a w:=by exact λ_ _ _ h=>h)
  (hl:listed.setIfInBounds i true=l':=by(try simp only[Al,Av,Ax]);try rfl)
  (e:a.put oi.dst v=a':=by(try simp only[Act.put,Al,Av,Ax,Az,Aq,Au]);try rfl):WK P md ops Q S T k (fuel+1) listed a w:=Iw i hi l m h j f g b d hl e
end Go.Proofs.YtblomippkddgiabGreatDoor
