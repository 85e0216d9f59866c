import Derived.Test.YtblomippkddgiabGreatDoorJ16
import Derived.Lib.SliceRun
set_option maxRecDepth 100000
set_option maxHeartbeats 4000000
namespace Go.Proofs.YtblomippkddgiabGreatDoor
open Go.Proofs.Tryz RowKit
variable {f:ByteArray}{E F:D9}{k kind life proc r tb:Int}{zc:List (R.Cl×CE)}{arg:List R.It}{Ts:List Tw}{bs rb:List UInt8}{L:List V.Kp}{N N' Sn b cap cl dc dn g i j lc ln m n oc on u x:Nat}{z:Nat→Option Obj}{o:LD}{p:Pl}{M:R.Bk}{c:R.Cf}{s:R.Sv}{G G':R.Wd}{v:RV}{t:Tw}{A C K X lv:Value}{W W1 w w' w0 w1 w2 w3 wr wz:World}
structure aeh(kind:Int)(l:List R.En)(proc:Int)(arg:List R.It):Prop where
 len:l.length<=1000000000
 kinds:kind=0\/kind=1\/kind=2
 args:∀e∈l,e.arg≠[]/\e.arg.length<=1000
 nil:arg≠[]
 nums:kind=0->(∀e∈l,-65536<=R.IJ e.arg 0/\R.IJ e.arg 0<=65536)/\-65536<=R.IJ arg 0/\R.IJ arg 0<=65536
 a:kind=1->proc=0\/(proc=1/\0<=R.IJ arg 0)
 two:kind=2->∀e∈l,2<=e.arg.length
theorem mV(l:List R.En):(R.Fe l).length<=4:=by
 unfold R.Fe;simp only[A9];omega
theorem Zb:∀(l:List R.En) (d:Int) (a:List R.It),a.length<=1000->(∀e∈l,e.arg.length<=1000)->(R.I6 l d a).length<=1000
 |[],_,_,h,_=>h
 |e :: l,d,a,h,ha=>by
  rw[R.I6];refine Zb l d _ ?_ (λb c=>ha b (BQ _ c));split
  .have:=ha e (Co ..);rw[A9];omega
  .exact h
theorem aD(a:List ByteArray)(n q:Nat)(b:q=min n a):Hm q a q=R.num ((a.take n):Int) :: (a.take n).map λs=>(0,s):=by
 unfold Hm R.num;have e:a.take n=a.take q:=by
  rw[b];rcases Nat.le_total n a.length with h|h
  .rw[Ct h]
  .rw[Nat.min_eq_right h,A7 h,Cw]
 rw[e,Bv,show min q a.length=q by omega]
theorem rB{l:List R.En}(h:Lg w F X l)(n:Gg w F A arg)(hk:aeh kind l proc arg):ET 194 #[Z kind,X,Z proc,A] w λe m=>∃O,e=.returned O/\V.Row m w O (R.Hw kind l proc arg)/\DY w m:=by
 obtain⟨f,i,g,rfl,_,c0,_⟩:=n.first hk.nil;have j:=Cg.2 hk.nil;unfold R.Hw;rcases hk.kinds with rfl|rfl|rfl
 .rw[Ay rfl];have⟨n1,n2⟩:=hk.nums I;exact ZL w X proc (R.Fh l 0) (R.IJ arg 0) f i arg.length g j c0 (Py l 0 U) n2 (Dx (Yz h hk.len λe d=>⟨(hk.args e d).1,n1 e d⟩))
 .rw[Ao Em,Ay rfl];have b:=fB h hk.len (λe d=>(hk.args e d).1);have k:=mV l;rcases hk.a rfl with rfl|⟨rfl,p⟩
  .rw[Ay rfl];refine fP w X _ (R.Fe l).length k (Dx (b.mono ?_));rintro e m ⟨⟨a,c,rfl,_⟩,o⟩;exact⟨⟨a,c,I⟩,o⟩
  .rw[Ao Em];simp only;by_cases q:R.IJ arg 0<((R.Fe l).length:Int)
   .rw[<-aD (R.Fe l) (R.IJ arg 0).toNat (R.IJ arg 0).toNat U];exact fQ w X f i arg.length g (R.IJ arg 0).toNat (R.Fe l) k j (R.IJ arg 0) U U c0 (Dx b)
   .rw[<-aD (R.Fe l) (R.IJ arg 0).toNat (R.Fe l).length U];exact nG w X f i arg.length g (R.Fe l).length (R.Fe l) k j (R.IJ arg 0) U I c0 (Dx b)
 .rw[Ao Em,Ao Em];exact fO w X proc (R.IJ arg 0) f i arg.length g (R.I6 l (R.IJ arg 0) []) (Zb l _ _ Ev (λe d=>(hk.args e d).2)) j c0 (Dx (sJ h hk.len _ (hk.two I)))
structure acG(kind proc:Int)(arg:List R.It):Prop where
 nil:arg≠[]
 len:arg.length<=1000
 num:kind=0->-65536<=R.IJ arg 0/\R.IJ arg 0<=65536
 bL:kind=1->proc=0\/(proc=1/\0<=R.IJ arg 0)
 two:kind=2->2<=arg.length
 kinds:kind=0\/kind=1\/kind=2
theorem VD{t:Ab}(b:R.IY kind proc=(f,t))(e:R.Fi f arg=bs):acG kind proc arg:=by
 unfold R.IY at b;split at b
 .rename_i h;obtain⟨rfl,rfl⟩:=h;cases b;obtain⟨x,rfl,g,c,i⟩:=R.qF e;exact ab1
 split at b
 .rename_i h;obtain⟨rfl,rfl⟩:=h;cases b;obtain⟨x,rfl,g,c,i⟩:=R.qD e;exact ab1
 split at b
 .grind [acG,R.jf]
 split at b
 .rename_i h;obtain⟨rfl,rfl⟩:=h;cases b;obtain⟨x,rfl,g,c,i⟩:=R.qE e;exact⟨Ev,Ev,Ev,λ_=>Am ⟨I,by show 0<=x.1;omega⟩,Ev,Am (Aj I)⟩
 split at b
 .rename_i h;obtain⟨rfl,rfl⟩:=h;cases b;obtain⟨d,k,a,rfl,g,c,i,j⟩:=R.je e;have hk:=c.2.2;exact⟨Ev,Fy,Ev,Ev,λ_=>by simp,Am (Am I)⟩
 .cases b
theorem sV(a:R.Inv M G)(b:G.a[n]?=s):R.OI s.J s.log:=λe c=>by
 have⟨d',d,g1,g2,g3,g4,g5,g6⟩:=((a.lg n s b).each e c).some;have hcd':=(a.bk _ d' g1).1;have hk':R.NQ G.a d'.c=s.J:=by
  rw[g2];unfold R.NQ;rw[show ((n:Int)+1-1).toNat=n by omega,b];rfl
 exact abZ
theorem aeC(c:R.Inv M G)(h:G.a[n]?=s){t:Ab}(g:R.IY s.J proc=(f,t))(d:R.Fi f arg=bs):aeh s.J s.log proc arg:=by
 have b:=VD g d;have hl:∀e∈s.log,acG s.J e.g e.arg:=λe a=>by
  grind [sV,VD]
 exact⟨by have:=c.Xo h;omega,b.kinds,λe a=>⟨(hl e a).nil,(hl e a).len⟩,b.nil,λhk=>⟨λe a=>(hl e a).num hk,b.num hk⟩,b.bL,λhk e a=>(hl e a).two hk⟩
theorem adG{p:Int}(hk:0<=k/\k<=2){t:Ab}(h:R.IY k p=(f,t))(w:Aa):D7 119 #[Z k,Z p] w (.tuple #[.string f,.string t,Z 0]) λa=>a=w:=by grind [Qn,Wm]
theorem Yr{t:Ab}{v:List R.It}(h:R.Fi t v=rb):(V.Pt.O7 (V.nx t) t).1=0/\V.IG t v=rb:=by grind [V.JO,R.Fi,V.IG]
structure JE(w:Aa)(la:Af)(ln lc:Nat)(es:List (R.En×Value×Value))(en:R.En)(da:Af)(dn dc:Nat)(a:Af)(q cp:Nat)(W1:Aa):Prop where
 k:DF (λk=>(Value.slice la ln lc).ownBlock=some k) w W1
 r:∃oa on oc,V.Row W1 w.heap.size (.slice oa on oc) en.arg/\W1.ownsRow 0 45 7 (.slice a q cp) (es.length+1) (tab IQ (es++[(en,.slice oa on oc,.slice da dn dc)]))
 d:V.Row W1 w.heap.size (.slice da dn dc) en.D
 n:∀j,(Value.slice a q cp).ownBlock=some j->(Value.slice la ln lc).ownBlock=some j\/w.heap.size<=j
theorem eY{t:Af}{l:List (R.En×Value×Value)}{en:R.En}{g c:Af}(E:DY w W)(f:w.ownsRow 0 45 7 (.slice t ln lc) l (tab IQ l))(hl:l.length<=3000000)(G:V.Row W w (.slice g on oc) en.arg)(F:V.Row W w (.slice c dn dc) en.D):
  ∃a q v i,(Builtin.append_ #[97,97] 97 #[.slice t ln lc,EJ W 1 1]).run prog (W.drew.alloc (.cells #[Z en.f,Z en.b,Z en.H,Z en.a,Z en.g,.slice g on oc,.slice c dn dc] 45))=.ok (.slice a q v) i/\JE w t ln lc l en c dn dc a q v i:=by
 have⟨i0,y,z,A,C⟩:=A1 su;have n:DY W (W.drew.alloc (.cells #[Z en.f,Z en.b,Z en.H,Z en.a,Z en.g,.slice g on oc,.slice c dn dc] 45)):=(AA _ _).drew.alloc (Ar _) _;have b:=E.trans (n.mono E.size);have r:Dy (W.drew.alloc (.cells #[Z en.f,Z en.b,Z en.H,Z en.a,Z en.g,.slice g on oc,.slice c dn dc] 45)) W.heap.size (IQ (en,.slice g on oc,.slice c dn dc)).toArray 45:=AF W.drew _;generalize W.drew.alloc (.cells #[Z en.f,Z en.b,Z en.H,Z en.a,Z en.g,.slice g on oc,.slice c dn dc] 45)=W' at *;have⟨J,i,s,d,o,_,x⟩:=run_append_own_at (P:=prog) (w:=W') 0 97 97 45 i0 _ 7 88 underlying97 y z A C I Em (.slice t ln lc) l.length (tab IQ l) (ER f b) (EN W 0) 1 1 (IQ (en,.slice g on oc,.slice c dn dc)) I (λj u m=>by rw[Bc,Cr];exact E7 r m) (by simp[IQ,Value.oneCell']) JG U (AV _);obtain⟨a,q,v,rfl⟩:=Ei d;have p:DF (λk=>(Value.slice t ln lc).ownBlock=some k) W' i:=⟨o.os,o.tape,o.output,o.size,λk hk hn=>o.block k hk (λe=>hn e.symm)⟩;have hk:=(DF.J b _).trans p;have h:∀{O:Ad} {u:List V.It},V.Row W w.heap.size O u->V.Row i w.heap.size O u:=λH=>by
  have D:=ER H n;exact p.row D (λj m e=>OP (B:=w.heap.size) (B':=0) D (ER f b) Em j m e)
 refine⟨a,q,v,i,s,hk,⟨g,on,oc,h G,?_⟩,h F,λj m=>?_⟩
 .rw[Jn];exact d
 .rcases x with e|e
  .exact Aj (e ▸ m)
  .rw[m]at e;have:=Option.some.inj e;exact Am (by have:=b.size;omega)
theorem RM.done{w:Aa}(h:RM x v F G w)(hI:R.Inv M G)(hi:i<9)(h2:(R.EZ G i).d=2):
  D7 133 #[Ey x,Z i] w Ep λT=>∃v' F',RM x v' F' (R.Oa G i) T/\D8 F F' w T:=by
 have⟨d,n,s,rb,hd⟩:=hI.W9 hi h2;rw[hd.eq h2];generalize R.EZ G i=r at hd h2 ⊢;have b1:=hI.Lr hi hd h2;have⟨z,hz,bX⟩:=K4 h.zs hd.sv;have be:=bX;subst be;have hzl:v.zs.length=G.a.length:=by rw[<-h.zs,AX]
 have c8:=hI.wf.sv;have⟨g,cap,hV,cg,aa,bS⟩:=Jx MD U h.a hz;have C:=h.a;rw[hV]at C;have⟨c7,A⟩:=J3 C I;have aw:=h.c.c z (Ap hz);have⟨es,he,ae,b6⟩:=aw.row;have⟨la,ln,lc,S⟩:=Ei ae;have bz:es.length<=3000000:=by
  have:=hI.Xo hd.sv;rw[<-he,AX]at this;exact this
 have B:=ae;rw[S]at B;have ad:=hd.ok.C h2;have⟨m1,m2⟩:=R.Zk (R.Rj hd.sig);have ci:2<=r.b.length:=by rw[ad];simp[R.Cd.h,EU]
 have bV:(str r.b).size=r.b.length:=Er _;have b9:2<=(str r.b).size:=U;have ac:=GG hd.J;have ch:=hI.ws.ll;obtain⟨en,H⟩:∃en,en=R.Gx G i r d z.1:=DR;have ar:en.arg=d.arg:=by rw[H];rfl
 have ak:en.D=R.Hw z.1.J z.1.log d.g d.arg:=by rw[H];rfl
 have al:en.arg≠[]:=by rw[ar];exact qG hd.sig hd.cd.bs
 have b7:en.D≠[]:=by rw[ak];exact jw _ _ _ _
 have⟨b4,b5⟩:=Yr hd.El;have az:EB w v.L (i / 3) (Z (G.C.getD (i / 3) 0)):=by
  refine E7 h.C ?_;exact abT
 have l:∀{b:Nat} {ys:Array Value} {t:Ag},Dy w b ys t->t≠45->¬(Value.slice la ln lc).ownBlock=some b:=λc ht=>Fg B c (λq=>ht q.symm)
 have hC:JC w x v.Sn v.L g v.zs.length cap i n (i / 3) (G.C.getD (i / 3) 0) z.1.J r la ln lc:=by
  refine⟨ED h.bx 7 _ (by rw[<-hV];rfl),EI h.bx 10,EI h.bx 11,Kg h.J hd.J,az,aa 0 _ U I,?_,λo=>Eb h.J,bS,by rw[hd.ok.c,hd.c],(GG hz),U,hi,I,λe=>ES h.J (e ▸ h.bx) Em I,λe=>ES h.J (e ▸ A) Em I,λe=>ES A (e ▸ h.bx) Em I,λe=>ES h.C (e ▸ A) Em I,λe=>ES h.C (e ▸ h.J) Em I⟩;rw[<-S];exact aa 2 _ U I
 refine fR w x v.Sn v.L g v.zs.length cap i n (i / 3) (i % 3) (G.C.getD (i / 3) 0) z.1.J d.g r la ln lc (str r.b) (str d.bs) d.a d.to 0 0 rb _
  (λN on P T=>V.Row T w.heap.size (.slice N on P) en.arg/\DY w T)
  (λN on P X dn dc T=>V.Row T w.heap.size (.slice N on P) en.arg/\V.Row T w.heap.size (.slice X dn dc) en.D/\DY w T)
  (λX dn dc a q p L=>JE w la ln lc es en X dn dc a q p L) hC rfl rfl b9 ?_ ?_ (Dx λW=>adG (hI.wf.e z.1 (Ap hd.sv)) hd.sig W) (Dx λW c=>?_) (Dx ?_) (Dx ?_) (Dx ?_) (Dx ?_)
 .rw[LB,bV,A7 Ev,ad,m2]
 .rw[T6,T6,ad];exact m1
 .have hu:=V.V5 d.a d.bs W;rw[R.Kq hd.cd.bs]at hu;refine hu.mono ?_;rintro e T ⟨O,rfl,hR,E⟩;obtain⟨N,on,P,rfl⟩:=Ei hR;refine⟨N,on,P,I,⟨?_,c.trans (E.mono c.size)⟩,c.trans (E.mono c.size)⟩;rw[ar];exact V.GL hR c.size
 .rintro N on P W ⟨hO,c⟩;have bU:Lg W.drew (λk=>F k\/(Value.slice N on P).ownBlock=some k) (.slice la ln lc) z.1.log:=by
   rw[<-S];exact aw.keep (DF.J c (λ_=>False)).drew (λ_ _ _ q=>q) (λ_ q=>Aj q)
  have bT:Gg W.drew (λk=>F k\/(Value.slice N on P).ownBlock=some k) (.slice N on P) d.arg:=by
   rw[<-ar];exact((ND hO al).1).keep (DF.refl (λ_=>False) W).drew (λ_ _ _ _ q=>q) (λ_ q=>Am q)
  refine(rB bU bT (aeC hI hd.sv hd.sig hd.cd.bs)).mono ?_;rintro e T ⟨O,rfl,hR,E⟩;obtain⟨X,dn,dc,rfl⟩:=Ei hR;have aq:=(AA W.heap.size W).drew.trans E;refine⟨X,dn,dc,I,⟨ER hO aq,?_,c.trans (aq.mono c.size)⟩,c.trans (aq.mono c.size)⟩;rw[ak];exact V.GL hR c.size
 .rintro N on P X dn dc W ⟨hO,hD,c⟩;have⟨a,q,p,L,an,m⟩:=eY (en:=en) c B bz hO hD;have e0:en.f=((i / 3:Nat):Int):=by rw[H];rfl
  have e1:en.b=G.C.getD (i / 3) 0:=by rw[H];rfl
  have e2:en.H=((i % 3:Nat):Int):=by rw[H];rfl
  have e3:en.a=r.a:=by rw[H];rfl
  have e4:en.g=d.g:=by rw[H];rfl
  rw[e0,e1,e2,e3,e4]at an;refine⟨a,q,p,L,an,λk hk=>?_,m⟩;rcases hk with rfl|rfl|rfl|rfl
  .exact m.k.block _ (Dv h.bx) (l h.bx Em)
  .exact m.k.block _ (Dv h.J) (l h.J Em)
  .exact m.k.block _ (Dv A) (l A Em)
  .exact m.k.block _ (Dv h.C) (l h.C Em)
 .intro X dn dc a q p L W m c;have Q:=m.k.at A (l A Em);have aS:=m.k.at h.J (l h.J Em);have d1:=(Eg (b:=g) (o:=n*3+2) (.slice a q p)).row m.d (λj K e=>Fg m.d Q Em (e ▸ K));have bW:((L.setCell (Y g (n*3+2)) (.slice a q p)).setCell (Y v.Sn (i*10+4)) (Z 3)).heap.size=L.heap.size:=Ev;rw[<-bW]at c;refine V.Ux d.to b4 _ en.D W (V.KW (ER ((Eg (b:=v.Sn) (o:=i*10+4) (Z 3)).row d1 (λj K e=>Fg d1 ((Eg (w:=L) (b:=g) (o:=n*3+2) (.slice a q p)).at aS (λe=>ES aS (e ▸ Q) Em I)) Em (e ▸ K))) c)) ?_ ?_
  .have:=KQ hd.El;rw[ak];omega
  .rw[ak];exact b5
 .intro X dn dc a q p L W W' m c E;have⟨N,on,P,hO,am⟩:=m.r;have Q:=m.k.at A (l A Em);have aS:=m.k.at h.J (l h.J Em);have av:DF (λk=>v.V.ownBlock=some k\/z.2.ownBlock=some k) w (L.setCell (Y g (n*3+2)) (.slice a q p)):=by
   refine(m.k.mono (λk _ e=>Am (by rw[S];exact e))).trans ((Eg (.slice a q p)).mono (λk _ e=>Aj ?_));rw[hV,e];rfl
  have kg:DF (λk=>k=g) L (L.setCell (Y g (n*3+2)) (.slice a q p)):=Eg _;have b2:=kg.row am (λj K e=>Fg am Q Em (e ▸ K));have⟨iO,lO⟩:=ND (kg.row hO (λj K e=>Fg hO Q Em (e ▸ K))) al;have⟨iD,lD⟩:=ND (kg.row m.d (λj K e=>Fg m.d Q Em (e ▸ K))) b7;have kF:=av;have ah:∀{b:Nat} {ys:Array Value},Dy w b ys 73->¬(v.V.ownBlock=some b\/z.2.ownBlock=some b):=λc e=>by
   rcases e with e|e
   .exact Fg h.a c Em e
   .exact Fg ae c Em e
  have bt:Lg (L.setCell (Y g (n*3+2)) (.slice a q p)) (λk=>F k\/(Value.slice N on P).ownBlock=some k\/(Value.slice X dn dc).ownBlock=some k\/(Value.slice a q p).ownBlock=some k) (.slice a q p) (z.1.log++[en]):=by
   refine⟨⟨es++[(en,.slice N on P,.slice X dn dc)],by rw[C8,he];rfl,by rw[AJ];exact b2,λy hy=>?_⟩,λj K=>Am (Am (Am K))⟩;rcases Bj.1 hy with q'|q'
   .exact⟨(b6 y q').1.keep kF (λb bp _ c=>ah c) (λ_ q=>Aj q),(b6 y q').2.keep kF (λb bp _ c=>ah c) (λ_ q=>Aj q)⟩
   .rw[Bg.1 q'];exact⟨iO.keep (DF.refl (λ_=>False) _) (λ_ _ _ _ q=>q) (λ_ q=>Am (Aj q)),iD.keep (DF.refl (λ_=>False) _) (λ_ _ _ _ q=>q) (λ_ q=>Am (Am (Aj q)))⟩
  have⟨r1,r2⟩:=h.adb hz (V':=.slice a q p) (l':=z.1.log++[en]) (F2:=λk=>F k\/(Value.slice N on P).ownBlock=some k\/(Value.slice X dn dc).ownBlock=some k\/(Value.slice a q p).ownBlock=some k) (λk hk=>by
   rcases hk with e|e|e|e
   .exact Aj e
   .exact Am (lO k e).1
   .exact Am (lD k e).1
   .rcases m.n k e with f|f
    .exact Aj (aw.own k (by rw[S];exact f))
    .exact Am f) (λ_ q=>Aj q) (λk hk=>by
   rcases hk with e|e|e|e
   .exact Ai (h.lt k e) av.size
   .exact(lO k e).2
   .exact(lD k e).2
   .exact((λj K=>Ba b2 j K) k e).2) av (by rw[hV];exact(Qr MD (m.k.row C (λj K e=>OP C B Em j K e)) (y':=({z.1 with log:=z.1.log++[en]},.slice a q p)) hz (j:=2) U (u:=.slice a q p) I)) bt (λj K=>by
   rcases m.n j K with f|f
   .exact Aj (by rw[S];exact f)
   .exact Am f)
  have⟨s1,s2⟩:=r1.q (sn:=G.J.set i {r with d:=3}) (Eg _) (Fz r1.J hd.J (j:=4) (u:=Z 3) U I);have bb:((L.setCell (Y g (n*3+2)) (.slice a q p)).setCell (Y v.Sn (i*10+4)) (Z 3)).heap.size=L.heap.size:=Ev;rw[<-bb]at c;have t1:=s1.h c;have⟨u1,u2⟩:=t1.q (sn:=(G.J.set i {r with d:=3}).set i {r with d:=3,D:=rb}) (Eg _) (Fz t1.J (AO ac) (j:=5) (u:=.string (str rb)) U I);have⟨u3,u4⟩:=u1.q (sn:=((G.J.set i {r with d:=3}).set i {r with d:=3,D:=rb}).set i {r with d:=3,D:=rb,at':=0}) (Eg _) (Fz u1.J (AO (by simpa using ac)) (j:=6) (u:=Z 0) U I);have ba:((W.setCell (Y v.Sn (i*10+5)) (.string (str rb))).setCell (Y v.Sn (i*10+6)) (Z 0)).heap.size=W.heap.size:=Ev;rw[<-ba]at E;have ab:=u3.h E;rw[A5,A5]at ab;have br:R.Lr G i r d n z.1 rb={G with a:=G.a.set n {z.1 with log:=z.1.log++[en]},J:=G.J.set i {r with d:=3,D:=rb,at':=0}}:=by
   rw[H];rfl
  rw[<-br]at ab;have aV:=b1.ws;have aN:(R.Lr G i r d n z.1 rb).J[i]?=some {r with d:=3,D:=rb,at':=0}:=AO ac;have⟨q1,q2,q3,q4⟩:=(aV.sn i _ aN).h I;refine cm (ab.tell b1.wf.X aV.ll aN hi ⟨q3,q4⟩ q2 (Jg aV aN I)) ?_;rintro T ⟨v',F',n1,n2⟩;exact⟨I,v',F',n1,(((((r2.trans s2).trans (D8.J _ c)).trans u2).trans u4).trans (D8.J _ E)).trans n2⟩
structure Tf(x:Nat)(F:D9)(G:R.Wd)(w:Aa)(M:R.Bk)(js:List R.Jb)(w1:Aa):Prop where
 rm:∃v,RM x v F {G with d:=js} w1
 a:D8 F F w w1
 inv:R.Inv M {G with d:=js}
 eq:R.FQ G=R.Hy G js
theorem RW.serve(h:RW x v F G w)(hI:R.Inv M G):
  D7 76 #[Ey x] w (Z (R.FQ G).1) λm=>∃u i,RW x u i (R.FQ G).2 m/\D8 F i w m:=by
 have D:=hI.FQ;have fin:∀{m:Aa},(∃u i,RM x u i (R.FQ G).2 m/\D8 F i w m)->∃u i,RW x u i (R.FQ G).2 m/\D8 F i w m:=λ⟨u,i,a,b⟩=>⟨u,i,a.whole D.wf D.ws,b⟩
 refine(Z7 (Tf x F G w M) (λm=>(R.FQ G).1=0/\∃u i,RM x u i (R.FQ G).2 m/\D8 F i w m) (λm=>(R.FQ G).1=19/\∃u i,RM x u i (R.FQ G).2 m/\D8 F i w m) ⟨⟨v,h.toRM⟩,D8.refl F w,hI,I⟩ (Dx ?_) (Dx ?_) (Dx ?_)).mono ?_
 .intro js W c;have⟨B,r⟩:=c.rm;unfold Lx;rcases r.c.d with ⟨z,K⟩|⟨g,off,cap,ah,z,_⟩
  .have H:js=[]:=z;rw[EI r.bx 12];show (match some B.J with|some (.slice _ n _)=>n|_=>0)=_;rw[K,H];rfl
  .rw[EI r.bx 12];show (match some B.J with|some (.slice _ n _)=>n|_=>0)=_;rw[z]
 .intro W c;have⟨B,r⟩:=c.rm;refine⟨?_,?_,B,F,?_,c.a⟩
  .rcases r.c.d with ⟨z,K⟩|⟨g,off,cap,ah,z,_⟩
   .exact⟨none,0,ED r.bx 12 _ (by rw[<-K];rfl)⟩
   .have H:B.J=.slice (some (Y g (off*4))) 0 cap:=z;exact⟨some (Y g (off*4)),cap,ED r.bx 12 _ (by rw[<-H];rfl)⟩
  .rw[c.eq];rfl
  .rw[c.eq];exact r
 .intro j js W c;have⟨B,r⟩:=c.rm;have⟨g,o,cap,hJ,av,aa,ac,f,ad,S⟩:=Yb.first r.c.d;have⟨⟨az,aN⟩,aS,aV⟩:=c.inv.ws.jb j Co;obtain⟨l,N⟩:∃l:Nat,j.f=(l:Int):=⟨j.f.toNat,U⟩;obtain⟨t,P⟩:∃t:Nat,j.H=(t:Int):=⟨j.H.toNat,U⟩;have ab:3*l+t<9:=U;have b3:=c.inv.ws.sl;have al:=c.inv.ws.ll;have hr:G.J[3*l+t]?=some (R.EZ G (3*l+t)):=c.inv.A ab;have Q:EB W B.L l (Z (G.C.getD l 0)):=by
   refine E7 r.C ?_;have aq:G.C.length=3:=al;show (GK G.C)[l]?=_;exact abT
  have p:R.Km G j↔(R.EZ G (3*l+t)).d=2/\(R.EZ G (3*l+t)).a=j.a/\G.C.getD l 0=j.b:=by
   unfold R.Km;rw[N,P];rfl
  have E:∀y∈js,y∈j :: js:=λy hy=>BQ _ hy
  have X:R.Inv M {G with d:=js}:=c.inv.QZ (js:=js) (by
   have:=c.inv.ws.jl;simp at this;show (js.length:Int)<=G.c.d;omega) (λy hy=>⟨c.inv.ws.jb y (E y hy),c.inv.jb y (E y hy)⟩)
  have T:Yb W F (NR g o js.length cap) js:=by
   by_cases A:cap=1
   .rw[show NR g o js.length cap=_ from Ay A];exact ad A
   .rw[show NR g o js.length cap=_ from Ao A];exact S A
  have s:∀C,Below W.heap.size (W.setCell (Y x 12) (NR g o js.length cap)) C->∃v2,RM x v2 F {G with d:=js} C/\D8 F F w C:=λC L=>by
   have O:DF (λk=>k=x) W (W.setCell (Y x 12) (NR g o js.length cap)):=Eg _;have an:=Ek (off:=12) r.bx (NR g o js.length cap);have⟨a1,a2⟩:=r.jN (J:=NR g o js.length cap) (js:=js) (F2:=F) (λ_ q=>Aj q) (λ_ q=>q) (λk hf=>Ai (r.lt k hf) O.size) (O.mono (λ_ _ e=>Aj e)) an (T.keep O (λak _ e=>ES ak (e ▸ r.bx) Em I) (λ_ q=>q));have am:(W.setCell (Y x 12) (NR g o js.length cap)).heap.size=W.heap.size:=Ev;rw[<-am]at L;exact⟨_,a1.h L,(c.a.trans a2).trans (D8.J F L)⟩
  refine⟨g,o,cap,B.Sn,B.L,l,t,3*l+t,R.EZ G (3*l+t),G.C.getD l 0,⟨⟨ED r.bx 12 _ (by rw[<-hJ];rfl),⟨aa,ac⟩,?_,?_,?_,?_,EI r.bx 10,EI r.bx 11,Q,Kg r.J hr,Eb r.bx,I,U,U,λe=>ES r.J (e ▸ r.bx) Em I,λe=>ES r.C (e ▸ r.bx) Em I⟩,λhw C L=>?_,λhw C L=>?_⟩⟩
  .have:=f 0 _ I;rw[N]at this;exact this
  .have:=f 1 _ I;rw[P]at this;exact this
  .exact f 2 _ I
  .exact f 3 _ I
  .have⟨v2,a1,a2⟩:=s C L;have hg:R.FQ G=(0,R.Oa {G with d:=js} (3*l+t)):=by
    rw[c.eq];show (if R.Km G j then _ else _)=_;rw[Ay (p.2 hw),N,P];rfl
   rw[hg];refine cm (a1.done X ab hw.1) ?_;rintro m ⟨v3,F3,b1,b2⟩;exact⟨I,I,v3,F3,b1,a2.trans b2⟩
  .have⟨v2,a1,a2⟩:=s C L;refine⟨⟨v2,a1⟩,a2,X,?_⟩;rw[c.eq];show (if R.Km G j then _ else _)=_;rw[Ao (λq=>hw (p.1 q))]
 .rintro e m (⟨rfl,z,K⟩|⟨rfl,z,K⟩)
  .rw[z];exact⟨I,fin K⟩
  .rw[z];exact⟨I,fin K⟩
def KP(G:R.Wd)(o:LD)(v:List R.It):R.Wd:=
 if o.J=8 then (R.E4 G o.s o.a).2
 else if o.J=9 then (R.Fb G o.s).2
 else if o.J=10 then (R.FV G o.a o.s).2
 else if o.J=11 then (R.Gc G o.a o.b o.c o.d v).2
 else if o.J=13 then R.Ni G
 else if o.J=16 then (R.JM G o.a).2
 else if o.J=17 then (R.JA G o.a).2
 else if o.J=18 then (R.Jz G o.a o.b o.c).2
 else if o.J=19 then (R.Fv G o.a).2
 else if o.J=20 then (R.FQ G).2
 else if o.J=23 then (R.agy G o.a).2
 else G
structure acL(o:LD)(v:List V.It)(A:D9)(w:Aa):Prop where
 s:o.s.length<=1000000000000000
 J:V.Ff w o.L v
 len:v.length<=9000000000000
 off:v≠[]->∀b off n c,o.L=.slice (some (Y b off)) n c->¬A b
 c:Ya o.c
 on:Ya o.on
def HF(b:Nat)(Ts:List Tw)(L:List V.Kp)(lv K:Ad):D9:=λk=>V.OY b L K k\/lv.ownBlock=k\/∃t∈Ts,t.A k
def EF(w0:Aa)(z:Nat->Option Obj)(b N:Nat)(Ts:List Tw)(i:Nat)(L:List V.Kp)(lv:Ad)(G':R.Wd)(w':Aa):Prop:=∃t' L' K',Hn w0 z b N (Ts.set i t') L' lv K' w'/\t'.G=G'/\L'<=L.length+2
theorem Hn.jE(h:Hn w0 z b N Ts L lv K w)(hi:Ts[i]?=t)(j:KA N' t G' w w')(g:N<=N'):EF w0 z b N' Ts i L lv G' w':=by
 have⟨k,a,c,d,e,f⟩:=j;exact⟨k,L,K,h.step hi a c d e g,f,U⟩
theorem KA.more(h:KA N t G' w w')(a:N<=N'):KA N' t G' w w':=h.le a
theorem MR(hk:o.J=8\/o.J=9\/o.J=10)(Q:World->Prop)(H:Hid (∀a,(w.alloc (.cells #[ptr t.p.x,Ey t.x] 106)).alloc (.cells o.cells 84)=a->D7 73 #[t.val,o.val] a DC λk=>Q k)):
  D7 42 #[ptr b,t.val,o.val] w DC λk=>Q k:=by
 obtain⟨a,hW1⟩:∃a,(w.alloc (.cells #[ptr t.p.x,Ey t.x] 106)).alloc (.cells o.cells 84)=a:=DK;have H1:=Dx (H a hW1);have g:Bx w.heap.size t o a:=by
  exact kr
 have m:=Dv g.t;have n:=Dv g.o;have p:=EI g.o 0;have⟨HX,j⟩:=FU g.bl hW1;clear hW1 H g;obtain⟨h,c⟩:∃h,(o.J==8)=h:=DK;obtain⟨i,f⟩:∃i,(o.J==9)=i:=DK;obtain⟨d,e⟩:∃d,(o.J==10)=d:=DK;have l:h=true\/(h=false/\i=true)\/(h=false/\i=false/\d=true):=by
  rcases hk with hk|hk|hk
  .exact Aj (by rw[<-c,hk];rfl)
  .exact Am (Aj ⟨by rw[<-c,hk];rfl,by rw[<-f,hk];rfl⟩)
  .exact Am (Am ⟨by rw[<-c,hk];rfl,by rw[<-f,hk];rfl,by rw[<-e,hk];rfl⟩)
 clear hk;rcases l with rfl|⟨rfl,rfl⟩|⟨rfl,rfl,rfl⟩;all_goals
  delta D7
  go_in
  go_upto_region 1 with fail
  rw[Dw j]
  go_upto_region 5 with fail
  refine Dh ?_;exact aaA
theorem OE(hk:o.J=11\/o.J=12)(Q:World->Prop)(H:Hid (∀c,(w.alloc (.cells #[ptr t.p.x,Ey t.x] 106)).alloc (.cells o.cells 84)=c->D7 74 #[ptr b,t.val,o.val] c DC λg=>Q g)):
  D7 42 #[ptr b,t.val,o.val] w DC λg=>Q g:=by
 obtain⟨c,hW1⟩:∃c,(w.alloc (.cells #[ptr t.p.x,Ey t.x] 106)).alloc (.cells o.cells 84)=c:=DK;have H1:=Dx (H c hW1);have e:Bx w.heap.size t o c:=by
  exact kr
 have j:=Dv e.t;have k:=Dv e.o;have l:=EI e.o 0;have⟨HX,f⟩:=FU e.bl hW1;clear hW1 H e;have m:(o.J==8)=false:=by rcases hk with hk|hk<;>rw[hk]<;>rfl
 have n:(o.J==9)=false:=by rcases hk with hk|hk<;>rw[hk]<;>rfl
 have i:(o.J==10)=false:=by rcases hk with hk|hk<;>rw[hk]<;>rfl
 obtain⟨a,hq11⟩:∃a,(o.J==11)=a:=DK;obtain⟨d,hq12⟩:∃d,(o.J==12)=d:=DK;have h:a=true\/(a=false/\d=true):=by
  exact abL
 clear hk;rcases h with rfl|⟨rfl,rfl⟩;all_goals
  delta D7
  go_in
  go_upto_region 1 with fail
  rw[Dw f]
  go_upto_region 8 with fail
  refine Dh ?_;refine MF I (.tmp 0) I (ptr b) I ?_;exact aaA
theorem Jr(hk:14<=o.J/\o.J<=19)(Q:World->Prop)(H:Hid (∀c,(w.alloc (.cells #[ptr t.p.x,Ey t.x] 106)).alloc (.cells o.cells 84)=c->D7 79 #[t.val,o.val] c DC λf=>Q f)):
  D7 42 #[ptr b,t.val,o.val] w DC λf=>Q f:=by
 obtain⟨c,hW1⟩:∃c,(w.alloc (.cells #[ptr t.p.x,Ey t.x] 106)).alloc (.cells o.cells 84)=c:=DK;have H1:=Dx (H c hW1);have d:Bx w.heap.size t o c:=by
  exact kr
 have q:=Dv d.t;have r:=Dv d.o;have s:=EI d.o 0;have⟨HX,e⟩:=FU d.bl hW1;have a:∀n:Int,n<14\/19<n->(o.J==n)=false:=λn hn=>by simp;omega
 have u:=a 8 U;have v:=a 9 U;have g:=a 10 U;have h:=a 11 U;have i:=a 12 U;have j:=a 13 U;have k:=a 20 U;have l:=a 21 U;have m:=a 22 U;have p:=a 23 U;clear hW1 H hk a d
 delta D7
 go_in
 go_upto_region 1 with fail
 rw[Dw e]
 go_upto_region 24 with fail
 refine Dh ?_;exact aaA
theorem OG(hk:o.J=21\/o.J=22)(Q:World->Prop)(H:Hid (∀c,(w.alloc (.cells #[ptr t.p.x,Ey t.x] 106)).alloc (.cells o.cells 84)=c->D7 77 #[ptr b,t.val,o.val] c DC λg=>Q g)):
  D7 42 #[ptr b,t.val,o.val] w DC λg=>Q g:=by
 obtain⟨c,hW1⟩:∃c,(w.alloc (.cells #[ptr t.p.x,Ey t.x] 106)).alloc (.cells o.cells 84)=c:=DK;have H1:=Dx (H c hW1);have e:Bx w.heap.size t o c:=by
  exact kr
 have n:=Dv e.t;have p:=Dv e.o;have q:=EI e.o 0;have⟨HX,f⟩:=FU e.bl hW1;clear hW1 H e;have r:(o.J==8)=false:=by rcases hk with hk|hk<;>rw[hk]<;>rfl
 have s:(o.J==9)=false:=by rcases hk with hk|hk<;>rw[hk]<;>rfl
 have i:(o.J==10)=false:=by rcases hk with hk|hk<;>rw[hk]<;>rfl
 have j:(o.J==11)=false:=by rcases hk with hk|hk<;>rw[hk]<;>rfl
 have k:(o.J==12)=false:=by rcases hk with hk|hk<;>rw[hk]<;>rfl
 have l:(o.J==13)=false:=by rcases hk with hk|hk<;>rw[hk]<;>rfl
 have m:(o.J==20)=false:=by rcases hk with hk|hk<;>rw[hk]<;>rfl
 obtain⟨a,hq11⟩:∃a,(o.J==21)=a:=DK;obtain⟨d,hq12⟩:∃d,(o.J==22)=d:=DK;have h:a=true\/(a=false/\d=true):=by
  exact abL
 clear hk;rcases h with rfl|⟨rfl,rfl⟩;all_goals
  delta D7
  go_in
  go_upto_region 1 with fail
  rw[Dw f]
  go_upto_region 19 with fail
  refine Dh ?_;refine MF I (.tmp 0) I (ptr b) I ?_;exact aaA
theorem X5(h:Ii N t w)(hk:o.J=13):
  D7 42 #[ptr b,t.val,o.val] w DC λC=>KA N t (R.Ni t.G) w C:=by
 have⟨s,c,d,u,n,e⟩:=Jc h o;have m:=Dx c;have q:Hid (D7 32 #[ptr t.p.x] s Ep λj=>Mid N t (R.Ni t.G) s j):=by
  refine cm n.l.tick λj a=>?_
  have⟨D,l,g⟩:=a;exact⟨I,n.tH l g⟩
 have E:(o.J==8)=false:=by rw[hk];rfl
 have F:(o.J==9)=false:=by rw[hk];rfl
 have y:(o.J==10)=false:=by rw[hk];rfl
 have z:(o.J==11)=false:=by rw[hk];rfl
 have A:(o.J==12)=false:=by rw[hk];rfl
 have B:(o.J==13)=true:=by rw[hk];rfl
 have⟨x,k⟩:=FU u d;clear h c hk u d
 delta D7
 go_in
 go_wp2_with fail
 rw[Dw m];refine cm q λj a=>?_
 have i:=x.stays a e;have l1:=Dv i.t;have l2:=Dv i.o;have e1:=EI i.t 1;have r:Hid (D7 75 #[Ey t.x] j Ep λp=>KA N t (R.Ni t.G) w p):=by
  refine cm a.r.tick λp f=>?_
  exact⟨I,KA.ahead k (a.done f (Bd.tick a.a.bd))⟩
 clear a i q n;go_wp2_with fail
 refine cm r λp f=>?_
 have v:=Dx f;clear f e1 r;go_wp2;go_returns;exact⟨I,v⟩
theorem Vw(h:Ii N t w)(hk:o.J=20)(s:JI w)(l:¬t.F 0):
  D7 42 #[ptr b,t.val,o.val] w DC λA=>KA N t (R.FQ t.G).2 w A:=by
 have⟨n,d,c,q,f,e⟩:=Jc h o;have k:=Dx d;have⟨M,p⟩:=f.bd.iv;have m:Hid (D7 30 #[ptr t.p.x] n (Z (R.FQ t.G).1) λi=>Mid N t (R.FQ t.G).2 n i):=by
  refine cm (f.l.adD (s.h c) l p) λi a=>?_
  exact⟨I,f.mid a⟩
 have B:(o.J==8)=false:=by rw[hk];rfl
 have C:(o.J==9)=false:=by rw[hk];rfl
 have u:(o.J==10)=false:=by rw[hk];rfl
 have v:(o.J==11)=false:=by rw[hk];rfl
 have x:(o.J==12)=false:=by rw[hk];rfl
 have y:(o.J==13)=false:=by rw[hk];rfl
 have z:(o.J==20)=true:=by rw[hk];rfl
 have⟨r,j⟩:=FU q c;clear h d hk q c
 delta D7
 go_in
 go_wp2_with fail
 rw[Dw k];refine cm m λi a=>?_
 have g:=r.stays a e;have l1:=Dv g.t;have l2:=Dv g.o;have e1:=EI g.t 1;have H2:Hid (D7 76 #[Ey t.x] i (Z (R.FQ t.G).1) λw3=>KA N t (R.FQ t.G).2 w w3):=by
  refine cm (a.r.serve p) λw3 h3=>?_
  exact⟨I,KA.ahead j (a.done h3 (Bd.serve a.a.bd))⟩
 clear a g m f;exact yd
theorem aaa(w:Aa)(c:R.Cf)(h:¬R.GA c):D7 65 #[fI c] w (.tuple #[.pointer none,Z 8]) (DY w):=by
 have⟨a,b,r,t,d⟩:=c;unfold R.GA at h;simp only at h;by_cases e:a<1;rotate_left;by_cases f:3<a;rotate_left;by_cases g:b<1;rotate_left;by_cases i:3<b;rotate_left;by_cases j:r<1;rotate_left;by_cases k:8<r;rotate_left;by_cases l:t<1;rotate_left;by_cases m:6<t;rotate_left;by_cases n:d<1;rotate_left;have o:9<d:=U;all_goals
  clear h
  delta D7
  go_in
  go_wp2;go_returns;exact⟨I,F9⟩
structure pW(w0:Aa)(x:Nat)(c:R.Cf)(n m:Nat)(C:Ad)(zc:List (R.Cl×CE))(wr:Aa):Prop where
 h:Below w0.heap.size w0 wr
 lo:w0.heap.size<=x
 bx:wr.heap[x]?=some (.cells [Z c.b,Z c.a,Z c.c,Z c.e,Z c.d,.slice none 0 0,.slice none 0 0,.slice none 0 0,.slice none 0 0,C,.slice none 0 0,.slice none 0 0,.slice none 0 0].toArray 186 (0,0))
 len:zc.length=m
 cl:wr.ownsRow w0.heap.size 189 3 C m (tab bD zc)
 each:∀(i:Nat) (z:R.Cl×CE),zc[i]?=some z->z.1=⟨1,[],List.replicate n R.Vm⟩/\z.2.bv=.slice none 0 0/\w0.heap.size<=z.2.lb/\wr.heap[z.2.lb]?=some (.cells (tab Ui (DV n)).toArray 222 (0,0))
 inj:∀(i j:Nat) (z y:R.Cl×CE),zc[i]?=some z->zc[j]?=some y->i≠j->z.2.lb≠y.2.lb
theorem pW.push{lb:Nat}(h:pW w0 x c n m C zc wr)(F:wr<=lb)(f:DY wr w2)(l:w2.heap[lb]?=some (.cells (tab Ui (DV n)).toArray 222 (0,0)))(d:DY w2 W)(r:W.grownBy wz C.ownBlock)(u:wz.ownsRow w0 189 3 K (m+1) (tab bD zc++[Z 1,.slice none 0 0,EJ lb n n])):wz.heap[x]?=wr.heap[x]?/\pW w0 x c n (m+1) K (zc++[(⟨1,[],List.replicate n R.Vm⟩,⟨.slice none 0 0,lb⟩)]) (wz.setCell (Y x 9) K):=by
 have B:=f.size;have D:=d.size;have hC:∀j,C.ownBlock=some j->w0.heap.size<=j:=λj s=>GL h.cl s
 have keep:∀{b:Nat} {o:Obj},wr.heap[b]?=some o->C.ownBlock≠some b->wz.heap[b]?=some o:=λ{b o} p hne=>by
  have hl:=(AB.1 p).1;rw[r.block b U (λe=>hne e.symm),d.block b U,f.block b hl];exact p
 have Ub:wz.heap[lb]?=some (.cells (tab Ui (DV n)).toArray 222 (0,0)):=by
  have hl:=(AB.1 l).1;rw[r.block lb U (λe=>?_),d.block lb hl]
  .exact l
  .have⟨w,hc⟩:=J3 h.cl e.symm;all_goals grind
 have g:=keep h.bx (Fg h.cl h.bx Em);have q:=below_grown (((h.h.trans (f.mono h.h.size))).trans (d.mono (by have:=h.h.size;omega))) r hC;have a:DF (λk=>k=x) wz (wz.setCell (Y x 9) K):=by grind [DF.setCell,DF.refl]
 have nx:∀{b:Nat} {G:Array Value} {t:Ag},wz.heap[b]?=some (.cells G t (0,0))->t≠186->¬b=x:=λp A e=>by
  subst e;exact ES p g A I
 refine⟨g.trans h.bx.symm,⟨q.setCell h.lo K,h.lo,Ek g K,by simp[h.len],?_,λi z hz=>?_,λi j z y hz H E=>?_⟩⟩
 .rw[Jn];refine a.row ?_ (λj s=>?_);all_goals grind [bD,J3]
 .rw[List.getElem?_append]at hz;split at hz
  .have⟨e1,e2,e3,e4⟩:=h.each i z hz;have v:=keep e4 (Fg h.cl e4 Em);exact⟨e1,e2,e3,a.at v (nx v Em)⟩
  .rw[List.getElem?_singleton]at hz;split at hz
   .cases hz;exact⟨I,I,by have:=h.h.size;simp only;omega,a.at Ub (nx Ub Em)⟩
   .cases hz
 all_goals grind [pW]
theorem adv:∀args w,(callFunc 106 args).run prog w=.ok (.enter 106 args) w:=λ_ _=>rfl
theorem ac5:(prog.info? 189).map (λi=>(i.zero,i.size,i.bytes))=some (some (.agg #[Z 0,Dz,Dz]),3,56):=EL
theorem nY{t:Int}(hc:R.GA ⟨N,n,r,t,tb⟩):ET 65 #[fI ⟨N,n,r,t,tb⟩] w λe w'=>∃x C zc L Sn wr,e=.returned (.tuple #[Ey x,Z 0])/\pW (w.alloc (.cells #[Z N,Z n,Z r,Z t,Z tb] 23)) x ⟨N,n,r,t,tb⟩ n N C zc wr/\wr.heap.size<=L/\wr.heap.size<=Sn/\L≠Sn/\Dy w' L (GK [0,0,0]).toArray 3/\Dy w' Sn (tab Rk (List.replicate 9 R.Ic)).toArray 227/\Dy w' x #[Z N,Z n,Z r,Z t,Z tb,Dz,Dz,Dz,Dz,C,EJ L 3 3,EJ Sn 9 9,Dz] 186/\DF (λk=>k=x) wr w':=by
 have D:=hc;unfold R.GA at D;simp only at D;obtain⟨h1,h2,h3,h4,h5,h6,h7,h8,h9,aV,b2,am⟩:¬(N:Int)<1/\¬3<(N:Int)/\¬(n:Int)<1/\¬3<(n:Int)/\¬r<1/\¬8<r/\¬t<1/\¬6<t/\¬tb<1/\¬9<tb/\N<=3/\1<=n/\n<=3:=U;have ab:=Dx (λw=>ZK w 1 n am);have⟨i0,hi,ao,aq,ar⟩:=A1 ac5;obtain⟨d,g⟩:∃d,w.alloc (.cells #[Z N,Z n,Z r,Z t,Z tb] 23)=d:=DK;have a:Dy d w.heap.size #[Z N,Z n,Z r,Z t,Z tb] 23:=by
  rw[<-g];exact AF w _
 have ak:d.heap.size=w.heap.size+1:=by rw[<-g];simp
 obtain⟨T,B⟩:∃T,d.alloc (.cells #[Z N,Z n,Z r,Z t,Z tb,Dz,Dz,Dz,Dz,Dz,Dz,Dz,Dz] 186)=T:=DK;have l:pW d d.heap.size ⟨(N:Int),(n:Int),r,t,tb⟩ n 0 Dz [] T:=by
  rw[<-B];exact⟨F9,Ar _,AF _ _,I,AZ _ _ _ _,λi z hz=>by simp at hz,λi j z y hz=>by simp at hz⟩
 have v:=Dx l;have J:Hid (∀(x m:Nat) (C:Ad) (zc:List (R.Cl×CE)) (wr:Aa),pW d x ⟨(N:Int),(n:Int),r,t,tb⟩ n m C zc wr->Kk wr w 0 (Z N)/\Kk wr w 1 (Z n)):=λx m C zc wr h=>by
  have hl:=Dv a;exact⟨(h.h.cell (p:=EN w 0) hl).trans (EI a 0),(h.h.cell (p:=EN w 1) hl).trans (EI a 1)⟩
 have A:Hid (∀{x m:Nat} {C K:Ad} {zc:List (R.Cl×CE)} {wr s W G:Aa} {lb:Nat},pW d x ⟨(N:Int),(n:Int),r,t,tb⟩ n m C zc wr->wr.heap.size<=lb->DY wr s->Dy s lb (tab Ui (DV n)).toArray 222->DY s W->W.grownBy G C.ownBlock->G.ownsRow d.heap.size 189 3 K (m+1) (tab bD zc++[Z 1,Dz,EJ lb n n])->G.heap[x]?=wr.heap[x]?/\pW d x ⟨(N:Int),(n:Int),r,t,tb⟩ n (m+1) K (zc++[(⟨1,[],List.replicate n R.Vm⟩,⟨Dz,lb⟩)]) (G.setCell (Y x 9) K)):=λh1 h2 h3 h4 h5 h6 h7=>h1.push h2 h3 h4 h5 h6 h7
 have⟨d0,d1⟩:=J _ _ _ _ _ l;obtain⟨X,hX⟩:∃X,d.heap.size=X:=DK;rw[hX]at v l;have b4:w.heap.size+1=X:=U;have⟨aa,ah⟩:=FU g B;have b7:=Dv l.bx;have b6:w.heap.size<T.heap.size:=U;rw[g];clear hc D g a ak B l
 delta ET
 go_in
 go_wp2_with fail
 rw[Dw aa,Dw ah];go_loopw [5] (λiv wr=>∃(m:Nat) (C:Ad) (zc:List (R.Cl×CE)),m<=N/\iv=Z m/\pW d X ⟨(N:Int),(n:Int),r,t,tb⟩ n m C zc wr) (λiv _=>N-(intOf iv).toNat)
 case atStart=>exact⟨0,_,_,AV _,I,v⟩
 case round=>
  obtain⟨m,C,zc,hm,rfl,b⟩:=hrel;have⟨b0,b1⟩:=J _ _ _ _ _ b;have a:=b.bx;have⟨ka,kc,O⟩:=Fa b.cl;by_cases b9:m<N
  .subst O;have a9:=EI a 9;have f9:=Hf a 9;have F:=Dv a;have ba:=Gv b0;have b5:=b.h.size;have f:=Dx b;clear b a d0 d1;go_wp2;go_region_law (first
    |(refine FG rfl 106 #[.const (Z 1),.tmp 69] #[3,3] rfl adv #[Z 1,Z n] rfl _ (ab _) ?_;rintro e s ⟨lb,rfl,Q,P,u⟩;have o:=Mg u;have s2:=o.size;have e9:EB s X 9 (.slice ka m kc):=(o.cell (p:=Y X 9) F).trans a9;have aS:DJ s X 9:=(o.frozen (p:=Y X 9) F).trans f9;have H:=Dx o;have ac:=Dx P;have ad:=Dx (show wr.heap.size<=lb from Q);have aN:X<s.heap.size:=Ai F s2;clear o u P Q;refine⟨_,rfl,?_⟩)
    |(refine FM rfl (.tmp 67) (.tmp 71) 182 rfl d.heap.size 189 i0 (.agg #[Z 0,Dz,Dz]) 3 56 underlying182 hi ao aq ar rfl Em (.slice ka m kc) m (tab bD zc) rfl (by exact(ER f.cl H).alloc _) (EN s 0) 1 1 [Z 1,Dz,EJ lb n n] rfl rfl (by exact LH s 189 [Z 1,Dz,EJ lb n n]) Vd JG U (by simp;have:=f.h.size;omega) ?_;intro v' G c q al;have⟨va,vn,vc,an⟩:=Ei c;subst an;have⟨E,S⟩:=A f ad H ac ((AA _ _).alloc (Ar _) (.cells #[Z 1,Dz,EJ lb n n] 189)) q c;have gn:EB G X 9 (.slice ka m kc):=(AR E).trans a9;have gz:DJ G X 9:=(A8 E).trans f9;have ae:=Dx S;clear c q al E S))
   all_goals
    clear f A;go_wp2;go_roundw
    case rel=>exact⟨m+1,_,_,U,Kc,ae⟩
    case measure=>exact Kt
  .obtain rfl:m=N:=U;have⟨M,f⟩:=FU (fE wr X _ _ _ _ _ _ _ _ _ _ a) b;clear b a O d0 d1 A v;go_wp2_with fail
   refine cm M ?_;rintro w3 ⟨L,Sn,g1,g2,g3,g4,g5,g6,g7⟩;have HF:=Dx (And.intro g1 (And.intro g2 (And.intro g3 (And.intro g4 (And.intro g5 (And.intro g6 g7))))));clear M g1 g2 g3 g4 g5 g6 g7;go_wp2_with fail
   go_returns;exact⟨X,C,zc,L,Sn,wr,I,f,HF⟩
def L9(c:R.Cf):R.Wd:=⟨c,[],[],[],[],List.replicate c.b.toNat (R.RF 1 c.a),[0,0,0],List.replicate 9 R.Ic,[]⟩
theorem vf(h:R.GA c):R.Wf (L9 c):=by
 have a:=h;unfold R.GA at a;refine⟨h,by simp only[L9,BN];omega,λi cl hc=>?_,by simp[L9],by simp[L9],by simp[L9],by simp[L9],by simp[L9],I,by simp[L9],by simp[L9]⟩;simp only[L9,Be]at hc;split at hc
 .cases hc;refine⟨by simp only[R.RF,BN,L9];omega,by simp[R.RF],by simp[R.RF],λk l hl=>?_⟩;simp only[R.RF,Be]at hl;split at hl
  .cases hl;exact⟨Em,λq=>absurd q Em⟩
  .cases hl
 .cases hc
theorem aab{L:Nat}(hc:R.GA c)(h:pW w0 x c c.a.toNat c.b.toNat C zc wr)(g1:wr<=L)(g2:wr<=Sn)(g4:Dy w' L (GK [0,0,0]).toArray 3)(g5:Dy w' Sn (tab Rk (List.replicate 9 R.Ic)).toArray 227)(g6:Dy w' x #[Z c.b,Z c.a,Z c.c,Z c.e,Z c.d,Dz,Dz,Dz,Dz,C,EJ L 3 3,EJ Sn 9 9,Dz] 186)(g7:DF (λk=>k=x) wr w'):∃v F,RW x v F (L9 c) w'/\(∀k,F k->w0<=k)/\DY w0 w':=by
 have f:=h.h.size;have r:=(AB.1 h.bx).1;have nx:∀{b:Nat} {s:Array Value} {t:Ag},Dy wr b s t->t≠186->¬b=x:=λp o e=>by
  subst e;exact ES p h.bx o I
 have a:w'.ownsRow 0 189 3 C zc.length (tab bD zc):=by
  rw[h.len];exact UD (g7.row h.cl (λj d=>by
   have⟨n,g⟩:=J3 h.cl d;exact nx g Em))
 refine⟨⟨Dz,Dz,Dz,Dz,C,L,Sn,Dz,[],zc⟩,λk=>k=x\/k=L\/k=Sn\/C.ownBlock=some k\/∃(i:Nat) (z:R.Cl×CE),zc[i]?=some z/\z.2.lb=k,RM.whole ⟨g6,AZ _ _ _ _,AZ _ _ _ _,I,AZ _ _ _ _,⟨λz hz=>(by cases hz),λi j z y hz=>(by simp at hz),Aj ⟨I,I⟩⟩,AZ _ _ _ _,?_,a,λi z hz=>?_,λi z hz=>?_,g4,g5,⟨Aj I,Am (Aj I),Am (Am (Aj I))⟩,λj d=>?_,λi z hz=>⟨Am (Am (Am (Am ⟨i,z,hz,I⟩))),λj d=>?_⟩,Gn,λi j z y hz m l=>⟨h.inj i j z y hz m l,λk hk=>?_⟩,λk hk=>?_⟩ (vf hc) (R.Gw hc),λk hk=>?_,h.h.trans (g7.h f (λk e=>by rw[e];exact h.lo))⟩
 .apply BF;intro i;rw[BP];simp only[L9,Be];by_cases hi:i<c.b.toNat
  .obtain⟨z,hz⟩:∃z,zc[i]?=some z:=⟨_,Ah (by rw[h.len];exact hi)⟩;rw[hz,Ay hi,Ce,(h.each i z hz).1];rfl
  .rw[Ao hi,BM (by rw[h.len];omega)];rfl
 .have⟨e1,e2,_⟩:=h.each i z hz;rw[e2,e1];exact AZ _ _ _ _
 .have⟨e1,_,_,e4⟩:=h.each i z hz;refine⟨DV c.a.toNat,?_,g7.at e4 (nx e4 Em),λy m=>?_⟩
  .rw[e1];simp[DV]
  .rw[(C3.1 m).2];exact Rs.nil _ _ I
 .grind [Value.ownBlock]
 .rw[(h.each i z hz).2.1]at d;simp[Value.ownBlock]at d
 .rw[(h.each i z hz).2.1]at hk;simp[Value.ownBlock]at hk
 .have u:=g7.size;rcases hk with rfl|rfl|rfl|q|⟨i,z,hz,rfl⟩
  .omega
  .grind
  .grind
  .grind [J3]
  .have:=(AB.1 (h.each i z hz).2.2.2).1;omega
 .rcases hk with rfl|rfl|rfl|q|⟨i,z,hz,rfl⟩
  .exact h.lo
  .omega
  .omega
  .exact GL h.cl q
  .exact(h.each i z hz).2.2.1
theorem vg(w:Aa)(c:R.Cf)(hc:R.GA c):ET 65 #[fI c] w λe h=>∃x v F,e=.returned (.tuple #[Ey x,Z 0])/\RW x v F (L9 c) h/\(∀k,F k->w<=k)/\DY w h:=by
 have f:=hc;unfold R.GA at f;have⟨a,b,r,t,d⟩:=c;simp only at f;obtain⟨N,rfl⟩:∃N:Nat,a=(N:Int):=⟨a.toNat,U⟩;obtain⟨n,rfl⟩:∃n:Nat,b=(n:Int):=⟨b.toNat,U⟩;refine(nY hc).mono ?_;rintro e h ⟨x,C,zc,L,Sn,wr,rfl,o,g1,g2,g3,g4,g5,g6,g7⟩;have g:pW (w.alloc (.cells #[Z N,Z n,Z r,Z t,Z d] 23)) x ⟨(N:Int),(n:Int),r,t,d⟩ (⟨(N:Int),(n:Int),r,t,d⟩:R.Cf).a.toNat (⟨(N:Int),(n:Int),r,t,d⟩:R.Cf).b.toNat C zc wr:=by grind
 have⟨v,F,j,l,m⟩:=aab hc g g1 g2 g4 g5 g6 g7;have p:(w.alloc (.cells #[Z N,Z n,Z r,Z t,Z d] 23)).heap.size=w.heap.size+1:=Ev;have i:DY w (w.alloc (.cells #[Z N,Z n,Z r,Z t,Z d] 23)):=F9;exact⟨x,v,F,I,j,λk hk=>by have:=l k hk;omega,i.trans (m.mono U)⟩
abbrev agS(z:R.Sv×Value):R.Sv×Value:=({z.1 with T:=false},z.2)
theorem RM.ahR(h:RM x v F G w){z:R.Sv×Value}(hz:v.zs[u]?=z):∃g cap o,v.V=EJ g v.zs cap/\EB w g (u*3+1) (.bool z.1.T)/\DJ w g (u*3+1)/\RM x {v with zs:=v.zs.set u (agS z)} o {G with a:=(v.zs.set u (agS z)).map (·.1)} (w.setCell (Y g (u*3+1)) DI)/\D8 F o w (w.setCell (Y g (u*3+1)) DI):=by
 have T:=GG hz;have⟨g,cap,p,Q,d,B⟩:=Jx MD U h.a hz;have c:=h.a;rw[p]at c;have hk:DF (λk=>k=g) w (w.setCell (Y g (u*3+1)) DI):=Eg _;have⟨M,C⟩:=J3 c I;have N:∀{b:Nat} {ys:Array Value} {t:Ag},Dy w b ys t->t≠234->¬b=g:=λA O e=>by
  subst e;exact ES A C O I
 have n:=Qr MD c (y':=agS z) hz (j:=1) U (u:=DI) I;have m:=h.c.keep hk (λA q=>N A (by rcases q with rfl|rfl|rfl<;>decide)) (λ_ q=>q);have E:QH (w.setCell (Y g (u*3+1)) DI) F (v.zs.set u (agS z)) v.J G.d:=by
  have f:∀(i:Nat) (y:R.Sv×Value),(v.zs.set u (agS z))[i]?=some y->∃l,v.zs[i]?=some l/\y.2=l.2/\y.1.log=l.1.log:=λi y r=>by
   grind
  refine⟨λy r=>?_,λi j y y' r H D=>?_,m.d⟩
  .have⟨i,hi⟩:=Bp.1 r;have⟨l,J,L,W⟩:=f i y hi;rw[L,W];exact m.c l (Ap J)
  .have⟨l,J,L,_⟩:=f i y r;have⟨y1,X,r2,_⟩:=f j y' H;rw[L,r2];exact h.c.apart i j l y1 J X D
 have⟨o,P,s⟩:=h.kj (K:=v.V) (zs:=v.zs.set u (agS z)) (hk.mono (λk _ e=>Am (by rw[p,e];rfl))) (hk.at h.bx (N h.bx Em)) (by rw[p,BG];exact n) (F2:=F) (λk q=>Aj q) (λ_ q=>q) (λk q=>Ai (h.lt k q) hk.size) E (λj S=>Aj S);exact⟨g,cap,o,p,d 1 _ U I,B _,P,s⟩
def agE(zs:List (R.Sv×Value))(i:Nat):List (R.Sv×Value):=(zs.take i).map agS++zs.drop i
theorem ahq{zs:List (R.Sv×Value)}{z:R.Sv×Value}(h:zs[i]?=z):(agE zs i)[i]?=z/\(agE zs i).set i (agS z)=agE zs (i+1):=by
 have hi:=GG h;refine⟨by simp[agE];grind,BF λj=>?_⟩;simp only[agE,Bf,List.getElem?_append,BP,BI,Cn,AX,Bv,AJ,A9]
 grind
theorem agY(zs:List (R.Sv×Value))(i:Nat):(agE zs i)=zs.length:=by
 simp[agE];omega
theorem ahs(w:Aa)(x:Nat)(j l m n o s t u r q D E C:Ad)(a:w.heap[x]?=some (.cells #[j,l,m,n,o,s,t,u,r,q,D,E,C] 186 (0,0))):D7 107 #[Ey x] w Ep λc=>∃L Sn,w.heap.size<=L/\w.heap.size<=Sn/\L≠Sn/\c.heap[L]?=some (.cells (GK [0,0,0]).toArray 3 (0,0))/\c.heap[Sn]?=some (.cells (tab Rk (List.replicate 9 R.Ic)).toArray 227 (0,0))/\c.heap[x]?=some (.cells #[j,l,m,n,o,s,t,u,r,q,EJ L 3 3,EJ Sn 9 9,.slice none 0 0] 186 (0,0))/\DF (λk=>k=x) w c:=by
 have f:=Z1;have g:=gw;obtain⟨h,d⟩:∃h,(GK [0,0,0]).toArray=h:=DK;obtain⟨i,e⟩:∃i,(tab Rk (List.replicate 9 R.Ic)).toArray=i:=DK;rw[d]at f ⊢;rw[e]at g ⊢;obtain⟨z,A,B⟩:=TH a 10 11 12;have F:=Hf a 10;have G:=Hf a 11;have H:=Hf a 12;have hl:=Dv a;have v:=Dx a
 delta D7
 go_in
 go_wp2;go_returns;have b:∀(u1 u2 u3:Ad),(((w.setCell (Y x 10) u1).setCell (Y x 11) u2).setCell (Y x 12) u3).heap.size=w.heap.size:=λu1 u2 u3=>aM
 have y:=Ek (off:=12) (Ek (off:=11) (Ek (off:=10) v (EJ w.heap.size 3 3)) (.slice (some (DG w 0)) 9 9)) (.slice none 0 0);refine⟨I,w.heap.size,w.heap.size+1,Ar _,U,U,?_,?_,?_,?_⟩
 .rw[AL _ _ _ (by simp[b])];exact Rb _ _ (b _ _ _)
 .exact Rb _ _ (by simp[b])
 .rw[AL _ _ _ (by simp[b];omega),AL _ _ _ (by rw[b];exact hl)];exact y
 .exact(((((DF.refl (λk=>k=x) w).setCell (p:=Y x 10) (Aj I) _).setCell (p:=Y x 11) (Aj I) _).setCell (p:=Y x 12) (Aj I) _).alloc _).alloc _
theorem RM.ahS(h:RM x v F G w){L:Nat}(T:w<=L)(W:w<=Sn)(g4:Dy w' L (GK [0,0,0]).toArray 3)(g5:Dy w' Sn (tab Rk (List.replicate 9 R.Ic)).toArray 227)(hk:DF (λk=>k=x) w w')(D:Dy w' x (Iv G.c {v with L:=L,Sn:=Sn,J:=.slice none 0 0}) 186):∃F',RM x {v with L:=L,Sn:=Sn,J:=.slice none 0 0} F' {G with C:=[0,0,0],J:=List.replicate 9 R.Ic,d:=[]} w'/\D8 F F' w w':=by
 have⟨p,Q,S⟩:=h.A;have o:∀{b:Nat} {O:Array Value} {t:Ag},Dy w b O t->t≠186->¬b=x:=λf m e=>by
  subst e;exact ES f h.bx m I
 have c:∀{n size:Nat} {e:Ag} {M:Ad} {N:Ae},w.ownsRow 0 e size M n N->e≠186->∀j,M.ownBlock=some j->¬j=x:=λX m j a=>by
  grind [J3]
 have g:=h.c.keep (F':=λk=>F k\/k=L\/k=Sn) hk (λf q=>o f (by rcases q with rfl|rfl|rfl<;>decide)) (λ_ q=>Aj q);have H:=Dv g4;have K:=Dv g5;have l:=h.lt;have B:=h.b;refine⟨λk=>F k\/k=L\/k=Sn,⟨D,hk.row h.e (c h.e Em),hk.row h.f (c h.f Em),h.zs,hk.row h.a (c h.a Em),⟨g.c,g.apart,Aj ⟨I,I⟩⟩,hk.row h.X (c h.X Em),h.zc,hk.row h.cl (c h.cl Em),λi z hz=>hk.row (h.d i z hz) (c (h.d i z hz) Em),λi z hz=>?_,g4,g5,⟨Aj p,Am (Aj I),Am (Am I)⟩,λj a=>Aj (h.rows j a),λi z hz=>⟨Aj (h.b i z hz).1,λj a=>⟨Aj ((h.b i z hz).2 j a).1,λe=>?_,((h.b i z hz).2 j a).2.2⟩⟩,λe=>?_,h.inj,λk A=>?_⟩,⟨hk.mono λk _ e=>?_,λk A=>?_⟩⟩
 .have⟨P,m,r,u⟩:=h.ln i z hz;exact⟨P,m,hk.at r (o r Em),λy E=>(u y E).keep hk (λb s _ f=>o f Em) (λ_ q=>Aj q)⟩
 .have:=l j ((h.b i z hz).2 j a).1;subst e;omega
 .have:=l _ (h.rows L (Am (Aj e)));omega
 .have:=hk.size
  grind
 .exact e ▸ p
 .grind
theorem ahD(h:R.Inv M G)a:R.Wf (R.agy G a).2/\R.MX (R.agy G a).2.c (R.agy G a).2.C (R.agy G a).2.J (R.agy G a).2.d:=⟨(h.agG a).wf,(h.agG a).ws⟩
def KI(x:Nat)(v:RV)(F:D9)(G:R.Wd)(w:Aa)(i:Nat)(wr:Aa):Prop:=∃F',RM x {v with zs:=agE v.zs i} F' {G with a:=(agE v.zs i).map (·.1)} wr/\D8 F F' w wr
theorem RM.ahp(h:RM x v F G w)(hn:G.a.length<=255):D7 78 #[Ey x,Z (-1)] w (Z 0) λk=>∃t j,RM x t j (R.agy G (-1)).2 k/\D8 F j w k:=by
 obtain⟨n,l⟩:∃n,v.zs.length=n:=DK;have N:n<=255:=by rw[<-l,<-AX (f:=(·.1)),h.zs];exact hn
 have B:Hid (KI x v F G w 0 w):=⟨F,by simpa [agE,h.zs] using h,D8.refl _ _⟩;have K:Hid (∀i wr,i<n->KI x v F G w i wr->∃g cap b0,EB wr x 7 (EJ g n cap)/\EB wr g (i*3+1) (.bool b0)/\DJ wr g (i*3+1)/\KI x v F G w (i+1) (wr.setCell (Y g (i*3+1)) DI)):=by
  rintro i wr hi ⟨j,b,r⟩;obtain⟨z,hz⟩:∃z,v.zs[i]?=some z:=⟨_,Ah U⟩;have⟨O,k2⟩:=ahq hz;have⟨g,cap,m,y,S,T,A,W⟩:=b.ahR O;simp only[agY,k2]at y A;exact⟨g,cap,_,ED b.bx 7 _ (by rw[<-l,<-y];rfl),S,T,m,A,r.trans W⟩
 have H:Hid (∀i wr,KI x v F G w i wr->∃a c,EB wr x 7 (.slice a n c)/\x<wr.heap.size):=by
  rintro i wr ⟨j,b,_⟩;have u:=b.a;simp only[agY,l]at u;have⟨a,c,e⟩:=Fa u;exact⟨a,c,ED b.bx 7 _ (by rw[<-e];rfl),Dv b.bx⟩
 have E:Hid (∀wr,KI x v F G w n wr->D7 107 #[Ey x] wr Ep λk=>∃t j,RM x t j (R.agy G (-1)).2 k/\D8 F j w k):=by
  rintro wr ⟨j,b,r⟩;refine cm (ahs _ x _ _ _ _ _ _ _ _ _ _ _ _ _ b.bx) ?_;rintro k ⟨L,Sn,g1,g2,_,g4,g5,g6,g7⟩;have⟨m,P,Q⟩:=b.ahS g1 g2 g4 g5 g7 g6;have e:(R.agy G (-1)).2={G with a:=(agE v.zs n).map (·.1),C:=[0,0,0],J:=List.replicate 9 R.Ic,d:=[]}:=by
   simp[R.agy,agE,<-l,<-h.zs]
  exact⟨I,_,m,e ▸ P,r.trans Q⟩
 delta D7
 go_in
 go_wp2;go_loopw [5] (λiv wr=>∃i:Nat,i<=n/\iv=Z i/\KI x v F G w i wr) (λiv _=>n-(intOf iv).toNat)
 case atStart=>exact⟨0,U,I,B⟩
 case round=>
  obtain⟨i,hi,rfl,p⟩:=hrel;by_cases s:i<n
  .have X:0<=(i:Int):=U;have p1:(i:Int)<n:=U;have⟨g,cap,b0,x7,c1,z1,q⟩:=K i wr s p;have⟨l1,l2⟩:=KM x7 c1;have o:=Dx q;go_wp2;go_roundw
   case rel=>exact⟨i+1,U,Kc,o⟩
   case measure=>exact Kt
  .obtain rfl:i=n:=U;have⟨a,c,x7,l1⟩:=H _ _ p;have o:=Dx (E _ p);go_wp2_with fail
   refine cm o λw2 M=>?_
   have D:=Dx M;go_wp2;go_returns;exact⟨I,D⟩
theorem RM.ahU(h:RM x v F G w){z:R.Cl×CE}(hz:v.zc[i]?=z){lb:Nat}(hC:v.C=EJ g v.zc cap)(hn:n=G.c.a)(ah:w<=lb)(hl:Dy w2 lb (tab Ui (DV n)).toArray 222)(s:DY w w2):∃v' F',RM x v' F' {G with b:=G.b.set i (R.RF life G.c.a)} (((w2.setCell (Y g (i*3)) (Z life)).setCell (Y g (i*3+1)) Dz).setCell (Y g (i*3+2)) (EJ lb n n))/\D8 F F' w (((w2.setCell (Y g (i*3)) (Z life)).setCell (Y g (i*3+1)) Dz).setCell (Y g (i*3+2)) (EJ lb n n)):=by
 obtain⟨J,A⟩:∃J,(((w2.setCell (Y g (i*3)) (Z life)).setCell (Y g (i*3+1)) Dz).setCell (Y g (i*3+2)) (EJ lb n n))=J:=DK;rw[A];have f:=h.h s;have r:=f.cl;rw[hC]at r;have d:DF (λk=>k=g) w2 J:=by
  rw[<-A];exact(((DF.refl (λk=>k=g) w2).setCell (p:=Y g _) (Aj I) _).setCell (p:=Y g _) (Aj I) _).setCell (p:=Y g _) (Aj I) _
 have E:J.ownsRow 0 189 3 (EJ g v.zc.length cap) v.zc.length (tab bD (v.zc.set i (R.RF life G.c.a,⟨Dz,lb⟩))):=by
  have r1:=Qr P5 r (y':=({z.1 with b:=life},z.2)) hz (j:=0) U (u:=Z life) I;have e1:(v.zc.set i ({z.1 with b:=life},z.2))[i]?=some ({z.1 with b:=life},z.2):=by rw[Bf];simp[GG hz]
  have r2:=Qr P5 r1 (y':=({z.1 with b:=life},{z.2 with bv:=.slice none 0 0})) e1 (j:=1) U (u:=Dz) I;rw[A5]at r2;have e2:(v.zc.set i ({z.1 with b:=life},{z.2 with bv:=.slice none 0 0}))[i]?=some ({z.1 with b:=life},{z.2 with bv:=.slice none 0 0}):=by rw[Bf];simp[GG hz]
  have r3:=Qr P5 r2 (y':=(R.RF life G.c.a,⟨Dz,lb⟩)) e2 (j:=2) U (u:=EJ lb n n) (by simp[bD,R.RF,<-hn]);rw[A5]at r3;rw[<-A];exact r3
 have l:∀{b:Nat} {ys:Array Value} {t:Ag},Dy w2 b ys t->t≠189->¬b=g:=λL K e=>by
  have⟨T,O⟩:=J3 r I;subst e;exact ES L O K I
 have H:∀{n size:Nat} {e:Ag} {M:Ad} {xs:Ae},w2.ownsRow 0 e size M n xs->e≠189->∀j,M.ownBlock=some j->¬j=g:=λhr K j B=>by
  have⟨c,hc⟩:=J3 hr B;exact l hc K
 have⟨f1,f2,f3⟩:=h.A;have N:F g:=h.rows g (Am (Am (Am (Am (by rw[hC];rfl)))));have ak:=Dv hl;have am:=d.size;have ae:=s.size;have o:∀(j:Nat) (y:R.Cl×CE),(v.zc.set i (R.RF life G.c.a,⟨Dz,lb⟩))[j]?=some y->(j=i/\y=(R.RF life G.c.a,⟨Dz,lb⟩))\/(j≠i/\v.zc[j]?=some y):=λj y m=>by grind
 have C:=h.lt;have P:=f.c.keep (F':=λk=>F k\/k=lb) d (λs q=>l s (by rcases q with rfl|rfl|rfl<;>decide)) (λ_ q=>Aj q);refine⟨{v with zc:=v.zc.set i (R.RF life G.c.a,⟨Dz,lb⟩)},λk=>F k\/k=lb,⟨d.at f.bx (l f.bx Em),d.row f.e (H f.e Em),d.row f.f (H f.f Em),h.zs,d.row f.a (H f.a Em),P,d.row f.X (H f.X Em),?_,by rw[BG,hC];exact E,λj y m=>?_,λj y m=>?_,d.at f.C (l f.C Em),d.at f.J (l f.J Em),⟨Aj f1,Aj f2,Aj f3⟩,λj B=>Aj (h.rows j B),λj y m=>?_,h.sL,λj S y y' m Q D=>?_,λk hf=>?_⟩,⟨(DF.J s F).andThen d λk _ e=>e ▸ N,λk hf=>?_⟩⟩
 .rw[C4,h.zc]
 .rcases o j y m with ⟨_,rfl⟩|⟨_,q⟩
  .exact AZ _ _ _ _
  .exact d.row (f.d j y q) (H (f.d j y q) Em)
 .rcases o j y m with ⟨_,rfl⟩|⟨_,q⟩
  .refine⟨DV n,by simp[DV,R.RF,<-hn],d.at hl (l hl Em),λy m=>?_⟩;obtain rfl:=List.eq_of_mem_replicate m;exact Rs.nil _ _ I
  .have⟨zl,q1,X,q3⟩:=f.ln j y q;exact⟨zl,q1,d.at X (l X Em),λy m=>(q3 y m).keep d (λb aa _ s=>l s Em) (λ_ q=>Aj q)⟩
 .rcases o j y m with ⟨_,rfl⟩|⟨_,q⟩
  .exact⟨Am I,λj B=>by cases B⟩
  .have⟨a,b⟩:=h.b j y q;exact⟨Aj a,λk hk=>⟨Aj (b k hk).1,(b k hk).2⟩⟩
 .rcases o j y m with ⟨rfl,rfl⟩|⟨e,q⟩<;>rcases o S y' Q with ⟨rfl,rfl⟩|⟨e',W⟩
  .exact absurd I D
  .have:=C _ (h.b S y' W).1;exact⟨λe=>by simp at e;omega,λk hk=>by cases hk⟩
  .have:=C _ (h.b j y q).1;exact⟨λe=>by simp at e;omega,λk hk e=>by cases e⟩
  .exact h.inj j S y y' q W D
 .grind
 .grind
theorem ahA(w:Aa)(x n cap:Nat)(b:Af)a(c:¬a=-1)(e:a<0\/(n:Int)<=a)(x9:EB w x 9 (.slice b n cap)):D7 78 #[Ey x,Z a] w (Z 13) λd=>d=w:=by
 have f:(a==-1)=false:=by simp[c]
 have i:=Gv x9;by_cases h:a<0
 .have k2:decide (a<0)=true:=by simp[h]
  delta D7
  go_in
  go_wp2;go_returns;exact DN
 .have k2:decide (a<0)=false:=by simp[h]
  have g:decide ((n:Int)<=a)=true:=Fy
  delta D7
  go_in
  go_wp2;go_returns;exact DN
theorem ahz(w:Aa)(x g n cap i c:Nat)life(hi:i<n)(m:1<=c/\c<=3)(v:1<=life/\life<=255)(x9:EB w x 9 (EJ g n cap))(x1:EB w x 1 (Z c))(c0:EB w g (i*3) (Z life))(c1:∃u,EB w g (i*3+1) u)(c2:∃u,EB w g (i*3+2) u)(hz:∀o,DJ w g o)(Q:World->Prop)
  (s:Hid (life≠255->∀d lb,w.heap.size<=lb->Dy d lb (tab Ui (DV c)).toArray 222->DY w d->Q (((d.setCell (Y g (i*3)) (Z (life+1))).setCell (Y g (i*3+1)) Dz).setCell (Y g (i*3+2)) (EJ lb c c)))):
  D7 78 #[Ey x,Z i] w (Z (if life=255 then 11 else 0)) λq=>if life=255 then q=w else Q q:=by
 have F:((i:Int)==-1)=false:=Ev;have k2:¬(i:Int)<0:=U;have y:decide ((i:Int)<0)=false:=Ev;have G:decide ((n:Int)<=i)=false:=Fy;have H:0<=(i:Int):=U;have J:(i:Int)<n:=U;have⟨B,lg⟩:=KM x9 c0;by_cases h:life=255
 .have z:(life==255)=true:=by simp[h]
  rw[Ay h];simp only[Ay h]
  delta D7
  go_in
  go_wp2;go_returns;exact DN
 .have z:(life==255)=false:=by simp[h]
  have e1:IntKind.i64.wrap (life+1)=life+1:=Iz;rw[Ao h];simp only[Ao h];obtain⟨k,r⟩:=FU (s h) (λw=>ZK w (life+1) c m);obtain⟨u1,d1⟩:=c1;obtain⟨u2,d2⟩:=c2;have l:=Dx hz
  delta D7
  go_in
  go_wp2_with fail
  go_region_with (go_at_call 106;refine(r _).mono ?_;rintro e d ⟨lb,rfl,j,f,b⟩;have a:DY w d:=Mg b;have t:=(a.cell (p:=Y x 9) B).trans x9;have b0:=(a.cell (p:=(Y g (i*3))) lg).trans c0;have D:=(a.cell (p:=(Y g (i*3+1))) lg).trans d1;have E:=(a.cell (p:=(Y g (i*3+2))) lg).trans d2;have K:=(a.frozen (p:=(Y g (i*3))) lg).trans (l _);have L:=(a.frozen (p:=(Y g (i*3+1))) lg).trans (l _);have M:=(a.frozen (p:=(Y g (i*3+2))) lg).trans (l _);have C:=Gv t;have A:=Gv b0;have HF:=Dx (k d lb j f a);clear a b f j)
  all_goals
   go_wp2;go_returns;exact⟨I,HF⟩
theorem RW.agG(h:RW x v F G w)(J:R.Inv M G)d:D7 78 #[Ey x,Z d] w (Z (R.agy G d).1) λm=>∃o j,RW x o j (R.agy G d).2 m/\D8 F j w m:=by
 have⟨k,l⟩:=ahD J d;have hc:=h.wf.cf;unfold R.GA at hc;by_cases e1:d=-1
 .subst e1;refine cm (h.mem.ahp h.wf.sv) ?_;rintro m ⟨o,j,E,H⟩;exact⟨by simp[R.agy],o,j,E.whole k l,H⟩
 have hzl:v.zc.length=G.b.length:=by rw[<-h.zc,AX]
 by_cases e2:d<0\/(G.b.length:Int)<=d
 .have⟨a,c,e⟩:=Fa h.cl;have r:R.agy G d=(13,G):=by simp[R.agy,e1,e2]
  rw[r];refine cm (ahA w x G.b.length c a d e1 e2 (ED h.bx 9 _ (by rw[<-hzl,<-e];rfl))) ?_;rintro m rfl;exact⟨I,v,F,h,D8.refl _ _⟩
 obtain⟨i,rfl⟩:∃i:Nat,d=(i:Int):=⟨d.toNat,U⟩;have t:i<G.b.length:=U;obtain⟨c,n⟩:∃c,G.b[i]?=some c:=⟨_,Ah t⟩;have⟨z,hz,y⟩:=K4 h.zc n;have⟨g,cap,hC,K,f,s⟩:=Jx P5 U h.cl hz;have u:=(h.wf.cl i c n).b;obtain⟨A,p⟩:∃A:Nat,(A:Int)=G.c.a:=⟨G.c.a.toNat,U⟩;subst y;have r:R.agy G i=if z.1.b=255 then (11,G) else (0,{G with b:=G.b.set i (R.RF (z.1.b+1) G.c.a)}):=by
  unfold R.agy;rw[Ao e1,Ao e2,R.GH n,AY]
 refine cm (ahz w x g v.zc.length cap i A z.1.b (GG hz) U u (ED h.bx 9 _ (by rw[<-hC];rfl)) (ED h.bx 1 _ (by rw[p];rfl)) (f 0 _ U I) ⟨_,f 1 _ U I⟩ ⟨_,f 2 _ U I⟩ s (λm=>∃o j,RM x o j {G with b:=G.b.set i (R.RF (z.1.b+1) G.c.a)} m/\D8 F j w m) (λ_ N lb B C L=>h.mem.ahU hz hC p B C L)) ?_;rintro m q;rw[r]at k l ⊢;by_cases D:z.1.b=255
 .simp only[Ay D]at q ⊢;subst q;exact⟨Ev,v,F,h,D8.refl _ _⟩
 .simp only[Ao D]at q k l ⊢;obtain⟨o,j,B,C⟩:=q;exact⟨Ev,o,j,B.whole k l,C⟩
def agz(G:R.Wd):Nat->R.Wd
 |0=>G
 |k+1=>R.GR (agz G k) ((k:Int)+1)
theorem agO(G:R.Wd):∀k,(agz G k).c=G.c/\(agz G k).e=G.e/\(agz G k).f=G.f/\(agz G k).D=G.D/\(agz G k).b=G.b
 |0=>⟨rfl,rfl,rfl,rfl,rfl⟩
 |k+1=>agO G k
theorem ahE(G:R.Wd)(k:Nat)(sv:List R.Sv)(a:List Int)(seen:List R.Sn)(b:List R.Jb):Hu (agz G k) sv a seen b=Hu G sv a seen b:=by
 obtain⟨c,d,e,f,g⟩:=agO G k;unfold Hu;rw[c,d,e,f,g]
theorem agX(G:R.Wd):∀(k u:Nat),(agz G k).a[u]?=(G.a[u]?).map λs=>if u<k then {s with T:=false} else s
 |0,u=>by simp[agz]
 |k+1,u=>by
  show (R.GR (agz G k) ((k:Int)+1)).a[u]?=_;rw[R.VP,agX G k u];rw[show ((k:Int)+1-1).toNat=k by omega];cases G.a[u]? with
  |none=>rfl
  |some s=>
   simp only[Ce,Option.some.injEq];by_cases a:k=u
   .subst a;simp
   .by_cases b:u<k
    .simp[a,b,show u<k+1 by omega]
    .simp[a,b,show ¬u<k+1 by omega]
theorem ahv(G:R.Wd):(agz G G.a).a=G.a.map λs=>{s with T:=false}:=by
 refine BF (λu=>?_);rw[agX,BP];by_cases h:u<G.a.length
 .simp[h]
 .rw[BM U];rfl
theorem ahw(G:R.Wd)(k:Nat):(agz G k).a=G.a.length:=by
 induction k with
 |zero=>rfl
 |succ k ih=>
  show (R.GR (agz G k) ((k:Int)+1)).a.length=_;rw[<-ih];simp[R.GR]
theorem LW.anew(h:LW p F G w)(l:DY w w1)(o:w<=j)(A:w1.heap[j]?=some (.chan G.c.d.toNat #[] false 0 0 false))(hk:DF (λk=>k=p.s) w1 W)
  (m:Dy W p.s (IW p.n p.nm {p.t with jc:=j} G.c [0,0,0] (List.replicate 9 R.Ic)).toArray 144):
  LW {p with t:={p.t with jc:=j}} (λk=>F k\/k=j) (Hu G G.a [0,0,0] (List.replicate 9 R.Ic) []) W/\D8 F (λk=>F k\/k=j) w W:=by
 obtain⟨y,E,B⟩:=h.a.A;have a:=h.a.bs;have C:=Dv a;have b:DF (λk=>k=p.s) w W:=(DF.J l _).trans hk;have u:j≠p.s:=U;have g:Pp w F (λk=>k=p.s):=Pp.one a Em;have f:=(AB.1 A).1;have D:G9 p.s p.n p.nm {p.t with jc:=j} (λk=>F k\/k=j) G.c G.a [0,0,0] (List.replicate 9 R.Ic) [] W:=by
  refine⟨m,h.a.zs,b.row h.a.Q (λk hk e=>K5 h.a.Q a Em (e ▸ hk)),λz hz=>(h.a.each z hz).keep b g (λ_ q=>Aj q),h.a.dns,h.a.e,λi r v d=>absurd (jS v) d,λi j r H v _ d _ _=>absurd (jS v) d,⟨0,0,?_⟩,Aj y,Am I,λk hk=>Aj (B k hk)⟩;exact(hk.block j f u).trans A
 have x:=b.size;have s:j<W.heap.size:=Ai f hk.size;have n:=h.wf.cf;refine⟨h.OW D b (GD.one a Em) (λ_ q=>Aj q) (λk hk=>?_) ⟨h.wf.cf,h.wf.a,λi c hc=>⟨(h.wf.cl i c hc).a,(h.wf.cl i c hc).b,(h.wf.cl i c hc).d,(h.wf.cl i c hc).H⟩,h.wf.X,h.wf.b,h.wf.sv,h.wf.e,h.wf.nm,h.wf.st,h.wf.nd,h.wf.d⟩ (R.Gw n) (λ_ _ _ _=>rfl),b.mono (λk _ e=>by rw[e];exact y),λk hk=>?_⟩
 .rcases hk with hk|rfl
  .exact Ai (h.lt k hk) x
  .exact s
 .rcases hk with hk|rfl
  .exact Aj hk
  .exact Am o
theorem LW.ahp(h:LW p F G w):
  D7 101 #[ptr p.s] w Ep λu=>NM p F w (R.agy G (-1)).2 u:=by
 have hzl:p.t.zs.length=G.a.length:=by rw[<-h.a.zs,AX]
 have Q:=h.wf.sv;obtain⟨a,cc,hK⟩:=Fa h.a.Q;have S:EB w p.s 6 (.slice a G.a.length cc):=by
  have:=ED h.a.bs 6 p.t.K I;rw[hK,hzl]at this;exact this
 have av:=Gv S;obtain⟨n,hn⟩:∃n,n=G.a.length:=DR;rw[<-hn]at S;have HN:=Dx hn;have L:n<=255:=U;have E:=h.wf.cf;unfold R.GA at E;obtain⟨l,g⟩:∃l:Nat,G.c.d=(l:Int):=⟨G.c.d.toNat,U⟩;have s:l<=9:=U;have aa:=Dx g;have z:Hid (∀(k:Nat) (wr:Aa),k<n->(∃t,LW {p with t:=t} F (agz G k) wr/\D8 F F w wr)->D7 144 #[ptr p.s,Z ((k:Int)+1)] wr Ep λu=>∃t,LW {p with t:=t} F (agz G (k+1)) u/\D8 F F w u):=λk wr hk ⟨t,e,hW⟩=>by
  have H:k<(agz G k).a.length:=by rw[ahw,<-hn];exact hk
  refine cm (e.ends (Ah H)) ?_;rintro u ⟨t',h1,h2⟩;exact⟨I,t',h1,hW.trans h2⟩
 have m:Hid (∀(wr b W:Aa) (j:Nat),(∃t,LW {p with t:=t} F (agz G n) wr/\D8 F F w wr)->DY wr b->wr.heap.size<=j->b.heap[j]?=some (.chan l #[] false 0 0 false)->W=((((((((((((b.setCell (Y p.s 7) (Z 0)).setCell (Y p.s 8) (Z 0)).setCell (Y p.s 9) (Z 0)).setCell (Y p.s 10) (.pointer none)).setCell (Y p.s 11) (.pointer none)).setCell (Y p.s 12) (.pointer none)).setCell (Y p.s 13) (.pointer none)).setCell (Y p.s 14) (.pointer none)).setCell (Y p.s 15) (.pointer none)).setCell (Y p.s 16) (.pointer none)).setCell (Y p.s 17) (.pointer none)).setCell (Y p.s 18) (.pointer none)).setCell (Y p.s 19) (.chan (some j))->NM p F w (R.agy G (-1)).2 W):=λwr b W j ⟨t,e,hW⟩ x hj0 hj hWe=>by
  have hc:=(agO G n).1;have d:=(x.block _ (Dv e.a.bs)).trans e.a.bs;have J:DF (λk=>k=p.s) b W:=by
   rw[hWe];exact((((((((((((Eg _).trans (Eg _)).trans (Eg _)).trans (Eg _)).trans (Eg _)).trans (Eg _)).trans (Eg _)).trans (Eg _)).trans (Eg _)).trans (Eg _)).trans (Eg _)).trans (Eg _)).trans (Eg _)
  have f:Dy W p.s (IW p.n p.nm {t with jc:=j} (agz G n).c [0,0,0] (List.replicate 9 R.Ic)).toArray 144:=by
   rw[hWe];exact Ek (Ek (Ek (Ek (Ek (Ek (Ek (Ek (Ek (Ek (Ek (Ek (Ek d _) _) _) _) _) _) _) _) _) _) _) _) _
  obtain⟨g1,g2⟩:=e.anew x hj0 (by rw[hc,g];simpa using hj) J f;rw[ahE,hn,ahv]at g1;exact⟨_,_,g1,hW.trans g2⟩
 have P:=Dx (λw=>zy w l s);simp only[adg]at P;have B:Hid (∀wr,(∃t,LW {p with t:=t} F (agz G n) wr/\D8 F F w wr)->EB wr p.s 4 (Z l)/\∀b,DY wr b->p.s<b.heap.size/\(∀o,DJ b p.s o)/\∀o,o<21->∃v,EB b p.s o v):=λwr ⟨t,e,hW⟩=>by
  have d:=e.a.bs;rw[(agO G n).1]at d;refine⟨?_,λb x=>?_⟩
  .have:=ED d 4 (Z G.c.d) I;rw[g]at this;exact this
  .have c:=(x.block _ (Dv d)).trans d;refine⟨Dv c,λo=>Eb c,λo ho=>?_⟩;obtain⟨v,hv⟩:∃v,(IW p.n p.nm t G.c (agz G n).C (agz G n).J)[o]?=some v:=⟨_,Ah (by simp[IW];omega)⟩;exact⟨v,E7 c hv⟩
 have C:Hid (∃t,LW {p with t:=t} F (agz G 0) w/\D8 F F w w):=⟨p.t,h,D8.refl F w⟩
 delta D7
 go_in
 go_wp2;go_loopw [2,8] (λ_ O wr=>∃k:Nat,k<=n/\O=Z k/\∃t,LW {p with t:=t} F (agz G k) wr/\D8 F F w wr) (λ_ O _=>n-(intOf O).toNat)
 case atStart=>exact⟨0,AV _,I,C⟩
 case round=>
  obtain⟨k,hk,rfl,e⟩:=hrel;by_cases K:k<n
  .have T:=Dx (z k wr K e);have i:IntKind.i64.wrap ((k:Int)+1)=(k:Int)+1:=Iz;have hq:(k:Int)<n:=U;go_wp2_with (go_at_call 144;refine cm T λb i=>?_;have D:=Dx i;clear i)
   go_roundw
   case rel=>exact⟨k+1,U,Kc,D⟩
   case measure=>exact Kt
  .obtain rfl:k=n:=U;obtain⟨s4,N⟩:=B wr e;have q:Hid (∀b,DY wr b->p.s<b.heap.size/\(∀o,DJ b p.s o)/\∀o,o<21->∃v,EB b p.s o v):=N;have X:=Dx e;have hq:¬(k:Int)<k:=U;have az:=Gv s4;go_wp2_with (go_at_call 82;refine cm (P _) ?_;rintro b ⟨c,M,r⟩;obtain⟨l1,z1,c1⟩:=q b c;obtain⟨v7,c7⟩:=c1 7 U;obtain⟨v8,c8⟩:=c1 8 U;obtain⟨v9,c9⟩:=c1 9 U;obtain⟨aN,ab⟩:=c1 10 U;obtain⟨aS,ac⟩:=c1 11 U;obtain⟨aV,ad⟩:=c1 12 U;obtain⟨b1,ae⟩:=c1 13 U;obtain⟨b2,ah⟩:=c1 14 U;obtain⟨b3,ak⟩:=c1 15 U;obtain⟨b4,al⟩:=c1 16 U;obtain⟨b5,am⟩:=c1 17 U;obtain⟨b6,an⟩:=c1 18 U;obtain⟨b7,ao⟩:=c1 19 U;have y:=Dx c;have A:=Dx r;clear c M r c1)
   go_returns;exact⟨I,m wr b _ _ X y U A I⟩
abbrev agC(w:Aa)(b:Nat)(o:Obj):World:={w with heap:=w.heap.setIfInBounds b o}
theorem ahK{o a:Obj}(h:w.heap[b]?=a):(agC w b o).heap[b]?=o:=by
 have:=(AB.1 h).1;simp[this]
theorem agM(w:Aa)(b:Nat)(o:Obj):DF (λk=>k=b) w (agC w b o):=⟨rfl,rfl,rfl,Ev,λk _ a=>by
 have:¬b=k:=λe=>a e.symm
 simp[this]⟩
theorem ahu(w:Aa)(b:Nat)(a:Array MapEntry)(cl:Nat)(ty:Ag)(h:w.heap[b]?=some (.map a cl)):(Builtin.clear_ #[130] ty #[.map (b)]).run prog w=.ok Ep (agC w b (.map #[] cl)):=by
 simp[Builtin.clear_,run_underlying underlying130,MapKept.run_getObj_map h,MapKept.run_setObj_map _ h,Result.andThen]
theorem Mp.agC{α:Type}{k:Ag}(lit:α->Lit)(h:w.heap[b]?=some (.map #[] cl)):Mp w k b lit (λ_=>none) 0:=
 ⟨.map [],⟨#[],cl,h,⟨Ev,MapKept.stamped_empty cl,Ev⟩,Ar _,rfl⟩,rfl,λ_=>⟨rfl,λ_ h=>by cases h⟩⟩
theorem agQ{t:Ag}{c:Nat×Nat}:∀(a:Ae) (o:Nat) (w:Aa) (cs:Ae),w.heap[b]?=some (.cells cs.toArray t c)->o+a.length=cs.length->(w.setCells b o a).heap[b]?=some (.cells (cs.take o++a).toArray t c)/\DF (λk=>k=b) w (w.setCells b o a)
 |[],o,w,cs,h,hl=>by
  refine⟨?_,DF.refl _ _⟩;show w.heap[b]?=_;rw[h,A7 (by simp at hl;omega),Cb]
 |v :: a,o,w,cs,h,hl=>by
  have d:=Ek (off:=o) h v;obtain⟨e,f⟩:=agQ a (o+1) (w.setCell (Y b o) v) (cs.set o v) d (by simp at hl ⊢;omega);refine⟨?_,(Eg v).trans f⟩;show ((w.setCell (Y b o) v).setCells b (o+1) a).heap[b]?=_;rw[e];congr 3;rw[Bh,List.take_set_of_le U];simp at hl;simp[show o<cs.length by omega]
theorem ahf(w:Aa)(b n:Nat)(hn:1<=n/\n<=3)(ty:Ag)(xs:List J7)(i:xs=n)(h:Dy w b (tab J7.cells xs).toArray 129):(Builtin.clear_ #[131] ty #[EJ b n n]).run prog w=.ok Ep (w.setCells b 0 (tab J7.cells (List.replicate n DU))):=by
 have hl:(tab J7.cells xs).length=10*n:=by rw[F8 J7.len,i]
 have c:(tab J7.cells (List.replicate n DU)).length=10*n:=by rw[F8 J7.len,BN]
 have e:(Builtin.zeroCells (Value.agg DU.cells.toArray).cells n).toList=tab J7.cells (List.replicate n DU):=by
  have g:n=1\/n=2\/n=3:=U;rcases g with rfl|rfl|rfl<;>(show _=_;kernel_rfl)
 have d:=run_storeCells_cells (P:=prog) b 0 (tab J7.cells (List.replicate n DU)) 0 w (λj f=>by
  rw[c,<-hl]at f;simp[World.cell?,h,List.getElem?_eq_getElem f]) (λj _=>Eb h) (λv a=>by
  obtain⟨y,k,a⟩:=List.mem_flatMap.1 a;rw[(C3.1 k).2]at a;simp[DU,J7.cells]at a;rcases a with rfl|rfl|rfl|rfl|rfl|rfl|rfl|rfl|rfl|rfl<;>rfl)
 obtain⟨m,rfl⟩:∃m,n=m+1:=⟨n-1,U⟩;simp[Builtin.clear_,run_underlying underlying131];show ((storeCells (Y b 0) (Builtin.zeroCells (Value.agg DU.cells.toArray).cells (m+1)).toList).run prog w).andThen _=_;rw[e,d];rfl
def agD(G:R.Wd)(i:Nat)(life:Int):R.Wd:={G with b:=G.b.set i (R.RF life G.c.a)}
theorem agF{x:R.Cl}(h:(agD G i life).b[j]?=x):(i=j/\x=R.RF life G.c.a)\/(i≠j/\G.b[j]?=x):=by
 unfold agD at h;simp only[Bf]at h;split at h
 .rename_i e;split at h
  .cases h;exact Aj ⟨e,I⟩
  .cases h
 .rename_i e;exact Am ⟨e,h⟩
theorem LW.ahM(h:LW p F G w){c:R.Cl}(hc:G.b[i]?=c)(C:1<=life/\life<=255)(hk:DF (λk=>k=p.cb i\/k=p.bm i\/k=p.lb i) w W)
  (h1:W.heap[p.cb i]?=some (.cells (acS p G i (R.RF life G.c.a)) 133 (0,0))) (h2:Mp W 3 (p.bm i) Vl (λ_=>none) 0) (h3:W.heap[p.lb i]?=some (.cells (tab J7.cells (List.replicate G.c.a.toNat DU)).toArray 129 (0,0))):
  LW p F (agD G i life) W/\D8 F F w W:=by
 obtain⟨hx,hn,al,an⟩:=h.A;have hi:=GG hc;have d:(agD G i life).b.length=G.b.length:=by simp[agD]
 obtain⟨xs,E,ah,ak⟩:=h.ln i c hc;have r:=h.cl i c hc;obtain⟨S,cl,v⟩:=(h.d i c hc).block;have at':∀{b:Nat} {f:Array Value} {t:Ag} {z:Nat×Nat},w.heap[b]?=some (.cells f t z)->b≠p.cb i->b≠p.lb i->W.heap[b]?=some (.cells f t z):=λH n1 n2=>hk.at H (λe=>by
  rcases e with e|e|e
  .exact n1 e
  .subst e;rw[H]at v;cases v
  .exact n2 e)
 have D:∀{b:Nat} {f:Array Value} {t:Ag} {z:Nat×Nat},w.heap[b]?=some (.cells f t z)->t≠133->t≠129->W.heap[b]?=some (.cells f t z):=λH n1 n2=>at' H (ES H r n1) (ES H E n2)
 have J:Ip w F (λk=>k=p.cb i\/k=p.bm i\/k=p.lb i):=Ip.iw (λb e=>by
  rcases e with rfl|rfl|rfl
  .exact Aj ⟨_,_,_,r,Em⟩
  .exact Am ⟨S,cl,v⟩
  .exact Aj ⟨_,_,_,E,Em⟩)
 obtain⟨X,aa,ab,L⟩:=h.b i hi;have B:∀{α:Type} {k:Ag} {b:Nat} {lit:α->Lit} {g:α->Option Int} {n:Nat},Mp w k b lit g n->b≠p.bm i->Mp W k b lit g n:=λO m=>by
  obtain⟨T,Q,P⟩:=O.block;refine O.keep hk (λe=>?_);rcases e with rfl|e|rfl
  .rw[P]at r;cases r
  .exact m e
  .rw[P]at E;cases E
 have M:=h.wf.cf;unfold R.GA at M;refine⟨⟨⟨h.wf.cf,by rw[d];exact h.wf.a,λj x s=>?_,h.wf.X,h.wf.b,h.wf.sv,h.wf.e,h.wf.nm,h.wf.st,h.wf.nd,h.wf.d⟩,h.g,?_,?_,?_,h.a.keep hk J (λ_ q=>q),B h.e (λe=>L e.symm),λj x s=>?_,λj x s=>?_,λj x s=>?_,h.A,by rw[d];exact h.b,by rw[d];exact h.inj,λk hf=>Ai (h.lt k hf) hk.size⟩,hk.mono (λk _ e=>by rcases e with rfl|rfl|rfl<;>assumption),λ_ q=>Aj q⟩
 .rcases agF s with ⟨_,rfl⟩|⟨_,o⟩
  .exact⟨by simp[R.RF,agD];omega,C,(λu hu=>by cases hu),λk l hl=>by
    rw[R.Yw hl];exact R.sS⟩
  .exact⟨(h.wf.cl j x o).a,(h.wf.cl j x o).b,(h.wf.cl j x o).d,(h.wf.cl j x o).H⟩
 .rw[d];exact D h.bx Em Em
 .obtain⟨f,g1,g2⟩:=h.DW;rw[d];exact⟨f,D g1 Em Em,g2⟩
 .obtain⟨K,g1,g2,g3⟩:=h.bn;refine⟨K,D g1 Em Em,hk.row g2 (λj s e=>?_),g3⟩;rcases g2.2 with ⟨rfl,_⟩|⟨g,cap,f,rfl,_,N,_⟩
  .cases s
  .cases s;rcases e with e|e|e
   .exact ES N r Em e
   .exact On N v e
   .exact ES N E Em e
 .rcases agF s with ⟨rfl,rfl⟩|⟨m,o⟩
  .exact h1
  .exact at' (h.cl j x o) (h.inj j i (GG o) hi (λe=>m e.symm)).2.2 (ES (h.cl j x o) E Em)
 .rcases agF s with ⟨rfl,rfl⟩|⟨m,o⟩
  .refine⟨_,h3,⟨by simp[R.RF],λk l y hl A=>?_⟩,λk l y hl A=>?_⟩
   .rw[R.Yw hl];rw[Be]at A;split at A
    .cases A;exact⟨I,I,λ_=>rfl,by simp[R.Vm],by simp[R.Vm]⟩
    .cases A
   .rw[R.Yw hl];rw[Be]at A;split at A
    .cases A;exact Gg.nil W F
    .cases A
  .obtain⟨ys,g1,g2,g3⟩:=h.ln j x o;exact⟨ys,at' g1 (ES g1 r Em) (h.inj j i (GG o) hi (λe=>m e.symm)).1,g2,g3.h hk J.sv (λ_ q=>q)⟩
 .rcases agF s with ⟨rfl,rfl⟩|⟨m,o⟩
  .have:Mp W 3 (p.bm i) Vl (λ_=>none) 0:=h2;exact this.congr (λa=>by simp[GY,R.RF])
  .exact B (h.d j x o) (h.inj j i (GG o) hi (λe=>m e.symm)).2.1
theorem LW.ahQ(h:LW p F G w){c:R.Cl}(hc:G.b[i]?=c):
  D7 102 #[ptr (p.cb i)] w (Z (R.agy G i).1) λT=>NM p F w (R.agy G i).2 T:=by
 have hi:=GG hc;have N:=(h.wf.cl i c hc).b;have O:=(h.wf.cl i c hc).a;have B:=h.wf.cf;unfold R.GA at B;obtain⟨H,y,v,_⟩:=h.ln i c hc;obtain⟨J,cl,j⟩:=(h.d i c hc).block;have b:=h.cl i c hc;have a1:=(P4 h hc).a1;have a2:=(P4 h hc).a2;have a3:=(P4 h hc).a3;have W:w.frozen? ⟨p.cb i,1,none⟩=false:=Eb b;have Q:=Dv b;have q:R.agy G i=if c.b=255 then (11,G) else (0,agD G i (c.b+1)):=by
  unfold R.agy;rw[Ao U,Ao U,R.GH hc];rfl
 rw[q];by_cases a:c.b=255
 .rw[Ay a];have e1:(c.b==255)=true:=by simpa using a
  have K:=Dx (⟨p.t,F,h,D8.refl F w⟩:NM p F w G w);clear h q a
  delta D7
  go_in
  go_wp2;go_returns;exact⟨I,K⟩
 .rw[Ao a];have e1:(c.b==255)=false:=by simpa using a
  have P:IntKind.i64.wrap (c.b+1)=c.b+1:=Iz;obtain⟨n,hn⟩:∃n,n=c.a.length:=DR;rw[<-hn]at a3;have C:1<=n/\n<=3:=U;have r:H.length=n:=by rw[v.len,hn]
  have d:p.bm i≠p.cb i:=(On b j).symm;have f:p.lb i≠p.cb i:=ES y b Em;have g:p.lb i≠p.bm i:=On y j;have z:(w.setCell ⟨p.cb i,1,none⟩ (Z (c.b+1))).heap[p.bm i]?=some (.map J cl):=(AU _ _ _ _ d).trans j;have o:=ahu (w.setCell ⟨p.cb i,1,none⟩ (Z (c.b+1))) (p.bm i) J cl;have l1:(agC (w.setCell ⟨p.cb i,1,none⟩ (Z (c.b+1))) (p.bm i) (.map #[] cl)).heap[p.lb i]?=some (.cells (tab J7.cells H).toArray 129 (0,0)):=(agM _ _ _).at ((AU _ _ _ _ f).trans y) g;have D:(w.setCell ⟨p.cb i,1,none⟩ (Z (c.b+1))).heap[p.cb i]?=some (.cells ((acS p G i c).toList.set 1 (Z (c.b+1))).toArray 133 (0,0)):=Ek (cs:=(acS p G i c).toList) (off:=1) b _;have k2:(agC (w.setCell ⟨p.cb i,1,none⟩ (Z (c.b+1))) (p.bm i) (.map #[] cl)).heap[p.cb i]?=some (.cells ((acS p G i c).toList.set 1 (Z (c.b+1))).toArray 133 (0,0)):=(agM _ _ _).at D (λe=>d e.symm);have L:(w.setCell ⟨p.cb i,1,none⟩ (Z (c.b+1))).cell? ⟨p.cb i,2,none⟩=some (.map (some (p.bm i))):=E7 D I;have M:(agC (w.setCell ⟨p.cb i,1,none⟩ (Z (c.b+1))) (p.bm i) (.map #[] cl)).cell? ⟨p.cb i,3,none⟩=some (.slice (some ⟨p.lb i,0,none⟩) n n):=by
   rw[hn];exact E7 k2 I
  have HF:Hid (NM p F w (agD G i (c.b+1)) ((agC (w.setCell ⟨p.cb i,1,none⟩ (Z (c.b+1))) (p.bm i) (.map #[] cl)).setCells (p.lb i) 0 (tab J7.cells (List.replicate n DU)))):=by
   have x:n=G.c.a.toNat:=U;obtain⟨S,E⟩:=agQ (tab J7.cells (List.replicate n DU)) 0 _ _ l1 (by rw[F8 J7.len,F8 J7.len,BN,r];omega);have hk:DF (λk=>k=p.cb i\/k=p.bm i\/k=p.lb i) w ((agC (w.setCell ⟨p.cb i,1,none⟩ (Z (c.b+1))) (p.bm i) (.map #[] cl)).setCells (p.lb i) 0 (tab J7.cells (List.replicate n DU))):=
    (((Eg (Z (c.b+1))).mono (λk _ e=>Aj e)).trans ((agM _ _ _).mono (λk _ e=>Am (Aj e)))).trans (E.mono (λk _ e=>Am (Am e)))
   obtain⟨g1,g2⟩:=h.ahM hc (life:=c.b+1) U hk (by
    refine(E.at k2 (λe=>f e.symm)).trans ?_;rw[show (R.RF (c.b+1) G.c.a)=⟨c.b+1,[],List.replicate n R.Vm⟩ by rw[x];rfl];simp[acS,hn]) (Mp.agC Vl (E.at (ahK z) (λe=>g e.symm))) (by
    rw[<-x,S];simp)
   exact⟨p.t,F,g1,g2⟩
  have A:=o;have s:=ahf (agC (w.setCell ⟨p.cb i,1,none⟩ (Z (c.b+1))) (p.bm i) (.map #[] cl)) (p.lb i) n C;have l:∀ty,(Builtin.clear_ #[130] ty #[.map (some (p.bm i))]).run prog (w.setCell ⟨p.cb i,1,none⟩ (Z (c.b+1)))=.ok Ep (agC (w.setCell ⟨p.cb i,1,none⟩ (Z (c.b+1))) (p.bm i) (.map #[] cl)):=λty=>o ty z
  have m:∀ty,(Builtin.clear_ #[131] ty #[.slice (some ⟨p.lb i,0,none⟩) n n]).run prog (agC (w.setCell ⟨p.cb i,1,none⟩ (Z (c.b+1))) (p.bm i) (.map #[] cl))=.ok Ep _:=λty=>s ty H r l1
  have u:Hid (∀ty,(Builtin.clear_ #[131] ty #[.slice (some ⟨p.lb i,0,none⟩) n n]).run prog (agC (w.setCell ⟨p.cb i,1,none⟩ (Z (c.b+1))) (p.bm i) (.map #[] cl))=.ok Ep ((agC (w.setCell ⟨p.cb i,1,none⟩ (Z (c.b+1))) (p.bm i) (.map #[] cl)).setCells (p.lb i) 0 (tab J7.cells (List.replicate n DU)))):=m;have t:Hid (∀ty,(Builtin.clear_ #[130] ty #[.map (some (p.bm i))]).run prog (w.setCell ⟨p.cb i,1,none⟩ (Z (c.b+1)))=.ok Ep (agC (w.setCell ⟨p.cb i,1,none⟩ (Z (c.b+1))) (p.bm i) (.map #[] cl))):=l;have lw:p.cb i<(agC (w.setCell ⟨p.cb i,1,none⟩ (Z (c.b+1))) (p.bm i) (.map #[] cl)).heap.size:=Dv k2;clear h q a o s A y v j b z l1 D k2 l m d f g hn r
  delta D7
  go_in
  go_wp2_with fail
  rw[Dw t];generalize agC (w.setCell ⟨p.cb i,1,none⟩ (Z (c.b+1))) (p.bm i) (.map #[] cl)=W1 at *;go_wp2_with fail
  rw[Dw u];go_wp2_with fail
  go_returns;exact⟨I,HF⟩
theorem LW.agG(h:LW p F G w)a:
  D7 60 #[ptr p.x,Z a] w (Z (R.agy G a).1) λm=>NM p F w (R.agy G a).2 m:=by
 obtain⟨x1,x2⟩:=VL h.bx 1 2;have hl:=Gv x1;by_cases e:a=-1
 .subst e;have d:=Dx h.ahp;have e1:(R.agy G (-1)).1=0:=by unfold R.agy;rw[Ay rfl]
  rw[e1];generalize (R.agy G (-1)).2=G' at *
  delta D7
  go_in
  go_wp2_with (go_at_call 101;refine cm d λo b=>?_;have c:=Dx b;clear b)
  go_returns;exact⟨I,c⟩
 .have n1:(a==-1)=false:=by simpa using e
  by_cases j:a<0\/(G.b.length:Int)<=a
  .have e1:R.agy G a=(13,G):=by unfold R.agy;rw[Ao e,Ay j]
   rw[e1];have c:=Dx (⟨p.t,F,h,D8.refl F w⟩:NM p F w G w);generalize G.b.length=n at *;by_cases q:a<0
   .have g:¬0<=a:=U
    delta D7
    go_in
    go_wp2_with (first|(go_at_call 35;go_in))
    go_returns;exact⟨I,c⟩
   .have g:0<=a:=U;have l:¬a<(n:Int):=U
    delta D7
    go_in
    go_wp2_with (first|(go_at_call 35;go_in))
    go_returns;exact⟨I,c⟩
  .obtain⟨i,rfl⟩:∃i:Nat,a=(i:Int):=⟨a.toNat,U⟩;have hi:i<G.b.length:=U;have f:=h.lG hi;have d:=Dx (h.ahQ (Ah hi));have g:0<=(i:Int):=U;have l:(i:Int)<(G.b.length:Int):=U;have k:=Gv f;generalize R.agy G (i:Int)=Zq at *;generalize G.b.length=n at *
   delta D7
   go_in
   go_wp2_with (first|(go_at_call 35;go_in)|(go_at_call 102;refine cm d λo b=>?_;have c:=Dx b;clear b))
   go_returns;exact⟨I,c⟩
theorem Bn.agG(h:Bn N G)a:Bn N (R.agy G a).2:=by
 unfold R.agy;repeat' split
 .exact h
 .exact h
 .exact h
 .intro c hc;rcases BJ hc with q|rfl
  .exact h c q
  .simp[R.RF]
theorem Bd.agG(h:Bd N G)a:Bd N (R.agy G a).2:=by
 have⟨M,q⟩:=h.iv;exact⟨h.b.agG _,⟨M,q.agG _⟩,h.rm.agG q.wf.cf _⟩
theorem ag5(h:Ii N t w)(b:Nat)(o:LD)(hk:o.J=23):
  D7 42 #[ptr b,t.val,o.val] w DC λD=>KA N t (R.agy t.G o.a).2 w D:=by
 have⟨q,d,e,j,i,f⟩:=Jc h o;have m:=Dx d;have⟨M,s⟩:=i.bd.iv;have p:Hid (D7 60 #[ptr t.p.x,Z o.a] q (Z (R.agy t.G o.a).1) λk=>Mid N t (R.agy t.G o.a).2 q k):=by
  refine cm (i.l.agG o.a) λk c=>?_
  exact⟨I,i.mid c⟩
 have a:∀n:Int,n<23->(o.J==n)=false:=λn hn=>by simp;omega
 have F:=a 8 U;have G:=a 9 U;have u:=a 10 U;have v:=a 11 U;have x:=a 12 U;have y:=a 13 U;have z:=a 20 U;have A:=a 21 U;have B:=a 22 U;have C:(o.J==23)=true:=by rw[hk];rfl
 have E:=EI j.o 2;have l0:=Dv j.o;have⟨r,l⟩:=FU j e;clear h d hk j e a
 delta D7
 go_in
 go_wp2_with fail
 rw[Dw m];go_wp2_with fail
 refine cm p λk c=>?_
 have g:=r.stays c f;have l1:=Dv g.t;have l2:=Dv g.o;have e1:=EI g.t 1;have e2:=EI g.o 2;have H2:Hid (D7 78 #[Ey t.x,Z o.a] k (Z (R.agy t.G o.a).1) λw3=>KA N t (R.agy t.G o.a).2 w w3):=by
  refine cm (c.r.agG s o.a) λw3 h3=>?_
  exact⟨I,KA.ahead l (c.done h3 (Bd.agG c.a.bd _))⟩
 clear c g p i;exact yd
theorem Nk(w:Aa)(t:Tw)(o:LD)(a:(w.alloc (.cells #[ptr t.p.x,Ey t.x] 106)).alloc (.cells o.cells 84)=W1):DY w W1:=by grind [WO]
theorem bc(h:Hn w0 z b N Ts L lv K w)(hi:Ts[i]?=t)(o:LD){v:List V.It}(d:acL o v (HF b Ts L lv K) w)(hk:8<=o.J/\o.J<=23)(x:JI w0)(m:N<=9000000000000)(B:L.length+1<=1000000000000):
  D7 42 #[ptr b,t.val,o.val] w DC λw'=>EF w0 z b (N+1) Ts i L lv (KP t.G o v) w':=by
 have s:=Ap hi;have g:=h.tw t s;have k:=x.h h.a;have fin:∀{u:R.Wd} {p:Nat} {a w':Aa},DY w a->KA p t u a w'->N<=p->p<=N+1->EF w0 z b (N+1) Ts i L lv u w':=λj hS D A=>(h.h j).jE hi (hS.more A) U
 have r:o.J=8\/o.J=9\/o.J=10\/o.J=11\/o.J=12\/o.J=13\/o.J=14\/o.J=15\/o.J=16\/o.J=17\/o.J=18\/o.J=19\/o.J=20\/o.J=21\/o.J=22\/o.J=23:=U;have l:¬t.F 0:=λq=>by
  have:=h.base 0 (Am (Am ⟨t,s,Aj q⟩));have⟨_,_,E⟩:=x
  grind
 rcases r with e|e|e|e|e|e|e|e|e|e|e|e|e|e|e|e
 .refine MR (Aj e) _ (λa hW1=>?_);refine(Xr (g.h (Nk w t o hW1)) e d.s m).mono ?_;rintro e' w' ⟨rfl,hS⟩
  grind [KP,Nk]
 .refine MR (Am (Aj e)) _ (λa hW1=>?_);refine(Un (g.h (Nk w t o hW1)) e d.s m).mono ?_;rintro e' w' ⟨rfl,hS⟩
  grind [KP,Nk]
 .refine MR (Am (Am e)) _ (λa hW1=>?_);refine(Xt (g.h (Nk w t o hW1)) e d.s m).mono ?_;rintro e' w' ⟨rfl,hS⟩
  grind [KP,Nk]
 .refine OE (Aj e) _ (λa hW1=>?_);have j:=Nk w t o hW1;refine(Ys (g.h j) e (d.J.h j) (λC y off n c q f=>d.off C y off n c q (Am (Am ⟨t,s,f⟩))) d.len (k.h j) m d.c).mono ?_;rintro e' w' ⟨rfl,hS⟩
  grind [KP]
 .refine OE (Am e) _ (λa hW1=>?_);have j:=Nk w t o hW1;refine(Vh (h.h j) hi e U).mono ?_;exact abM
 .refine(X5 g e).mono ?_;rintro e' w' ⟨rfl,hS⟩
  grind [KP,Below.refl]
 .refine Jr U _ (λa hW1=>?_);refine(Xg (g.h (Nk w t o hW1)) e).mono ?_;exact aaH
 .refine Jr U _ (λa hW1=>?_);refine(dS (g.h (Nk w t o hW1)) e).mono ?_;exact aaH
 .refine Jr U _ (λa hW1=>?_);refine(dR (g.h (Nk w t o hW1)) e).mono ?_;rintro e' w' ⟨rfl,hS⟩
  grind [KP,Nk]
 .refine Jr U _ (λa hW1=>?_);refine(dQ (g.h (Nk w t o hW1)) e).mono ?_;rintro e' w' ⟨rfl,hS⟩
  grind [KP,Nk]
 .refine Jr U _ (λa hW1=>?_);refine(dP (g.h (Nk w t o hW1)) e).mono ?_;exact aaH
 .refine Jr U _ (λa hW1=>?_);refine(Vi (g.h (Nk w t o hW1)) e (k.h (Nk w t o hW1)) l).mono ?_;exact aaH
 .refine(Vw g e k l).mono ?_;rintro e' w' ⟨rfl,hS⟩;exact⟨I,by simp only[KP,e];exact fin (AA _ _) hS U U⟩
 .refine OG (Aj e) _ (λa hW1=>?_);have j:=Nk w t o hW1;refine(eZ (g.h j) e).mono ?_;rintro e' w' ⟨rfl,hS⟩;exact⟨I,by simp only[KP,e];exact fin j hS U U⟩
 .refine OG (Am e) _ (λa hW1=>?_);have j:=Nk w t o hW1;refine(Xp (h.h j) hi e B).mono ?_;exact abM
 .refine(ag5 g b o e).mono ?_;rintro e' w' ⟨rfl,hS⟩;exact⟨I,by simp only[KP,e];exact fin (AA _ _) hS U U⟩
theorem mW(a:Addr)(w:Aa):(binOp .eql 28 (.pointer (a)) (.pointer none)).run prog w=.ok DI w:=EL
theorem fC(a:Addr)(w:Aa):(binOp .eql 104 (.pointer (a)) (.pointer none)).run prog w=.ok DI w:=EL
theorem QK(w:Aa)(b:Nat)(c:R.Cf)(hc:¬R.GA c):D7 40 #[ptr b,fI c] w DC (DY w):=by
 obtain⟨a,l,r,t,n⟩:=c;obtain⟨v,x⟩:=FU (ado a l r t n hc) (λW=>aaa W ⟨a,l,r,t,n⟩ hc);have e:DY w (w.alloc (.cells #[Z a,Z l,Z r,Z t,Z n] 23)):=F9;have g:=AF w (.cells #[Z a,Z l,Z r,Z t,Z n] 23);obtain⟨q,d⟩:∃q,w.alloc (.cells #[Z a,Z l,Z r,Z t,Z n] 23)=q:=DK;rw[d]at e g;obtain⟨p,u,s,j⟩:=bE d g e OM;clear d e g hc
 delta D7
 go_in
 go_wp2_with fail
 rw[Dw p];refine cm (v q) λy f=>?_
 have h:=(f.block _ (Dv u)).trans (Dw u);obtain⟨c0,c1,c2,c3,c4⟩:=bC h 0 1 2 3 4;have A:=Dv h;have i:=Dx (s.trans (f.mono s.size));clear f h;go_wp2_with fail
 refine cm (x y) λB k=>?_
 have o:=Dx (i.trans (k.mono i.size));clear k c0 c1 c2 c3 c4;go_wp2_with fail
 refine cm (j _ _) λz m=>?_
 rw[m];clear m z;go_wp2;go_returns;exact⟨I,o⟩
theorem adn(hc:R.GA c):Bd 0 (J0 c):=by
 have e:R.fh c=some (J0 c):=by
  unfold R.fh J0;rw[Ay hc]
 refine⟨λa b=>?_,⟨_,R.Inv.new e⟩,R.EP.new e⟩;have:a.d=[]:=by grind [R.fh,R.Inv.new,R.EP.new,List.replicate,R.RF]
 simp[this]
structure aek(w:Aa)(c:R.Cf)(t:Tw)(w3:Aa):Prop where
 at':Ii 0 t w3
 G:t.G=J0 c
 fresh:∀k,t.A k->w.heap.size<=k
 a:Below w.heap.size w w3
theorem tW(hB:Bd 0 (J0 c))(f:DY w W1)(d:LW p F (J0 c) w2)(i:∀k,F k->W1<=k)(a:DY W1 w2)(h:RW x v E (L9 c) w3)(g:∀k,E k->w2<=k)(b:DY w2 w3):aek w c ⟨p,F,x,v,E,J0 c⟩ w3:=by
 have s1:=f.size;have s2:=a.size;refine⟨⟨d.h b,h,λk q e=>?_,hB⟩,I,λk hk=>?_,f.trans ((a.trans (b.mono s2)).mono s1)⟩
 .have:=d.lt k q;have:=g k e;omega
 .rcases hk with q|q;all_goals grind
theorem uw(w:Aa)(a b:Nat)(j:Nat)(u:Ad)(h:([ptr a,Ey b]:Ae)[j]?=u):(w.alloc (.cells #[ptr a,Ey b] 106)).cell? (((EN w 0):Addr).add j)=u:=by grind [Addr.add_lit,World.cell?_alloc_new]
theorem Ym(hc:R.GA c)(a:Dy w b #[lv,K] 80)(h:w.ownsRow 0 106 2 lv Ts (tab Vv Ts))(hn:Ts.length<=1000000000000):
  D7 40 #[ptr b,fI c] w DC λw'=>∃t i B,aek w c t i/\DF (λk=>k=b\/lv.ownBlock=k) i w'/\Dy w' b #[B,K] 80/\w'.ownsRow 0 106 2 B (Ts+1) (tab Vv Ts++Vv t)/\∀j,B.ownBlock=some j->lv.ownBlock=j\/i<=j:=by
 obtain⟨HC,HR⟩:=FU a h;have lb:=Dv a;obtain⟨Q,S,P⟩:=Ll (λW=>zG W c hc) (λW=>vg W c hc) (adn hc);have s:DY w (w.alloc (.cells #[Z c.b,Z c.a,Z c.c,Z c.e,Z c.d] 23)):=F9;have z:=AF w (.cells #[Z c.b,Z c.a,Z c.c,Z c.e,Z c.d] 23);obtain⟨X,q⟩:∃X,w.alloc (.cells #[Z c.b,Z c.a,Z c.c,Z c.e,Z c.d] 23)=X:=DK;rw[q]at s z;obtain⟨T,HX,HB,D⟩:=bE q z s OM;obtain⟨a0,G,ab⟩:=Fa h;subst ab;generalize Ts.length=m at *;generalize tab Vv Ts=TT at *;clear q s z hc a h
 delta D7
 go_in
 go_wp2_with fail
 rw[Dw T];refine(Q X).mono ?_;rintro e w2 ⟨p,F,rfl,l2,f2,u⟩;have A:=(u.block _ (Dv HX)).trans (Dw HX);obtain⟨d0,d1,d2,d3,d4⟩:=bC A 0 1 2 3 4;have lx:=Dv A;obtain⟨HL,HF,O⟩:=Ll l2 f2 u;clear u A l2 f2;go_wp2_with fail
 refine(S w2).mono ?_;rintro e i ⟨x,v,E,rfl,N,f3,J⟩;have hN:=tW P HB HL HF O N f3 J;have HN:=Dx hN;have r:=hN.a;have f:=(r.block b lb).trans (Dw HC);have L:=ER HR r;have x0:=EI f 0;have xz:=Hf f 0;have az:=Dv f;have n1:¬i.heap.size=b:=U;have n2:¬b=i.heap.size:=U;obtain⟨C,n⟩:=FU f L;have p1:=mW (Y p.x 0);have p2:=fC (Y x 0);clear hN r J N f3 d0 d1 d2 d3 d4 f L;obtain⟨j0,aa,ad,ae,ah⟩:=A1 EL;go_wp2_with fail
 refine cm (D _ _) λw4 M=>?_
 rw[M];clear M w4;go_wp2_with (at_builtin;go_must (refine AQ _ I (.tmp 36) (.tmp 40) 75 I 0 106 j0 (.agg #[.pointer none,.pointer none]) 2 16 underlying75 aa ad ae ah I Em (.slice a0 m G) m TT I (by exact n.alloc _) (EN i 0) 1 1 [ptr p.x,Ey x] I I (by exact uw i p.x x) Vd JG U U ?_))
 intro v' wz g d _ H;obtain⟨va,vn,vc,ac⟩:=Ei g;subst ac;have y:DY i (i.alloc (.cells #[ptr p.x,Ey x] 106)):=F9;obtain⟨r1,r2,N,r4⟩:=OQ (o:=0) (cs:=[.slice a0 m G,K]) C n Em y d g H Ev;have l:=Kd C n Em y d;have y0:=EI l 0;have yz:=Hf l 0;have lz:=Dv l;obtain⟨R1,R2,R3,R4⟩:=bE r1 r2 N r4;clear r1 r2 N r4 g d H y l;go_wp2;go_returns;exact⟨I,_,i,_,HN,R3,R2,R1,R4⟩
theorem Nn(h:Hn w0 z b N Ts L lv K w)(c:R.Cf)(hn:Ts.length<=1000000000000):
  D7 40 #[ptr b,fI c] w DC λi=>∃a f,Hn w0 z b N a L f K i/\a<=Ts.length+1/\(R.GA c->∃t,a=Ts++[t]/\t.G=J0 c):=by
 by_cases hc:R.GA c
 .refine cm (Ym hc h.bo.cell h.row hn) ?_;rintro i ⟨t,p,f,d,hk,e,n,g⟩;have l:=h.h d.a;have o:Ii N t p:=⟨d.at'.l,d.at'.r,d.at'.ap,d.at'.bd.le (AV _)⟩;refine⟨I,Ts++[t],f,l.push hk e n g o (λk hk=>?_),Ev,λ_=>⟨t,I,d.G⟩⟩;have j:=d.fresh k hk;exact⟨⟨Br h.a.size j,h.free k j⟩,λq=>by have:=h.lt k q;omega⟩
 .refine cm (QK w b c hc) λi m=>?_
  exact⟨I,Ts,lv,h.h m,U,λq=>absurd q hc⟩
end Go.Proofs.YtblomippkddgiabGreatDoor
