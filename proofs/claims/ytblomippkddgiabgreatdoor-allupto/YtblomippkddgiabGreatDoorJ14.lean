import Derived.Test.YtblomippkddgiabGreatDoorJ13
set_option maxRecDepth 100000
set_option maxHeartbeats 40000000
namespace Go.Proofs.YtblomippkddgiabGreatDoor
open Go.Proofs.Tryz RowKit
variable {al:Bool}{F F' F0:D9}{k kd life n tb:Int}{B L N NL b cap ci g i j jc jn li m sn t x:Nat}{o:Obj}{P p:Pk}{M:R.Bk}{c:R.Cl}{l l':R.Ln}{r r':R.Sn}{G K:R.Wd}{v:RV}{u y:Value}{W a w w' w0 wr:World}
abbrev Je(p:Pk):Array Value:=#[Z p.J,Z p.f,Z p.b,Z p.H,Z p.a,Z p.c,Z p.Ez,Z p.off,.bool p.e,.string (str p.d)]
theorem XJ(d:World->Prop){E:Af}(hi:i<9)(O:w.cell? (Y x 11)=EJ sn 9 9)(hs:iZ w sn i r)(hz:∀o,DJ w sn o)(aa:DJ w x 12)(C:sn≠x)(he:p.Ez=r.f)(hp:0<=p.Ez/\p.Ez<=255)(ho:p.Ez=p.off-1)(hm:r.b.length<=1000)(X:p.d.length<=1000)(x4:w.cell? (Y x 4)=Z tb)(F:w.cell? (Y x 12)=some (.slice E jn jc))(hf:¬tb<=jn)
  (HJ:Hid (∀W b,Below w (w.setCell (Y sn (i*10+4)) (Z 2)) W->(∀(o:Nat) (u:Ad),(IA ⟨p.f,p.H,p.b,p.a,p.c⟩)[o]?=u->W.cell? (Y b o)=u)->∃a n v c,(Builtin.append_ #[184,184] 184 #[.slice E jn jc,EJ b 1 1]).run prog W=.ok (.slice a n v) c/\(∀k,k=x\/k=sn\/k=w->k<W->c.heap[k]?=W.heap[k]?)/\∀B,Below c (((c.setCell (Y x 12) (.slice a n v)).setCell (Y sn (i*10+2)) (.string (str (r.b++p.d)))).setCell (Y sn (i*10+3)) (Z (p.Ez+1))) B->(p.e=true->D7 243 #[Ey x,pv p,Z 2,Z p.Ez,Z p.off] B Ep λf=>d f)/\(p.e=false->d B))):
  D7 261 #[Ey x,Z i,pv p] w Ep λf=>d f:=by
 have q0:0<=(i:Int):=U;have q1:(i:Int)<9:=U;obtain⟨s0,s1,s2,s3,s4,s5,s6,s7,s8,s9⟩:=hs;obtain⟨hx,D⟩:=KM O s0;have z4:=hz (i*10+4);obtain⟨N,g,q,ln,s,G,pt,off,A,bd⟩:=p;rw[<-he]at s3;simp only at ho hp X;have ah:=Td hm X;have e1:IntKind.i64.wrap (off-1)=pt:=Iz;have e2:IntKind.i64.wrap (pt+1)=pt+1:=Iz;have n1:¬sn=x:=C;have n2:¬x=sn:=λe=>C e.symm
 have H:Hid (∀m,E3 w (w.setCell (Y sn (i*10+4)) (Z 2)) (.cells (Je ⟨N,g,q,ln,s,G,pt,off,A,bd⟩) 82) (((w.alloc (.cells (Je ⟨N,g,q,ln,s,G,pt,off,A,bd⟩) 82)).drewN m).setCell (Y sn (i*10+4)) (Z 2))):=λm=>jj D
 have HF:Hid (∀W,E3 w (w.setCell (Y sn (i*10+4)) (Z 2)) (.cells (Je ⟨N,g,q,ln,s,G,pt,off,A,bd⟩) 82) W->∃a n v c,(Builtin.append_ #[184,184] 184 #[.slice E jn jc,EJ W.heap.size 1 1]).run prog (W.drew.alloc (.cells #[Z g,Z ln,Z q,Z s] 229))=.ok (.slice a n v) c/\c.cell? (Y x 12)=some (.slice E jn jc)/\DJ c x 12/\c.cell? (Y sn (i*10+2))=some (.string (str r.b))/\DJ c sn (i*10+2)/\c.cell? (Y sn (i*10+3))=some (Z pt)/\DJ c sn (i*10+3)/\c.heap[w.heap.size]?=some (.cells (Je ⟨N,g,q,ln,s,G,pt,off,A,bd⟩) 82 (0,0))/\Hid (∀B,Below c.heap.size (((c.setCell (Y x 12) (.slice a n v)).setCell (Y sn (i*10+2)) (.string (str (r.b++bd)))).setCell (Y sn (i*10+3)) (Z (pt+1))) B->(A=true->D7 243 #[Ey x,pv ⟨N,g,q,ln,s,G,pt,off,A,bd⟩,Z 2,Z pt,Z off] B Ep λf=>d f)/\(A=false->d B))):=λW t=>by
  have J:w.heap.size<W.heap.size:=Dv t.2;have l:Below w.heap.size (w.setCell (Y sn (i*10+4)) (Z 2)) (W.drew.alloc (.cells #[Z g,Z ln,Z q,Z s] 229)):=t.1.drew.alloc Fy _;obtain⟨a,n,v,c,P,Q,h3⟩:=HJ (W.drew.alloc (.cells #[Z g,Z ln,Z q,Z s] 229)) W.heap.size l (λo u hu=>by
   have:(W.drew.alloc (.cells #[Z g,Z ln,Z q,Z s] 229)).heap[W.heap.size]?=some (.cells (IA ⟨g,ln,q,s,G⟩).toArray 229 (0,0)):=AF W.drew _;exact ED this o u (by rw[CO];exact hu))
  have M:c.heap[x]?=w.heap[x]?:=((Q x (Aj I) (Ai hx (Br (by simp[World.setCell]) l.size))).trans (l.block x hx)).trans (AU _ _ _ _ (λe=>n2 e));have y:c.heap[sn]?=(w.setCell (Y sn (i*10+4)) (Z 2)).heap[sn]?:=(Q sn (Am (Aj I)) (Ai D (Br (by simp[World.setCell]) l.size))).trans (l.block sn D);refine⟨a,n,v,c,P,(AR M).trans F,(A8 M).trans aa,?_,?_,?_,?_,?_,Dx h3⟩
  .exact((AR y).trans (AP (h:=by simp;try omega) ..)).trans s2
  .exact(A8 y).trans (by simpa using hz (i*10+2))
  .exact((AR y).trans (AP (h:=by simp;try omega) ..)).trans s3
  .exact(A8 y).trans (by simpa using hz (i*10+3))
  .rw[(Q w.heap.size (Am (Am I)) Fy)];exact(AL _ _ _ J).trans t.2
 clear he ho hp hm X hz HJ C
 delta D7
 go_in
 go_wp2_with fail
 go_quiet (fail);go_wp2_with fail
 go_quiet (fail);go_wp2_with fail
 refine EE _ (H _) ?_;intro W t;obtain⟨a,n,v,c,P,ac,av,y2,f2,y3,f3,L,HE⟩:=HF W t;have ab:W.cell? (Y x 12)=some (.slice E jn jc):=(t.1.cell (p:=Y x 12) hx).trans ((AP (h:=by simp;try omega) ..).trans F);obtain⟨c1,c2,c3⟩:=TH t.2 1 2 3;have c4:=EI t.2 4;obtain⟨b0,b1,b2,b3,b4,b5,b6,b7,b8,b9⟩:=Yy L;have aS:¬w.heap.size=x:=U;have aN:¬w.heap.size=sn:=U;have am:¬x=w.heap.size:=U;have al:¬sn=w.heap.size:=U;have J:w.heap.size<W.heap.size:=Dv t.2;have az:x<W.heap.size:=U;have HH:=Dx P;clear t P HF H L F x4 O s0 s1 s2 s3 s4 s5 s6 s7 s8 s9;generalize w.heap.size=bq at *;refine WK.begin (S:=λf=>f.cell? (Y bq 1)=some (Z g)/\f.cell? (Y bq 2)=some (Z q)/\f.cell? (Y bq 3)=some (Z ln)/\f.cell? (Y bq 4)=some (Z s)) (T:=λf=>f.cell? (Y x 12)=some (.slice E jn jc)) (k:=18) EL ⟨c1,c2,c3,c4⟩ ab ?_;refine DT 0 I ?_;refine DT 1 I ?_;refine DT 2 I ?_;refine DT 3 I ?_;refine Fw 4 I (.more (j:=15) (.of EL) (.of EL)) ?_;refine DT 5 I ?_;refine DT 6 I ?_;refine DT 7 I ?_;refine DT 8 I ?_;refine DT 9 I ?_;refine DT 10 I ?_;refine DT 11 I ?_;refine DT 12 I ?_;refine DT 13 I ?_;refine WK.one (i:=14) EL I (λK z=>?_);go_simp;refine z.out _ _ (by go_keep) (by go_keep) ?_;clear z K;try simp only[Act.put,Al,Av,Ax,Az,Aq,Au]
 refine WK.one (i:=15) EL I (λK z=>?_);refine Jm I (.tmp 44) (.tmp 54) 184 I (.slice E jn jc) (EJ W.heap.size 1 1) (.slice a n v) c I I HH ?_;refine z.out _ _ ⟨b1,b2,b3,b4⟩ ac ?_;clear z K;try simp only[Act.put,Al,Av,Ax,Az,Aq,Au]
 refine DT 16 I ?_;refine DT 17 I ?_;refine WK.store EL I (λK z=>?_);go_simp;refine z.out _ _ (by go_keep) ?_;clear z K;try simp only[Act.put,Al,Av,Ax,Az,Aq,Au]
 refine WK.done EL ?_;go_wp2_with fail
 go_region_law (fail)
 all_goals
  cases A with
  |true=>
   go_wp2_with fail
   refine cm ((HE _ (by first|exact AA _ _|exact(AA _ _).drew|exact(AA _ _).drew.drew)).1 (by trivial)) λw3 hp=>?_
   exact aO
  |false=>
   go_wp2_with fail
   go_returns;exact⟨I,(HE _ (by first|exact AA _ _|exact(AA _ _).drew|exact(AA _ _).drew.drew)).2 (by trivial)⟩
theorem Yb.shape{V:Ad}{js:List R.Jb}(h:Yb w F V js):∃a c,V=.slice a js c:=by grind [Yb]
theorem RM.qk(h:RM x v F G w)(c:G.D.length<=40)(e:p.e=true->EC ⟨2,p.f,p.b,p.H,p.a,p.c,p.Ez,p.off,false,[]⟩)(g:D8 F0 F w0 w):
  (p.e=true->D7 243 #[Ey x,pv p,Z 2,Z p.Ez,Z p.off] w Ep λf=>∃b a,RM x b a (R.Mi G p) f/\D8 F0 a w0 f)/\(p.e=false->∃b a,RM x b a (R.Mi G p) w/\D8 F0 a w0 w):=by
 refine⟨λd=>?_,λd=>?_⟩
 .rw[show R.Mi G p=R.G8 G p 2 p.Ez p.off by unfold R.Mi;rw[Ay d]];refine cm (h.KN c p 2 p.Ez p.off (e d)) ?_;rintro f ⟨b,a,i,j⟩;exact⟨I,b,a,i,g.trans j⟩
 grind [R.Mi]
theorem size_set(w:Aa)(a:Addr)(u:Ad):(w.setCell a u)=w.heap.size:=by simp[World.setCell]
theorem vR{sn:List R.Sn}(m:Ac)q(h:Dy w b (tab Rk sn).toArray 227)(a:sn[i]?=r):Dy ((w.setCell (Y b (i*10+2)) (.string (str m))).setCell (Y b (i*10+3)) (Z q)) b (tab Rk (sn.set i {r with b:=m,f:=q})).toArray 227:=by
 have hi:=GG a;have s1:=Fz (r1:={r with b:=m}) h a (j:=2) (u:=.string (str m)) U I;have s2:=Fz (r:={r with b:=m}) (r1:={r with b:=m,f:=q}) s1 (AO hi) (j:=3) (u:=Z q) U I;rw[A5]at s2;exact s2
theorem RM.gather(h:RM x v F G w)(m:G.D.length<=40){r:R.Sn}(M:G.J[i]?=r)(hi:i<9)(ab:G.d.length<=100)(hm:r.b.length<=1000)(p:Pk)(hp:0<=p.Ez/\p.Ez<=255)(ho:0<=p.off/\p.off<=255)(B:p.d.length<=1000)(s:p.e=true->EC ⟨2,p.f,p.b,p.H,p.a,p.c,p.Ez,p.off,false,[]⟩):
  D7 261 #[Ey x,Z i,pv p] w Ep λw'=>∃v' F',RM x v' F' (R.Gy G i p) w'/\D8 F F' w w':=by
 have Q:R.EZ G i=r:=by unfold R.EZ;rw[M];rfl
 have aa:=GG M;obtain⟨y,x4⟩:=VL h.bx 11 4;have T:=Kg h.J M;have ac:v.Sn≠x:=λe=>ES h.J (e ▸ h.bx) Em I
 by_cases t:p.Ez=r.f
 .by_cases D:p.Ez=p.off-1
  .obtain⟨ja,jc,hJ⟩:=h.c.d.shape;have P:EB w x 12 (.slice ja G.d.length jc):=ED h.bx 12 _ (by rw[<-hJ];rfl);by_cases S:G.c.d<=(G.d.length:Int)
   .have e:R.Gy G i p=G:=by unfold R.Gy;simp only[Q];rw[Ay t,Ay D,Ay S]
    rw[e];exact XI _ hi y T t D ho x4 P S (Dx λW B=>⟨v,F,h.h B,D8.J F B⟩)
   .have e:R.Gy G i p=R.Mi {R.EA G i {r with d:=2,b:=r.b++p.d,f:=r.f+1} with d:=G.d++[⟨p.f,p.H,p.b,p.a,p.c⟩]} p:=by unfold R.Gy;simp only[Q];rw[Ay t,Ay D,Ao S]
    rw[e];refine XJ _ hi y T (λo=>Eb h.J) (Eb h.bx) ac t hp D hm B x4 P S (Dx λW b hB X=>?_);obtain⟨g1,g2⟩:=h.q (Eg (Z 2)) (Fz (r1:={r with d:=2}) h.J M (j:=4) (u:=Z 2) U rfl);have H:Below (w.setCell (Y v.Sn (i*10+4)) (Z 2)).heap.size (w.setCell (Y v.Sn (i*10+4)) (Z 2)) W:=by rw[size_set];exact hB
    have C:=g1.h H;obtain⟨a,n,E,z,c1,c2,c3⟩:=Y8 C.c.d ab X;rw[hJ]at c1;have N:z.heap[x]?=W.heap[x]?:=c2.block x (Dv C.bx) (λq=>by
     obtain⟨_,ys,q⟩:=q;exact ES q C.bx Em I)
    refine⟨a,n,E,z,c1,λk hk L=>?_,λl c=>?_⟩
    .rcases hk with rfl|rfl|rfl
     .exact N
     .exact c2.block _ L (λq=>by
       obtain⟨_,ys,q⟩:=q;exact ES q C.J Em I)
     .exact c2.block _ L (λq=>Nat.lt_irrefl _ (h.lt _ q.1))
    .have A:=N.trans C.bx;have kx:DF (λk=>k=x) z (z.setCell (Y x 12) (.slice a n E)):=Eg _;have c4:=c3.keep (F':=λk=>F k\/(W.heap.size<=k/\k<z.heap.size)) kx (λ{b ys} B _ e=>by
      subst e;exact ES B A Em I) (λ_ q=>q)
     obtain⟨m1,m2⟩:=C.jN (w':=z.setCell (Y x 12) (.slice a n E)) (J:=.slice a n E) (F2:=λk=>F k\/(W.heap.size<=k/\k<z.heap.size)) (λk q=>q.imp (λq=>q) (λq=>q.1)) (λk q=>Aj q) (λk q=>by
      rw[size_set];rcases q with q|q
      .exact Ai (C.lt k q) c2.size
      .exact q.2) ((c2.mono λk _ q=>Am q).andThen kx (λk _ q=>Aj q)) (Ek (cs:=(Iv G.c v).toList) A _) c4
     obtain⟨o1,o2⟩:=m1.q ((Eg (.string (str (r.b++p.d)))).trans (Eg (Z (p.Ez+1)))) (vR (r:={r with d:=2}) (r.b++p.d) (p.Ez+1) m1.J (AO aa));have O:=o1.h (w':=l) (by show Below _ _ _;rw[size_set,size_set,size_set];exact c);have o4:=(((g2.trans (D8.J F H)).trans m2).trans o2).trans (D8.J _ (by show Below _ _ _;rw[size_set,size_set,size_set];exact c));rw[t]at O;have o5:RM x {v with J:=.slice a n E} (λk=>F k\/(W.heap.size<=k/\k<z.heap.size)) {R.EA G i {r with d:=2,b:=r.b++p.d,f:=r.f+1} with d:=G.d++[⟨p.f,p.H,p.b,p.a,p.c⟩]} l:=by
      unfold R.EA;simpa [List.set_set] using O
     exact o5.qk m s o4
  .have e:R.Gy G i p=R.Mi (R.EA G i {r with b:=r.b++p.d,f:=r.f+1}) p:=by unfold R.Gy;simp only[Q];rw[Ay t,Ao D]
   rw[e];have key:∀l,Below w.heap.size ((w.setCell (Y v.Sn (i*10+2)) (.string (str (r.b++p.d)))).setCell (Y v.Sn (i*10+3)) (Z (p.Ez+1))) l->RM x v F (R.EA G i {r with b:=r.b++p.d,f:=r.f+1}) l/\D8 F F w l:=λl c=>by
    obtain⟨o1,o2⟩:=h.q ((Eg (.string (str (r.b++p.d)))).trans (Eg (Z (p.Ez+1)))) (vR (r.b++p.d) (p.Ez+1) h.J M);have K:Below ((w.setCell (Y v.Sn (i*10+2)) (.string (str (r.b++p.d)))).setCell (Y v.Sn (i*10+3)) (Z (p.Ez+1))).heap.size ((w.setCell (Y v.Sn (i*10+2)) (.string (str (r.b++p.d)))).setCell (Y v.Sn (i*10+3)) (Z (p.Ez+1))) l:=by rw[size_set,size_set];exact c
    have O:=o1.h K;rw[t]at O;exact⟨O,o2.trans (D8.J F K)⟩
   exact ZS _ hi y T (λo=>Eb h.J) t hp D ho hm B (Dx λg l c=>((key l c).1.qk m s (key l c).2).1 g) (Dx λg l c=>((key l c).1.qk m s (key l c).2).2 g)
 .have e:R.Gy G i p=R.Mi G p:=by unfold R.Gy;simp only[Q];rw[Ao t]
  rw[e];exact ZT _ hi y T t (Dx λg W c=>((h.h c).qk m s (D8.J F c)).1 g) (Dx λg W c=>((h.h c).qk m s (D8.J F c)).2 g)
inductive Kn (r:R.Sn) (p:Pk):Nat->Int->Int->Int->Prop
 |old:r.d=1->¬(p.J=1/\p.Ez<=r.f)->Kn r p 0 0 0 0
 |K6:r.d=1->p.J=1->p.Ez<=r.f->Kn r p 1 0 0 0
 |void:r.d=4->Kn r p 2 7 0 2
 |mute:r.d≠1->r.d≠4->p.e=false->Kn r p 0 0 0 0
 |tell:r.d=3->p.e=true->Kn r p 3 0 0 0
 |busy:r.d≠1->r.d≠4->r.d≠3->p.e=true->p.J=3->Kn r p 2 4 0 1
 |got:r.d≠1->r.d≠4->r.d≠3->p.e=true->p.J≠3->Kn r p 2 2 p.Ez p.off
theorem ZZ(a:World->Prop)(hi:i<9)(j:EB w x 11 (EJ sn 9 9))(n:iZ w sn i r){o:Int}(hk:Kn r p t kd k o)
  (d:Hid (t=0->∀W,DY w W->a W))
  (e:Hid (t=1->∀W,DY w W->D7 261 #[Ey x,Z i,pv p] W Ep λg=>a g))
  (c:Hid (t=2->∀W,DY w W->D7 243 #[Ey x,pv p,Z kd,Z k,Z o] W Ep λg=>a g))
  (f:Hid (t=3->∀W,DY w W->D7 195 #[Ey x,Z i] W Ep λg=>a g)):
  D7 242 #[Ey x,Z i,pv p] w Ep λg=>a g:=by
 have F:0<=(i:Int):=U;have H:(i:Int)<9:=U;obtain⟨s0,s1,s2,s3,s4,s5,s6,s7,s8,s9⟩:=n;obtain⟨B,s⟩:=KM j s0;obtain⟨v,A,D,ln,O,P,pt,off,E,bd⟩:=p;obtain⟨L,N,rm,y,rs,M,J,rt,z,K⟩:=r;simp only at s3 s4;clear s0 s1 s2 s5 s6 s7 s8 s9;cases hk with
 |old h1 h2=>
  simp only at h1 h2;subst h1;have G:=d I;have HG:=Dx G;clear G d e c f;by_cases b:v=1
  .have h:¬pt<=y:=λq=>h2 ⟨b,q⟩
   subst b;exact abG
  .exact abG
 |K6 h1 h2 b=>
  simp only at h1 h2 b;subst h1 h2;have G:=e I;have HG:=Dx G;clear G d e c f
  delta D7
  go_in
  go_wp2_with fail
  go_quiet (fail);go_wp2_with (first|(go_at_call 261;refine cm (HG _ (LG w (Ar _) _ _)) λw3 hp=>?_;have HPP:=Dx hp;clear hp))
  go_returns;exact⟨I,HPP⟩
 |void h1=>
  simp only at h1;subst h1;have G:=c I;have HG:=Dx G;clear G d e c f;exact adQ
 |mute h1 h2 b=>
  simp only at h1 h2 b;subst b;have l:=h1;have m:=h2;have G:=d I;have HG:=Dx G;clear G d e c f h1 h2
  delta D7
  go_in
  go_wp2_with fail
  go_returns;exact⟨I,HG _ F9⟩
 |tell h1 h2=>
  simp only at h1 h2;subst h1 h2;have G:=f I;have HG:=Dx G;clear G d e c f
  delta D7
  go_in
  go_wp2_with (first|(go_at_call 195;refine cm (HG _ F9) λw3 hp=>?_;have HPP:=Dx hp;clear hp))
  go_returns;exact⟨I,HPP⟩
 |busy h1 h2 b h h5=>
  simp only at h1 h2 b h h5;subst h h5;have l:=h1;have m:=h2;have u:=b;have G:=c I;have HG:=Dx G;clear G d e c f h1 h2 b;exact adQ
 |got h1 h2 b h h5=>
  simp only at h1 h2 b h h5;subst h;have l:=h1;have m:=h2;have u:=b;have C:=h5;have G:=c I;have HG:=Dx G;clear G d e c f h1 h2 b h5;exact adQ
theorem Lf(h:EC p){o:Int}(hk:(1<=kd/\kd<=7)/\kd≠1/\kd≠5)(a:(1<=o/\o<=9)/\0<=k/\k<=o-1):EC ⟨kd,p.f,p.b,p.H,p.a,p.c,k,o,false,[]⟩:=by grind [EC,Ju]
theorem RM.known(h:RM x v F G w)(b:G.D.length<=40)(q:R.MX G.c G.C G.J G.d)(d:G.J[i]?=r)(u:G.d.length<=100)(z:r.a≠0)(l:EC p):
  D7 242 #[Ey x,Z i,pv p] w Ep λw'=>∃v' F',RM x v' F' (R.Hl G i p) w'/\D8 F F' w w':=by
 have f:=R.F7 d;have g:=q.sn i r d;have hi:i<9:=by rw[<-q.sl];exact(GG d)
 have B:=Mm l;have⟨_,_,_,_,_,_,C,D,_⟩:=id l;have A:=(g.some z).2.2;have a:R.Hl G i p=if r.d=1 then (if p.J=1/\p.Ez<=r.f then R.Gy G i p else G) else if r.d=4 then R.G8 G p 7 0 2 else if p.e=false then G else if r.d=3 then R.JF G i else if p.J=3 then R.G8 G p 4 0 1 else R.G8 G p 2 p.Ez p.off:=by
  unfold R.Hl;simp only[f]
 have go:∀{t:Nat} {y k o:Int},Kn r p t y k o->(t=0->R.Hl G i p=G)->(t=1->R.Hl G i p=R.Gy G i p/\r.d=1)->(t=2->R.Hl G i p=R.G8 G p y k o/\EC ⟨y,p.f,p.b,p.H,p.a,p.c,k,o,false,[]⟩)->(t=3->R.Hl G i p=R.JF G i/\r.d=3)->D7 242 #[Ey x,Z i,pv p] w Ep λw'=>∃v' F',RM x v' F' (R.Hl G i p) w'/\D8 F F' w w':=λhk e0 e1 e2 e3=>by
  refine ZZ _ hi (EI h.bx 11) (Kg h.J d) hk (Dx λj W hW=>?_) (Dx λj W hW=>?_) (Dx λj W hW=>?_) (Dx λj W hW=>?_)
  .rw[e0 j];exact⟨v,F,h.h hW,D8.J F hW⟩
  .have⟨e,m⟩:=e1 j;rw[e];have⟨g1,g2,g3⟩:=g.b m;refine cm ((h.h hW).gather b d hi u U p U U U (λ_=>Lf l U U)) ?_;exact wH
  .have⟨e,m⟩:=e2 j;rw[e];refine cm ((h.h hW).KN b p _ _ _ m) ?_;exact wH
  .have⟨e,m⟩:=e3 j;rw[e];have⟨a1,a2,a3,a4⟩:=g.h m;refine cm ((h.h hW).tell b q.ll d hi ⟨a3,a4⟩ a2 (Jg q d m)) ?_;exact wH
 by_cases s1:r.d=1
 .by_cases n:p.J=1/\p.Ez<=r.f
  .exact go (.K6 s1 n.1 n.2) U (λ_=>⟨by rw[a,Ay s1,Ay n],s1⟩) U U
  .exact go (.old s1 n) (λ_=>by rw[a,Ay s1,Ao n]) U U U
 by_cases s4:r.d=4
 .exact go (.void s4) U U (λ_=>⟨by rw[a,Ao s1,Ay s4],Lf l U U⟩) U
 cases hpl:p.e with
 |false=>exact go (.mute s1 s4 hpl) (λ_=>by rw[a,Ao s1,Ao s4,Ay hpl]) U U U
 |true=>
  have c:¬p.e=false:=by rw[hpl];decide
  by_cases s3:r.d=3
  .exact go (.tell s3 hpl) U U U (λ_=>⟨by rw[a,Ao s1,Ao s4,Ao c,Ay s3],s3⟩)
  by_cases s:p.J=3
  .exact go (.busy s1 s4 s3 hpl s) U U (λ_=>⟨by rw[a,Ao s1,Ao s4,Ao c,Ao s3,Ay s],Lf l U U⟩) U
  .exact go (.got s1 s4 s3 hpl s) U U (λ_=>⟨by rw[a,Ao s1,Ao s4,Ao c,Ao s3,Ao s],Lf l U U⟩) U
def O8(sn:List R.Sn)(i:Nat):Nat:=((sn.take i).filter λr=>decide (0<r.a))
theorem nO{sn:List R.Sn}(h:sn[i]?=r):O8 sn (i+1)=O8 sn i+(if 0<r.a then 1 else 0):=by grind [O8,List.take_add_one]
theorem zR(sn:List R.Sn)(i:Nat):O8 sn i<=i:=by grind [O8]
theorem ol{S:List R.Sn}(f:EB w x 11 (EJ sn 9 9))(hc:∀i,i<9->∃q,EB w sn (i*10) (Z q)/\((0<q/\O8 S (i+1)=O8 S i+1)\/(¬0<q/\O8 S (i+1)=O8 S i))):
  D7 241 #[Ey x] w (Z (O8 S 9:Nat)) λp=>p=w:=by
 have r:=Gv f;have⟨g,h⟩:=FU hc (zR S);clear hc
 delta D7
 go_in
 go_wp2;go_loopw [3,4] (λo iv wr=>∃i n:Nat,i<=9/\n=O8 S i/\o=Z n/\iv=Z i/\wr=w) (λ_ iv _=>9-(intOf iv).toNat)
 case atStart=>exact⟨0,0,U,by simp[O8],I,I,I⟩
 case round=>
  obtain⟨i,n,hi,hn,rfl,rfl,e⟩:=hrel;subst e;by_cases d:i<9
  .have s:0<=(i:Int):=U;have t:(i:Int)<9:=U;have⟨q,l,hd⟩:=g i d;have m:=Gv l;have c:=h i;rcases hd with ⟨j,b⟩|⟨j,b⟩
   .have a:Hid (n+1=O8 S (i+1)):=by rw[hn];exact b.symm
    have k:n<=9:=U;clear b hn c;go_wp2;go_roundw
    case rel=>exact⟨i+1,n+1,U,a,Kc,Kc,BR⟩
    case measure=>exact Kt
   .have a:Hid (n=O8 S (i+1)):=by rw[hn];exact b.symm
    clear b hn c;go_wp2;go_roundw
    case rel=>exact⟨i+1,n,U,a,I,Kc,BR⟩
    case measure=>exact Kt
  .obtain rfl:i=9:=U;have a:=Dx hn;clear hn;go_wp2;go_returns;rw[<-Dw a];exact DN
theorem RM.fU(h:RM x v F G w)(hl:G.J.length=9):D7 241 #[Ey x] w (Z ((R.FE G:Nat):Int)) λb=>b=w:=by
 have e:R.FE G=O8 G.J 9:=by grind [R.FE,O8]
 rw[e];refine ol (EI h.bx 11) (λi hi=>?_);obtain⟨r,a⟩:∃r,G.J[i]?=some r:=⟨_,Ah U⟩;refine⟨r.a,(Kg h.J a).s0,?_⟩
 grind [nO]
theorem cG(h:Below B a W)(p:Addr)(v:Ad):Below B (a.setCell p v) (W.setCell p v):=⟨h.os,h.tape,h.output,by simpa [World.setCell] using h.size,λk hk=>by
 simp only[World.setCell,Cv];rw[h.block k hk]⟩
theorem E3.set{V:Aa}(h:E3 w V o W)(a:b<w)(v:Ad):E3 w (V.setCell (Y b i) v) o (W.setCell (Y b i) v):=by grind [E3,cG,Below.heap_setCell]
theorem E3.drew{V:Aa}(h:E3 w V o W):E3 w V o W.drew:=⟨h.1.drew,h.2⟩
theorem E3.drewN{V:Aa}(h:E3 w V o W)(n:Nat):E3 w V o (W.drewN n):=⟨Ed h.1 n,h.2⟩
theorem JJ:E3 w w o ((w.alloc o).drewN m):=⟨LG w (Ar _) _ _,AF w o⟩
abbrev Ie(W:Aa)(sn i:Nat)(r:R.Sn):World:=(((((((((W.setCell (Y sn (i*10)) (Z r.a)).setCell (Y sn (i*10+1)) (Z r.c)).setCell (Y sn (i*10+2)) (.string (str r.b))).setCell (Y sn (i*10+3)) (Z r.f)).setCell (Y sn (i*10+4)) (Z r.d)).setCell (Y sn (i*10+5)) (.string (str r.D))).setCell (Y sn (i*10+6)) (Z r.at')).setCell (Y sn (i*10+7)) (.bool r.g)).setCell (Y sn (i*10+8)) (Z r.C)).setCell (Y sn (i*10+9)) (Z r.e)
theorem aG{sn:List R.Sn}(h:Dy W b (tab Rk sn).toArray 227)(e:sn[i]?=r):Dy (Ie W b i r') b (tab Rk (sn.set i r')).toArray 227:=by
 have hi:=GG e;have s0:=Fz (r1:={r with a:=r'.a}) h e (j:=0) (u:=Z r'.a) U I;have s1:=Fz (r1:={r with a:=r'.a,c:=r'.c}) s0 (AO hi) (j:=1) (u:=Z r'.c) U I;rw[A5]at s1;have s2:=Fz (r1:={r with a:=r'.a,c:=r'.c,b:=r'.b}) s1 (AO hi) (j:=2) (u:=.string (str r'.b)) U I;rw[A5]at s2;have s3:=Fz (r1:={r with a:=r'.a,c:=r'.c,b:=r'.b,f:=r'.f}) s2 (AO hi) (j:=3) (u:=Z r'.f) U I;rw[A5]at s3;have s4:=Fz (r1:={r with a:=r'.a,c:=r'.c,b:=r'.b,f:=r'.f,d:=r'.d}) s3 (AO hi) (j:=4) (u:=Z r'.d) U I;rw[A5]at s4;have s5:=Fz (r1:={r with a:=r'.a,c:=r'.c,b:=r'.b,f:=r'.f,d:=r'.d,D:=r'.D}) s4 (AO hi) (j:=5) (u:=.string (str r'.D)) U I;rw[A5]at s5;have s6:=Fz (r1:={r with a:=r'.a,c:=r'.c,b:=r'.b,f:=r'.f,d:=r'.d,D:=r'.D,at':=r'.at'}) s5 (AO hi) (j:=6) (u:=Z r'.at') U I;rw[A5]at s6;have s7:=Fz (r1:={r with a:=r'.a,c:=r'.c,b:=r'.b,f:=r'.f,d:=r'.d,D:=r'.D,at':=r'.at',g:=r'.g}) s6 (AO hi) (j:=7) (u:=.bool r'.g) U I;rw[A5]at s7;have s8:=Fz (r1:={r with a:=r'.a,c:=r'.c,b:=r'.b,f:=r'.f,d:=r'.d,D:=r'.D,at':=r'.at',g:=r'.g,C:=r'.C}) s7 (AO hi) (j:=8) (u:=Z r'.C) U I;rw[A5]at s8;have s9:=Fz (r1:=r') s8 (AO hi) (j:=9) (u:=Z r'.e) U I;rw[A5]at s9;exact s9
theorem E3.Ie{V:Aa}(h:E3 w V o W)(a:b<w.heap.size)(r:R.Sn):E3 w (Ie V b i r) o (Ie W b i r):=(((((((((h.set a _).set a _).set a _).set a _).set a _).set a _).set a _).set a _).set a _).set a _
theorem Qw:DF (λk=>k=b) W (Ie W b i r'):=(((((((((Eg _).trans (Eg _)).trans (Eg _)).trans (Eg _)).trans (Eg _)).trans (Eg _)).trans (Eg _)).trans (Eg _)).trans (Eg _)).trans (Eg _)
theorem OC(W:Aa)(b i:Nat)(r:R.Sn):(Ie W b i r)=W.heap.size:=by simp[World.setCell]
theorem gZ{bx:Obj}(r:R.Sn)(hB:W.heap[B]?=bx)(hn:¬B=sn):Below W (Ie W sn i r) ((Ie W sn i r).alloc o).drew/\((Ie W sn i r).alloc o).drew.heap[B]?=bx:=by
 have b:DF (λk=>k=sn) W (Ie W sn i r):=Qw;have a:=b.at hB hn;have c:=OC W sn i r;generalize Ie W sn i r=X at a c ⊢;exact⟨((AA _ _).alloc U _).drew,(AL X o B (Dv a)).trans a⟩
theorem RM.vO(h:RM x v F G w)(hi:i<G.J)(r':R.Sn):RM x v F (R.EA G i r') (Ie w v.Sn i r')/\D8 F F w (Ie w v.Sn i r'):=
 h.q (Qw) (aG h.J (Ah hi))
def JY(w:Aa)(L sn ci:Nat)(life:Int):Nat->World
 |0=>w.setCell ⟨L,ci,none⟩ (.int .i64 life)
 |k+1=>Ie (JY w L sn ci life k) sn (3*ci+k) R.Ic
abbrev Xh(w:Aa)(L sn ci:Nat)(life:Int):World:=Ie (Ie (Ie (w.setCell (Y L ci) (Z life)) sn (3*ci) R.Ic) sn (3*ci+1) R.Ic) sn (3*ci+2) R.Ic
theorem RM.forget(h:RM x v F G w)(c:R.MX G.c G.C G.J G.d)(a:P.f.toNat=ci)(g:ci<3)(b:G.C.getD ci 0<P.b):RM x v F (R.Ib G P) (Xh w v.L v.Sn ci P.b)/\D8 F F w (Xh w v.L v.Sn ci P.b):=by
 have hl:=c.ll;have j:=c.sl;have e0:(w.setCell (Y v.L ci) (Z P.b)).heap[v.L]?=some (.cells (GK (G.C.set ci P.b)).toArray 3 (0,0)):=by
  have:=Ek (off:=ci) h.C (Z P.b);rw[this];simp[GK,List.map_set]
 have⟨a1,a2⟩:=h.Zf (Eg _) e0;have⟨d,f⟩:=a1.vO (i:=3*ci) (by show 3*ci<G.J.length;omega) R.Ic;have⟨c1,c2⟩:=d.vO (i:=3*ci+1) (by simp[R.EA];omega) R.Ic;have⟨d1,d2⟩:=c1.vO (i:=3*ci+2) (by simp[R.EA];omega) R.Ic;have e:R.Ib G P=R.EA (R.EA (R.EA {G with C:=G.C.set ci P.b} (3*ci) R.Ic) (3*ci+1) R.Ic) (3*ci+2) R.Ic:=by
  unfold R.Ib;rw[a,Ay b];rfl
 rw[e];exact⟨d1,((a2.trans f).trans c2).trans d2⟩
abbrev Oo(p:Pk):R.Sn:={R.Ic with a:=p.a,c:=p.c,d:=1}
inductive Ak (r:R.Sn) (p:Pk) (al:Bool) (n tb:Int):Nat->Int->Prop
 |aa7:p.J=6->¬r.a=p.a->Ak r p al n tb 0 0
 |jT:p.J=6->r.a=p.a->¬r.d=3->Ak r p al n tb 0 0
 |aeY:p.J=6->r.a=p.a->r.d=3->¬p.off=R.DL r.D->Ak r p al n tb 0 0
 |um:p.J=6->r.a=p.a->r.d=3->p.off=R.DL r.D->¬p.Ez=r.at'->Ak r p al n tb 0 0
 |ul:p.J=6->r.a=p.a->r.d=3->p.off=R.DL r.D->p.Ez=r.at'->¬r.at'<R.DL r.D-1->Ak r p al n tb 0 0
 |got:p.J=6->r.a=p.a->r.d=3->p.off=R.DL r.D->p.Ez=r.at'->r.at'<R.DL r.D-1->Ak r p al n tb 3 0
 |known:¬p.J=6->r.a=p.a->Ak r p al n tb 1 0
 |old:¬p.J=6->¬r.a=p.a->p.a<r.a->Ak r p al n tb 0 0
 |dead:¬p.J=6->¬r.a=p.a->¬p.a<r.a->al=false->Ak r p al n tb 2 0
 |three:p.J=3->¬r.a=p.a->¬p.a<r.a->al=true->Ak r p al n tb 0 0
 |Ez:¬p.J=6->¬r.a=p.a->¬p.a<r.a->al=true->¬p.J=3->¬p.Ez=0->Ak r p al n tb 0 0
 |full:¬p.J=6->¬r.a=p.a->¬p.a<r.a->al=true->¬p.J=3->p.Ez=0->r.a=0->tb<=n->Ak r p al n tb 2 1
 |room:¬p.J=6->¬r.a=p.a->¬p.a<r.a->al=true->¬p.J=3->p.Ez=0->r.a=0->¬tb<=n->Ak r p al n tb 4 0
 |over:¬p.J=6->¬r.a=p.a->¬p.a<r.a->al=true->¬p.J=3->p.Ez=0->¬r.a=0->Ak r p al n tb 4 0
theorem XM(S:Ab):∃(b:Ab) (c:Int),∀w,D7 193 #[.string S,Z 0] w (.tuple #[.string b,Z c]) λd=>d=w:=by
 by_cases hl:(S.size:Int)<=8
 .refine⟨S,((S.size:Int)+7) / 8,λw=>?_⟩;exact ko
 .have a:8<=S.size:=U;refine⟨S.extract 0 8,wrap64 ((wrap64 ((S.size:Int)+7)).tdiv 8),λw=>?_⟩;exact ko
structure Gz(x sn i B:Nat)(tb:Int)(r:R.Sn)(p:Pk)(al:Bool)(n:Int)(t:Nat)(k:Int)(Post:World->Prop)(W:Aa):Prop where
 x4:W.cell? (Y x 4)=some (Z tb)
 a:W.cell? (Y x 11)=some (EJ sn 9 9)
 s:iZ W sn i r
 z:∀o,W.frozen? (Y sn o)=false
 box:W.heap[B]?=some (.cells (Je p) 82 (0,0))
 ne:sn≠x
 sl:x<B/\sn<B
 c:∀W',Below W.heap.size W W'->Calls prog 240 #[Ey x,Z p.c] W' λe w'=>e=.returned (.bool al)/\w'=W'
 d:∀W',Below W.heap.size W W'->Calls prog 241 #[Ey x] W' λe w'=>e=.returned (Z n)/\w'=W'
 b:∃(pb:Ab) (pn:Int),(r.d=3->pn=R.DL r.D)/\∀W',Calls prog 193 #[.string (str r.D),Z 0] W' λe w'=>e=.returned (.tuple #[.string pb,Z pn])/\w'=W'
 d0:t=0->∀W',Below W.heap.size W W'->Post W'
 d1:t=1->∀W',Below W.heap.size W W'->Calls prog 242 #[Ey x,Z i,pv p] W' λe w'=>e=.returned Ep/\Post w'
 d2:t=2->∀W',Below W.heap.size W W'->Calls prog 243 #[Ey x,pv p,Z 7,Z k,Z 2] W' λe w'=>e=.returned Ep/\Post w'
 d3:t=3->∀W',Below W.heap.size (W.setCell (Y sn (i*10+6)) (Z (r.at'+1))) W'->Calls prog 195 #[Ey x,Z i] W' λe w'=>e=.returned Ep/\Post w'
 d4:t=4->∀W',Below W.heap.size (Ie W sn i (Oo p)) W'->Calls prog 242 #[Ey x,Z i,pv p] W' λe w'=>e=.returned Ep/\Post w'
theorem uG(b:p.f=ci)(hc:ci<3)(a:EB w x 10 (EJ L 3 3))(c0:EB w L ci (Z life))(h:p.b<life):
  D7 196 #[Ey x,pv p] w Ep (DY w):=by
 have⟨e,cl,f,ln,k,l,pt,off,g,bd⟩:=p;simp only at b h;subst b;have i:0<=(ci:Int):=U;have j:(ci:Int)<3:=U;have⟨d,c⟩:=KM a c0
 delta D7
 go_in
 go_wp2_with fail
 go_quiet (fail);go_wp2_with fail
 go_returns;exact⟨I,LG w (Ar _) _ _⟩
def TI(x:Nat)(F:D9)(w:Aa)(G:R.Wd)(wr:Aa):Prop:=∃v F',RW x v F' G wr/\D8 F F' w wr
structure iY(x:Nat)(F:D9)(w:Aa)(G:R.Wd)(i k:Nat)(wr:Aa)(g cap lb N NL:Nat)(l:R.Ln):Prop where
 x1:wr.cell? (Y x 1)=some (Z NL)
 x2:wr.cell? (Y x 2)=some (Z G.c.c)
 x9:wr.cell? (Y x 9)=some (EJ g N cap)
 c2:wr.cell? (Y g (i*3+2))=some (EJ lb NL NL)
 ln:xX wr lb k l
 z:∀o,wr.frozen? (Y lb o)=false
 ok:R.O0 l
 rt:1<=G.c.c/\G.c.c<=8
 idle:¬l.d=1->TI x F w (R.EM G i k) wr
 less:l.d=1->1<l.C->TI x F w (R.EM G i k) (wr.setCell (Y lb (k*11+9)) (Z (l.C-1)))
 over:l.d=1->¬1<l.C->l.e=0->TI x F w (R.EM G i k) ((wr.setCell (Y lb (k*11+9)) (Z (l.C-1))).setCell (Y lb (k*11+1)) (Z 3))
 piece:l.d=1->¬1<l.C->¬l.e=0->8*l.X<(l.b.length:Int)->∀W,Below wr.heap.size (((wr.setCell (Y lb (k*11+9)) (Z (l.C-1))).setCell (Y lb (k*11+10)) (Z (l.e-1))).setCell (Y lb (k*11+9)) (Z G.c.c)) W->Calls prog 129 #[Ey x,Z i,Z k,.bool true] W λe w'=>e=.returned Ep/\TI x F w (R.EM G i k) w'
 jY:l.d=1->¬1<l.C->¬l.e=0->¬8*l.X<(l.b.length:Int)->∃life,(∀W,Below wr.heap.size (((wr.setCell (Y lb (k*11+9)) (Z (l.C-1))).setCell (Y lb (k*11+10)) (Z (l.e-1))).setCell (Y lb (k*11+9)) (Z G.c.c)) W->Calls prog 130 #[Ey x,Z i,Z k,Z 3] W λe w'=>e=.returned (.agg #[Z 3,Z i,Z life,Z k,Z l.a,Z l.c,Z 0,Z 1,.bool false,.string ⟨#[]⟩])/\Below W.heap.size W w')/\∀W,Below wr.heap.size (((wr.setCell (Y lb (k*11+9)) (Z (l.C-1))).setCell (Y lb (k*11+10)) (Z (l.e-1))).setCell (Y lb (k*11+9)) (Z G.c.c)) W->Calls prog 131 #[Ey x,Z (-1),.agg #[Z 3,Z i,Z life,Z k,Z l.a,Z l.c,Z 0,Z 1,.bool true,.string ⟨#[]⟩]] W λe w'=>e=.returned Ep/\TI x F w (R.EM G i k) w'
theorem NH{a b c:Addr}{v:Ad}:(((wr.setCell a u).setCell b v).setCell c y)=wr.heap.size:=by simp[World.setCell]
theorem vh{k:Nat}(h:TI x F w G wr)(T:G.b=N)(K:G.c.a=NL)(hi:i<N)(hk:k<NL):∃g cap lb l,iY x F w G i k wr g cap lb N NL l:=by
 have⟨v,S,f,s⟩:=h;obtain⟨c,hc⟩:∃c,G.b[i]?=some c:=⟨_,Ah U⟩;have X:=(f.wf.cl i c hc).a;obtain⟨l,hl⟩:∃l,c.a[k]?=some l:=⟨_,Ah U⟩;have⟨g,cap,z,zl,n⟩:=f.at hc;have L:=(f.wf.cl i c hc).H k l hl;have y:=f.wf.cf;unfold R.GA at y;have A:=n.x9;have u:=n.c2;rw[T]at A;rw[show c.a.length=NL by omega]at u;refine⟨g,cap,z.2.lb,l,⟨ED f.bx 1 _ (by rw[<-K];rfl),EI f.bx 2,A,u,n.cells hl,λo=>Eb n.lb,L,y.2.2.1,λm=>?_,λm r=>?_,λm r q=>?_,λm r q Q W t=>?_,λm r q Q=>?_⟩⟩
 .rw[Po (R.FH hc hl) m];exact⟨v,S,f,s⟩
 .have⟨B,p,a1,a2⟩:=f.sP hc n hl m r;exact⟨B,p,a1,s.trans a2⟩
 .have⟨B,p,a1,a2⟩:=f.timeout hc n hl m r q;exact⟨B,p,a1,s.trans a2⟩
 .have⟨B,p,a1,a2⟩:=f.Ga hc n hl m q I;have d:(R.Eh G i k {l with C:=G.c.c,e:=l.e-1}).b[i]?=some {c with a:=c.a.set k {l with C:=G.c.c,e:=l.e-1}}:=by rw[R.Ft,hc];simp
  have j:(c.a.set k {l with C:=G.c.c,e:=l.e-1})[k]?=some {l with C:=G.c.c,e:=l.e-1}:=AO (GG hl);have b:Below (((wr.setCell (Y z.2.lb (k*11+9)) (Z (l.C-1))).setCell (Y z.2.lb (k*11+10)) (Z (l.e-1))).setCell (Y z.2.lb (k*11+9)) (Z G.c.c)).heap.size (((wr.setCell (Y z.2.lb (k*11+9)) (Z (l.C-1))).setCell (Y z.2.lb (k*11+10)) (Z (l.e-1))).setCell (Y z.2.lb (k*11+9)) (Z G.c.c)) W:=by rw[NH];exact t
  refine((a1.h b).Wh d j m (by unfold R.DL;simp only;omega) true).mono ?_;rintro e w' ⟨rfl,P,D,E,H⟩;refine⟨I,P,D,?_,s.trans (a2.trans ((D8.J p b).trans H))⟩;have J:R.EM G i k=R.EG (R.Eh G i k {l with C:=G.c.c,e:=l.e-1}) i k true:=by
   unfold R.EM;simp only[R.FH hc hl]
   grind
  rw[J];exact E
 .have⟨B,p,a1,a2⟩:=f.Ga hc n hl m q I;have d:(R.Eh G i k {l with C:=G.c.c,e:=l.e-1}).b[i]?=some {c with a:=c.a.set k {l with C:=G.c.c,e:=l.e-1}}:=by rw[R.Ft,hc];simp
  have j:(c.a.set k {l with C:=G.c.c,e:=l.e-1})[k]?=some {l with C:=G.c.c,e:=l.e-1}:=AO (GG hl);refine⟨c.b,λW t=>?_,λW t=>?_⟩
  .have b:Below (((wr.setCell (Y z.2.lb (k*11+9)) (Z (l.C-1))).setCell (Y z.2.lb (k*11+10)) (Z (l.e-1))).setCell (Y z.2.lb (k*11+9)) (Z G.c.c)).heap.size (((wr.setCell (Y z.2.lb (k*11+9)) (Z (l.C-1))).setCell (Y z.2.lb (k*11+10)) (Z (l.e-1))).setCell (Y z.2.lb (k*11+9)) (Z G.c.c)) W:=by rw[NH];exact t
   exact(a1.h b).Xz d j 3
  .have b:Below (((wr.setCell (Y z.2.lb (k*11+9)) (Z (l.C-1))).setCell (Y z.2.lb (k*11+10)) (Z (l.e-1))).setCell (Y z.2.lb (k*11+9)) (Z G.c.c)).heap.size (((wr.setCell (Y z.2.lb (k*11+9)) (Z (l.C-1))).setCell (Y z.2.lb (k*11+10)) (Z (l.e-1))).setCell (Y z.2.lb (k*11+9)) (Z G.c.c)) W:=by rw[NH];exact t
   have M:=R.Ow (a1.wf) d j m;have O:pv (R.Mx (R.Eh G i k {l with C:=G.c.c,e:=l.e-1}) i k {l with C:=G.c.c,e:=l.e-1})=.agg #[Z 3,Z i,Z c.b,Z k,Z l.a,Z l.c,Z 0,Z 1,DC,.string ⟨#[]⟩]:=by
    rw[show c.b=R.Qj (R.Eh G i k {l with C:=G.c.c,e:=l.e-1}) i from (R.GH d).symm];rfl
   rw[<-O];refine cm ((a1.h b).send (-1) _ M) ?_;rintro w' ⟨P,D,E,H⟩;refine⟨I,P,D,?_,s.trans (a2.trans ((D8.J p b).trans H))⟩;have J:R.EM G i k=R.E9 (R.Eh G i k {l with C:=G.c.c,e:=l.e-1}) (-1) (R.Mx (R.Eh G i k {l with C:=G.c.c,e:=l.e-1}) i k {l with C:=G.c.c,e:=l.e-1}):=by
    unfold R.EM;simp only[R.FH hc hl];rw[Ao U,Ao r,Ao q,Ao Q];unfold R.Lq;rw[R.FH d j];rfl
   rw[J];exact E
theorem RW.vP(h:RW x v F G w)(a:R.Tm (G.C.getD (i / 3) 0) r')(hk:DF (λk=>k=v.Sn) w w')(b:Dy w' v.Sn (tab Rk (G.J.set i r')).toArray 227):RW x v F (R.EA G i r') w'/\D8 F F w w':=by grind [RW,tab,Rk,R.EA,D8,RM.q,RW.q,PN,NF]
theorem RW.aak(h:RW x v F G w)(c:G.J[i]?=r)(f:r.d=3):D7 132 #[Ey x,Z i] w Ep λe=>∃d b,RW x d b (R.Ex G i) e/\D8 F b w e:=by
 have hi:i<9:=by rw[<-h.g.sl];exact(GG c)
 have⟨n,j,k,l⟩:=(h.g.sn i r c).h f;have a:=Jg h.g c f;refine cm (h.toRM.JU h.wf.X h.g.ll c hi ⟨k,l⟩ j a) ?_;rintro e ⟨d,b,g,m⟩;have e1:R.Ex G i=R.E9 G ((i / 3:Nat):Int) ⟨5,((i / 3:Nat):Int),(G.C[i / 3]?).getD 0,((i % 3:Nat):Int),r.a,r.c,r.at',R.DL r.D,false,R.EY r.D r.at'⟩:=by grind [R.Ex,R.EZ]
 rw[e1]at g ⊢;refine⟨I,d,b,⟨g,h.wf.J a,?_⟩,m⟩
 grind [RW,R.Inv.X,R.E9,R.DL,R.Inv.D,R.EY,R.EZ,R.Wf.J,R.Inv.J,ai]
def NT(G:R.Wd)(n:Nat):R.Wd:=(List.range n).foldl R.EH G
theorem iz(G:R.Wd)(n:Nat):NT G (n+1)=R.EH (NT G n) n:=by simp[NT,List.range_succ]
structure qe(x:Nat)(F:D9)(w:Aa)(G:R.Wd)(i:Nat)(wr:Aa)(sn:Nat)(r:R.Sn):Prop where
 a:wr.cell? (Y x 11)=some (EJ sn 9 9)
 x2:wr.cell? (Y x 2)=some (Z G.c.c)
 ne:sn≠x
 cs:iZ wr sn i r
 z:∀o,wr.frozen? (Y sn o)=false
 num:r.g=true->(1<=r.C/\r.C<=8)/\0<=r.e/\r.e<=6
 idle:r.g=false->TI x F w (R.EH G i) wr
 less:r.g=true->1<r.C->TI x F w (R.EH G i) (wr.setCell (Y sn (i*10+8)) (Z (r.C-1)))
 over:r.g=true->¬1<r.C->r.e=0->TI x F w (R.EH G i) ((wr.setCell (Y sn (i*10+8)) (Z (r.C-1))).setCell (Y sn (i*10+7)) (.bool false))
 Ga:r.g=true->¬1<r.C->¬r.e=0->Calls prog 132 #[Ey x,Z i] (((wr.setCell (Y sn (i*10+8)) (Z (r.C-1))).setCell (Y sn (i*10+9)) (Z (r.e-1))).setCell (Y sn (i*10+8)) (Z G.c.c)) λe w'=>e=.returned Ep/\TI x F w (R.EH G i) w'
theorem oO(h:TI x F w G wr)(hi:i<9):∃sn r,qe x F w G i wr sn r:=by
 have⟨v,n,b,m⟩:=h;obtain⟨r,f⟩:∃r,G.J[i]?=some r:=⟨_,Ah (by rw[b.g.sl];exact hi)⟩;have a:=b.g.sn i r f;have d:=GG f;have H:R.EZ G i=r:=by unfold R.EZ;rw[f];rfl
 have p:=b.wf.cf;unfold R.GA at p;have E:r.g=true->r.a≠0:=λc e=>by
  rw[a.zero e]at c;cases c
 have t:∀{r':R.Sn},r.g=true->r'.a=r.a->(r'.a=0->r'=R.Ic):=by grind
 refine⟨v.Sn,r,⟨EI b.bx 11,EI b.bx 2,λe=>ES b.J (e ▸ b.bx) Em I,Kg b.J f,λo=>Eb b.J,λc=>(a.g c).2,λc=>?_,λc y=>?_,λc y q=>?_,λc y q=>?_⟩⟩
 .unfold R.EH;simp only[H];rw[Ay c];exact⟨v,n,b,m⟩
 .have⟨l,z,s⟩:=a.g c;have k:R.EH G i=R.EA G i {r with C:=r.C-1}:=by grind [R.EH]
  rw[k];have⟨a1,a2⟩:=b.vP (i:=i) (r':={r with C:=r.C-1}) ⟨t c I,a.a,a.some,a.b,a.C,a.h,λ_=>⟨l,by simp only;omega,s⟩⟩ (Eg _) (Fz b.J f (j:=8) U I);exact⟨v,n,a1,m.trans a2⟩
 .have⟨l,z,s⟩:=a.g c;have k:R.EH G i=R.EA G i {r with C:=r.C-1,g:=false}:=by grind [R.EH]
  rw[k];have s1:=Fz (r1:={r with C:=r.C-1}) b.J f (j:=8) (u:=Z (r.C-1)) U I;have s2:=Fz (r:={r with C:=r.C-1}) (r1:={r with C:=r.C-1,g:=false}) s1 (AO d) (j:=7) (u:=DI) U I;rw[A5]at s2;have⟨a1,a2⟩:=b.vP (i:=i) (r':={r with C:=r.C-1,g:=false}) ⟨t c I,a.a,a.some,a.b,a.C,a.h,Ev⟩ ((Eg _).trans (Eg _)) s2;exact⟨v,n,a1,m.trans a2⟩
 .have⟨l,z,s⟩:=a.g c;have k:R.EH G i=R.Ex (R.EA G i {r with C:=G.c.c,e:=r.e-1}) i:=by grind [R.EH]
  rw[k];have s1:=Fz (r1:={r with C:=r.C-1}) b.J f (j:=8) (u:=Z (r.C-1)) U I;have s2:=Fz (r:={r with C:=r.C-1}) (r1:={r with C:=r.C-1,e:=r.e-1}) s1 (AO d) (j:=9) (u:=Z (r.e-1)) U I;rw[A5]at s2;have s3:=Fz (r:={r with C:=r.C-1,e:=r.e-1}) (r1:={r with C:=G.c.c,e:=r.e-1}) s2 (AO d) (j:=8) (u:=Z G.c.c) U I;rw[A5]at s3;have⟨a1,a2⟩:=b.vP (i:=i) (r':={r with C:=G.c.c,e:=r.e-1}) ⟨t c I,a.a,a.some,a.b,a.C,a.h,λ_=>⟨l,by simp only;omega,by simp only;omega⟩⟩ (((Eg _).trans (Eg _)).trans (Eg _)) s3;refine cm (a1.aak (r:={r with C:=G.c.c,e:=r.e-1}) (by simp[R.EA,d]) l) ?_;rintro K ⟨J,A,B,D⟩;exact⟨I,J,A,B,m.trans (a2.trans D)⟩
theorem jd:∃t k,Ak r p al n tb t k:=by
 by_cases c:p.J=6
 .by_cases a:r.a=p.a
  .by_cases b:r.d=3
   .by_cases d:p.off=R.DL r.D
    .by_cases e:p.Ez=r.at'
     .by_cases f:r.at'<R.DL r.D-1
      .exact⟨_,_,.got c a b d e f⟩
      .exact⟨_,_,.ul c a b d e f⟩
     .exact⟨_,_,.um c a b d e⟩
    .exact⟨_,_,.aeY c a b d⟩
   .exact⟨_,_,.jT c a b⟩
  .exact⟨_,_,.aa7 c a⟩
 .by_cases a:r.a=p.a
  .exact⟨_,_,.known c a⟩
  .by_cases b:p.a<r.a
   .exact⟨_,_,.old c a b⟩
   .cases al with
    |false=>exact⟨_,_,.dead c a b rfl⟩
    |true=>
     by_cases d:p.J=3
     .exact⟨_,_,.three d a b I⟩
     .by_cases e:p.Ez=0
      .by_cases f:r.a=0
       .by_cases g:tb<=n
        .exact⟨_,_,.full c a b I d e f g⟩
        .exact⟨_,_,.room c a b I d e f g⟩
       .exact⟨_,_,.over c a b I d e f⟩
      .exact⟨_,_,.Ez c a b I d e⟩
structure M3(K:R.Wd)(i:Nat)(r:R.Sn)(P:Pk)(t:Nat)(k:Int):Prop where
 e0:t=0->R.N0 K i P=K
 e1:t=1->R.N0 K i P=R.Hl K i P/\r.a=P.a
 e2:t=2->R.N0 K i P=R.G8 K P 7 k 2/\(k=0\/k=1)
 e3:t=3->R.N0 K i P=R.JF (R.EA K i {r with at':=r.at'+1}) i/\r.d=3/\r.at'<R.DL r.D-1
 e4:t=4->R.N0 K i P=R.Hl (R.EA K i (Oo P)) i P/\¬r.a=P.a/\¬P.a<r.a/\R.Js K P.c=true
theorem ael(m:K.J[i]?=r)(h:Ak r P (R.Js K P.c) (R.FE K:Int) K.c.d t k):M3 K i r P t k:=by
 have e:=SI m P;unfold Zm Ks at e;cases h with
 |aa7 a b=>exact⟨λ_=>by rw[e,Ay a,Ao (λq=>b q.1)],U,U,U,U⟩
 |jT a b c=>exact⟨λ_=>by rw[e,Ay a,Ao (λq=>c q.2.1)],U,U,U,U⟩
 |aeY a b c d=>exact⟨λ_=>by rw[e,Ay a,Ao (λq=>d q.2.2.1)],U,U,U,U⟩
 |um a b c d f=>exact⟨λ_=>by rw[e,Ay a,Ao (λq=>f q.2.2.2.1)],U,U,U,U⟩
 |ul a b c d f g=>exact⟨λ_=>by rw[e,Ay a,Ao (λq=>g q.2.2.2.2)],U,U,U,U⟩
 |got a b c d f g=>exact⟨U,U,U,λ_=>⟨by rw[e,Ay a,Ay ⟨b,c,d,f,g⟩],c,g⟩,U⟩
 |known a b=>exact⟨U,λ_=>⟨by rw[e,Ao a,Ay b],b⟩,U,U,U⟩
 |old a b c=>exact⟨λ_=>by rw[e,Ao a,Ao b,Ay c],U,U,U,U⟩
 |dead a b c d=>exact⟨U,U,λ_=>⟨by rw[e,Ao a,Ao b,Ao c,Ay d],Aj I⟩,U,U⟩
 |three a b c d=>exact⟨λ_=>by rw[e,Ao U,Ao b,Ao c,Ao (by rw[d];decide),Ay (Aj a)],U,U,U,U⟩
 |Ez a b c d f g=>exact⟨λ_=>by rw[e,Ao a,Ao b,Ao c,Ao (by rw[d];decide),Ay (Am g)],U,U,U,U⟩
 |full a b c d f g j l=>exact⟨U,U,λ_=>⟨by rw[e,Ao a,Ao b,Ao c,Ao (by rw[d];decide),Ao (λq=>q.elim f (λq=>q g)),Ay ⟨j,l⟩],Am I⟩,U,U⟩
 |room a b c d f g j l=>exact⟨U,U,U,U,λ_=>⟨by rw[e,Ao a,Ao b,Ao c,Ao (by rw[d];decide),Ao (λq=>q.elim f (λq=>q g)),Ao (λq=>l q.2)],b,c,d⟩⟩
 |over a b c d f g j=>exact⟨U,U,U,U,λ_=>⟨by rw[e,Ao a,Ao b,Ao c,Ao (by rw[d];decide),Ao (λq=>q.elim f (λq=>q g)),Ao (λq=>j q.1)],b,c,d⟩⟩
theorem RM.KC(h:RM x v F K W)(f:R.Inv M K)(w:K.J[i]?=r){d:R.Cd}(s:R.Lm M K P d i)(L:Dy W B (Je P) 82)(S:x<B/\v.Sn<B)(hw:D8 F0 F w0 W)(hA:Ak r P (R.Js K P.c) (R.FE K:Int) K.c.d t k):
  Gz x v.Sn i B K.c.d r P (R.Js K P.c) (R.FE K:Int) t k (λw'=>∃v' F',RM x v' F' (R.N0 K i P) w'/\D8 F0 F' w0 w') W:=by
 have z:=ael w hA;have m:=s.right;have O:=s.lt;have g:=f.wf.X;have aa:=m.2.2.2.2.1;have N:=f.wf.cf;unfold R.GA at N;have A:K.d.length<=100:=by have:=f.ws.jl;omega
 have a:=f.ws.sn i r w;have c:=GG w;have y:∃(pb:Ab) (D:Int),(r.d=3->D=R.DL r.D)/\∀b,D7 193 #[.string (str r.D),Z 0] b (.tuple #[.string pb,Z D]) λw'=>w'=b:=by
  by_cases p:r.d=3
  .have:=(a.h p).2.1;exact⟨_,_,λ_=>rfl,λb=>Ma r.D 0 U U b⟩
  .have⟨pb,D,hc⟩:=XM (str r.D);exact⟨pb,D,λq=>absurd q p,hc⟩
 refine⟨EI h.bx 4,EI h.bx 11,Kg h.J w,λo=>Eb h.J,L,λe=>ES h.J (e ▸ h.bx) Em I,S,λb hb=>(h.h hb).T f.wf.sv P.c,λb hb=>(h.h hb).fU f.ws.sl,y,λn b hb=>?_,λn b hb=>?_,λn b hb=>?_,λn b hb=>?_,λn b hb=>?_⟩
 .rw[z.e0 n];exact⟨v,F,h.h hb,hw.trans (D8.J F hb)⟩
 .have⟨e,hs⟩:=z.e1 n;rw[e];refine cm ((h.h hb).known g f.ws w A U m) ?_;exact aci
 .have⟨e,hk⟩:=z.e2 n;rw[e];refine cm ((h.h hb).KN g P 7 k 2 (Lf m U U)) ?_;exact aci
 .have⟨e,p,Q⟩:=z.e3 n;rw[e];have⟨a1,a2,a3,a4⟩:=a.h p;have T:r.a≠0:=λq=>by
   rw[a.zero q]at p;cases p
  have⟨r1,r2⟩:=h.q (sn:=K.J.set i {r with at':=r.at'+1}) (Eg _) (Fz h.J w (j:=6) (u:=Z (r.at'+1)) U I);have X:=NF f.ws (i:=i) (r:={r with at':=r.at'+1}) ⟨λq=>absurd q T,a.a,a.some,a.b,a.C,λ_=>⟨a1,a2,by simp only;omega,by simp only;omega⟩,a.g⟩;have l:(K.J.set i {r with at':=r.at'+1})[i]?=some {r with at':=r.at'+1}:=AO c;have hb':Below (W.setCell (Y v.Sn (i*10+6)) (Z (r.at'+1))).heap.size (W.setCell (Y v.Sn (i*10+6)) (Z (r.at'+1))) b:=by
   rw[show (W.setCell (Y v.Sn (i*10+6)) (Z (r.at'+1))).heap.size=W.heap.size by simp];exact hb
  refine((r1.h hb').tell g f.ws.ll (r:={r with at':=r.at'+1}) l O ⟨by simp only;omega,by simp only;omega⟩ a2 (Jg (G:={K with J:=K.J.set i {r with at':=r.at'+1}}) X l p)).mono ?_;exact ab0
 .have⟨e,hs,C,H⟩:=z.e4 n;rw[e];have E:=f.S7 s w hs C (by simpa [R.Js,R.Jt] using H);have⟨r1,r2⟩:=h.vO c (Oo P);have l:(R.EA K i (Oo P)).J[i]?=some (Oo P):=AO c;have hb':Below (Ie W v.Sn i (Oo P)).heap.size (Ie W v.Sn i (Oo P)) b:=by
   rw[OC];exact hb
  refine((r1.h hb').known (by exact g) E.ws l (by exact A) (by show P.a≠0;omega) m).mono ?_;exact ab0
theorem nh(b:World->Prop)(g:p.f=ci)(j:p.H=li)(hc:ci<3)(hl:li<3)(hi:i=3*ci+li)(l:w.cell? (Y x 10)=EJ L 3 3)(c0:w.cell? (Y L ci)=Z life)(h:p.b=life)(u:r.d=3->(0<=r.at'/\r.at'<=9)/\r.D.length<=1000)(v:Ak r p al n tb t k)
  (m:Hid (∀W,E3 w w (.cells (Je p) 82) W->Gz x sn i w tb r p al n t k b W)):
  D7 196 #[Ey x,pv p] w Ep λw'=>b w':=by
 obtain⟨kd,cl,lf,ln,sq,ud,pt,off,pl,bd⟩:=p;simp only at g j h m;subst g;subst j;subst h;have P:0<=(ci:Int):=U;have Q:(ci:Int)<3:=U;have i0:0<=(i:Int):=U;have J:(i:Int)<9:=U;have e1:IntKind.i64.wrap (3*(ci:Int))=3*(ci:Int):=Iz;have e2:IntKind.i64.wrap (3*(ci:Int)+(li:Int))=(i:Int):=Iz;obtain⟨C,A⟩:=KM l c0;clear hi hl;have g0:¬lf<lf:=U
 delta D7
 go_in
 go_wp2_with fail
 go_quiet (fail);go_wp2_with fail
 go_quiet (fail);refine EE (E3 w w _) ((JJ).drewN _) ?_;intro W s;obtain⟨x4,H,⟨s0,s1,s2,s3,s4,s5,s6,s7,s8,s9⟩,z,a,ne,⟨F,q⟩,d,f,⟨N,O,o,c⟩,d0,d1,d2,d3,d4⟩:=m W s;obtain⟨b0,b1,b2,b3,b4,b5,b6,b7,b8,b9⟩:=Yy a;have y:=Dv a;have G:x<W.heap.size:=U;have E:sn<W.heap.size:=U;obtain⟨C253,C254,C220,HBX⟩:=bE d f c a;have S:=z (i*10);have T:=z (i*10+1);have X:=z (i*10+2);have z3:=z (i*10+3);have z4:=z (i*10+4);have z5:=z (i*10+5);have z6:=z (i*10+6);have z7:=z (i*10+7);have z8:=z (i*10+8);have z9:=z (i*10+9);have n1:=ne;have n2:¬x=sn:=λe=>ne e.symm
 have M:¬sn=w.heap.size:=U;have m2:¬w.heap.size=sn:=U;clear s a d f c m ne z F q C A l c0;generalize w.heap.size=bq at *;cases v;all_goals
  first|have D:=Dx (d0 rfl)|have D:=Dx (d1 rfl)|have D:=Dx (d2 rfl)|have D:=Dx (d3 rfl)|have D:=Dx (d4 rfl)
  clear d0 d1 d2 d3 d4;try simp only at *
  subst_vars
  try (obtain rfl:=o (by assumption);have B:=u (by assumption);have e4:IntKind.i64.wrap (R.DL r.D-1)=R.DL r.D-1:=(by unfold R.DL;rw[BS];omega);have e5:IntKind.i64.wrap (r.at'+1)=r.at'+1:=Iz;clear B)
  try have K:(pt != 0)=true:=by simpa using (by assumption:¬pt=0)
  clear u;exact afg
theorem ng(f:World->Prop)(c:p.f=ci)(y:p.H=li)(hc:ci<3)(hl:li<3)(hi:i=3*ci+li)(s:w.cell? (Y x 10)=EJ L 3 3)(c0:w.cell? (Y L ci)=Z life)(ac:life<p.b)(zl:DJ w L ci)(ae:sn<w)(l:L≠x)(T:Hid (sn≠x))(N:Hid (∀k W,k<3->E3 w (JY w L sn ci p.b k) (.cells (Je p) 82) W->W.cell? (Y x 11)=EJ sn 9 9/\∀o,DJ W sn o/\(o<90->∃u,W.cell? (Y sn o)=some u)))(q:r=R.Ic)(d:1<=p.a)(P:Ak r p al n tb t k)
  (O:Hid (∀W,E3 w (JY w L sn ci p.b 3) (.cells (Je p) 82) W->Gz x sn i w tb r p al n t k f W)):
  D7 196 #[Ey x,pv p] w Ep λw'=>f w':=by
 obtain⟨kd,cl,lf,ln,sq,ud,pt,off,pl,bd⟩:=p;simp only at c y ac O N d;subst c;subst y;have q0:0<=(ci:Int):=U;have q1:(ci:Int)<3:=U;have i0:0<=(i:Int):=U;have i9:(i:Int)<9:=U;have e1:IntKind.i64.wrap (3*(ci:Int))=3*(ci:Int):=Iz;have e2:IntKind.i64.wrap (3*(ci:Int)+(li:Int))=(i:Int):=Iz;obtain⟨hx,Q⟩:=KM s c0;have g0:¬lf<life:=U;have S:=Dx hc;have bg:=l;have bi:¬x=L:=λe=>l e.symm
 have bj:¬L=w.heap.size:=U;have bp:¬w.heap.size=L:=U;have h0:r.a=0:=by rw[q];rfl
 delta D7
 go_in
 go_wp2_with fail
 go_quiet (fail);go_wp2_with fail
 go_quiet (fail);refine EE (E3 w w _) ((JJ).drewN _) ?_;intro W0 a;obtain⟨b1,b2⟩:=VL a.2 1 2;have ao:=(a.1.cell (p:=Y x _) hx).trans s;have yc:=(a.1.cell (p:=Y L _) Q).trans c0;have yz:=(a.1.frozen (p:=Y L _) Q).trans zl;have lB:=Dv a.2;have am:x<W0.heap.size:=U;have ah:L<W0.heap.size:=U;have H0:Hid (E3 w (JY w L sn ci lf 0) (.cells (Je ⟨kd,(ci:Int),lf,(li:Int),sq,ud,pt,off,pl,bd⟩) 82) (W0.setCell (Y L ci) (Z lf))):=a.set Q (Z lf);obtain⟨HA,X,aa⟩:=Ll P q d;clear a s c0 zl l hc P hi hl q d h0;go_wp2_with fail
 go_region_held3 (λw'=>w'.cell? (Y x 10)=some (EJ L 3 3)/\w'.cell? (EN w 1)=some (Z ci)/\w'.cell? (EN w 2)=some (Z lf)) (go_keep) (fail)
 refine EE (E3 w (JY w L sn ci lf 0) (.cells (Je ⟨kd,(ci:Int),lf,(li:Int),sq,ud,pt,off,pl,bd⟩) 82)) H0.drew ?_;intro W1 v;have H1:=Dx v;clear v H0 b1 b2 ao yc yz lB am ah;go_wp2_with fail
 go_loopw [4] (λkv wr=>∃k:Nat,k<=3/\kv=Z k/\E3 w (JY w L sn ci lf k) (.cells (Je ⟨kd,(ci:Int),lf,(li:Int),sq,ud,pt,off,pl,bd⟩) 82) wr) (λkv _=>3-(intOf kv).toNat)
 case atStart=>exact⟨0,U,I,H1⟩
 case round=>
  obtain⟨k,hk,rfl,hB⟩:=hrel;by_cases ad:k<3
  .have c:=Dw S;obtain⟨m,hm⟩:∃m:Nat,m=3*ci+k:=DR;obtain⟨an,hz⟩:=N k _ ad hB;have b1:=EI hB.2 1;have lB:=Dv hB.2;have kk:(k:Int)<3:=U;have m0:0<=(m:Int):=U;have m9:(m:Int)<9:=U;have e3:IntKind.i64.wrap (3*(ci:Int)+(k:Int))=(m:Int):=Iz;have bf:x<wr.heap.size:=U;have bb:sn<wr.heap.size:=U;have br:¬sn=w.heap.size:=U;have bt:¬w.heap.size=sn:=U;obtain⟨z0,A⟩:=hz (m*10);obtain⟨u0,y0⟩:=A U;clear A;obtain⟨z1,B⟩:=hz (m*10+1);obtain⟨u1,y1⟩:=B U;clear B;obtain⟨z2,C⟩:=hz (m*10+2);obtain⟨u2,y2⟩:=C U;clear C;obtain⟨z3,E⟩:=hz (m*10+3);obtain⟨u3,y3⟩:=E U;clear E;obtain⟨z4,F⟩:=hz (m*10+4);obtain⟨u4,y4⟩:=F U;clear F;obtain⟨z5,G⟩:=hz (m*10+5);obtain⟨u5,y5⟩:=G U;clear G;obtain⟨z6,H⟩:=hz (m*10+6);obtain⟨u6,y6⟩:=H U;clear H;obtain⟨z7,J⟩:=hz (m*10+7);obtain⟨u7,y7⟩:=J U;clear J;obtain⟨z8,K⟩:=hz (m*10+8);obtain⟨u8,y8⟩:=K U;clear K;obtain⟨z9,M⟩:=hz (m*10+9);obtain⟨u9,y9⟩:=M U;clear M;have HB:Hid (E3 w (JY w L sn ci lf (k+1)) (.cells (Je ⟨kd,(ci:Int),lf,(li:Int),sq,ud,pt,off,pl,bd⟩) 82) (Ie wr sn m R.Ic)):=by
    subst hm;exact hB.Ie ae R.Ic
   have ex:=Dw T;have aN:¬x=sn:=λe=>ex e.symm
   clear hB hz c hm N O;go_wp2_with fail
   go_region_held3 (λw'=>w'.cell? (Y x 11)=some (EJ sn 9 9)/\w'.cell? (EN w 1)=some (Z ci)) (go_keep) (fail)
   go_wp2_with fail
   go_roundw
   case rel=>exact⟨k+1,U,Kc,HB.drew⟩
   case measure=>exact Kt
  .obtain rfl:k=3:=U;refine EE (E3 w (JY w L sn ci lf 3) (.cells (Je ⟨kd,(ci:Int),lf,(li:Int),sq,ud,pt,off,pl,bd⟩) 82)) hB ?_;clear hB N H1;have P:=Dw HA;have h0:r.a=0:=by rw[Dw X];rfl
   have d:=Dw aa;intro W hW;obtain⟨x4,an,⟨s0,s1,s2,s3,s4,s5,s6,s7,s8,s9⟩,z,b,ne,⟨lx,ak⟩,h,j,⟨pb,pn,aV,g⟩,d0,d1,d2,d3,d4⟩:=O W hW;obtain⟨b0,b1,b2,b3,b4,b5,b6,b7,b8,b9⟩:=Yy b;have aS:=Dv b;have be:x<W.heap.size:=U;have ba:sn<W.heap.size:=U;obtain⟨C253,C254,C220,HBX⟩:=bE h j g b;have z0:=z (i*10);have z1:=z (i*10+1);have z2:=z (i*10+2);have z3:=z (i*10+3);have z4:=z (i*10+4);have z5:=z (i*10+5);have z6:=z (i*10+6);have z7:=z (i*10+7);have z8:=z (i*10+8);have z9:=z (i*10+9);have n1:=ne;have n2:¬x=sn:=λe=>ne e.symm
   have m1:¬sn=w.heap.size:=U;have m2:¬w.heap.size=sn:=U;clear hW b h j g O ne z lx ak hx Q;generalize w.heap.size=bq at *;cases P;all_goals try (exfalso;(try simp only at *);omega)
   all_goals
    first|have D:=Dx (d0 rfl)|have D:=Dx (d1 rfl)|have D:=Dx (d2 rfl)|have D:=Dx (d3 rfl)|have D:=Dx (d4 rfl)
    clear d0 d1 d2 d3 d4;try simp only at *
    subst_vars
    try have kn:(pt != 0)=true:=by simpa using (by assumption:¬pt=0)
    exact afg
theorem RM.YW(h:RM x v F G w)(b:R.MX G.c G.C G.J G.d)(hc:ci<3)(a:Int):∀k,k<=3->∃sn,RM x v F {G with C:=G.C.set ci a,J:=sn} (JY w v.L v.Sn ci a k)/\sn.length=9/\D8 F F w (JY w v.L v.Sn ci a k)/\(JY w v.L v.Sn ci a k).heap.size=w.heap.size
 |0,_=>by
  have e0:(w.setCell (Y v.L ci) (Z a)).heap[v.L]?=some (.cells (GK (G.C.set ci a)).toArray 3 (0,0)):=by
   have:=Ek (off:=ci) h.C (Z a);rw[this];simp[GK,List.map_set]
  have⟨a1,a2⟩:=h.Zf (Eg _) e0;exact⟨G.J,a1,b.sl,a2,by show (w.setCell _ _).heap.size=_;simp⟩
 |k+1,hk=>by
  have⟨sn,a1,a2,a3,a4⟩:=h.YW b hc a k U;have⟨c,d⟩:=a1.vO (i:=3*ci+k) (by show 3*ci+k<sn.length;omega) R.Ic;exact⟨sn.set (3*ci+k) R.Ic,c,by simpa using a2,a3.trans d,(OC _ _ _ _).trans a4⟩
theorem RM.Q(h:RM x v F G w)(j:R.Inv M G)(b:EC P)(hp:R.Tj M G.a (-1) P):
  D7 196 #[Ey x,pv P] w Ep λN=>∃v' O,RM x v' O (R.KB G P) N/\D8 F O w N:=by
 have⟨d,hd,hu,hk⟩:=hp;have⟨_,aa,ac,ab,J,_⟩:=id b;generalize hci:P.f.toNat=ci;generalize hni:P.H.toNat=ni;obtain⟨g,p,A,f⟩:P.f=(ci:Int)/\P.H=(ni:Int)/\3*ci+ni<9/\(3*ci+ni) / 3=ci:=U;have ad:=j.ws.ll;have n:=EI h.bx 10;have c0:EB w v.L ci (Z (G.C.getD ci 0)):=by
  refine E7 h.C ?_;unfold GK
  grind
 have C:=Dv h.bx;have m:=Dv h.J;have T:R.KB G P=if P.b<G.C.getD ci 0 then G else R.N0 (R.Ib G P) (3*ci+ni) P:=by
  unfold R.KB;rw[hci,hni]
 have E:∀{K:R.Wd},R.Inv M K->∀{i:Nat} {r:R.Sn},K.J[i]?=some r->r.d=3->(0<=r.at'/\r.at'<=9)/\r.D.length<=1000:=λhK _ _ D h3=>by
  have⟨a1,a2,a3,a4⟩:=(hK.ws.sn _ _ D).h h3;have:=R.IV a2;omega
 rw[T];rcases Int.lt_trichotomy P.b (G.C.getD ci 0) with hc|hc|hc
 .rw[Ay hc];refine cm (uG g U n c0 hc) λN a=>?_
  exact⟨I,v,F,h.h a,D8.J F a⟩
 .rw[Ao U];have X:R.Ib G P=G:=by grind [R.Ib]
  rw[X];have l:R.Lm M G P d (3*ci+ni):=⟨b,hd,hu,by rw[f];exact hc,by rw[hci,hni]⟩;have D:=j.A A;obtain⟨t,k,s⟩:=jd;exact nh _ g p U U I n c0 hc (E j D) s (Dx λW c=>(h.h c.1).KC j D l c.2 ⟨C,m⟩ (D8.J F c.1) s)
 .rw[Ao U];have y:=j.C b hd;have⟨Q,S⟩:=h.forget (P:=P) j.ws hci U hc;have z:Xh w v.L v.Sn ci P.b=JY w v.L v.Sn ci P.b 3:=rfl;rw[z]at Q S;have L:(JY w v.L v.Sn ci P.b 3).heap.size=w.heap.size:=by rw[<-z];simp[World.setCell]
  have hr2:=y.A A;have B:R.EZ (R.Ib G P) (3*ci+ni)=R.Ic:=by
   have e:=OL (G:=G) (P:=P) (by rw[hci];exact hc);rw[e,hci]at hr2 ⊢;exact acp
  have l:R.Lm M (R.Ib G P) P d (3*ci+ni):=⟨b,hd,hu,by
   rw[f,OL (by rw[hci];exact hc),hci];show P.b=(G.C.set ci P.b).getD ci 0;rw[Bu,Bf,Ay I,Ay U];rfl,by rw[hci,hni]⟩
  obtain⟨t,k,s⟩:=jd;refine ng _ g p U U I n c0 hc (Eb h.C) m (λe=>ES h.C (e ▸ h.bx) Em I) (Dx λe=>ES h.J (e ▸ h.bx) Em I) (Dx λk W hk c=>?_) B J.1 s (Dx λW c=>?_)
  .have⟨sn,a1,a2,_,a4⟩:=h.YW j.ws (show ci<3 by omega) P.b k U;have a:=c.1;rw[<-a4]at a;have H:=a1.h a;refine⟨EI H.bx 11,λo=>⟨Eb H.J,λho=>?_⟩⟩;have hl:(tab Rk sn).length=90:=by rw[F8 XT,a2]
   obtain⟨u,hu⟩:∃u,(tab Rk sn)[o]?=some u:=⟨_,Ah U⟩;exact⟨u,E7 H.J hu⟩
  .have a:=c.1;rw[<-L]at a;exact(Q.h a).KC y hr2 l c.2 ⟨C,m⟩ (S.trans (D8.J F a)) s
structure kC(w:Aa)(x ci li g n cap lb nl:Nat)(life:Int)(l:R.Ln):Prop where
 x9:w.cell? (Y x 9)=some (EJ g n cap)
 c0:w.cell? (Y g (ci*3))=some (Z life)
 c2:w.cell? (Y g (ci*3+2))=some (EJ lb nl nl)
 ln:xX w lb li l
 hc:ci<n
 hl:li<nl
theorem nT(w:Aa)(x ci li g n cap lb f:Nat)life(l:R.Ln)(p:Pk)(e:p.H=li)(h:kC w x ci li g n cap lb f life l)(b:l.d≠1\/(l.d=1/\p.b≠life)\/(l.d=1/\p.b=life/\p.a≠l.a)):
  D7 197 #[Ey x,Z ci,pv p] w Ep (DY w):=by
 have⟨x9,c0,c2,⟨l0,l1,_,_,_,_,_,_,_,_,_⟩,hc,hl⟩:=h;have⟨s,cl,j,ln,k,A,pt,off,t,bd⟩:=p;simp only at e b;subst e;obtain⟨u,v,y,z⟩:0<=(ci:Int)/\(ci:Int)<n/\0<=(li:Int)/\(li:Int)<f:=U;have⟨o,m,i⟩:=Va x9 c0 l0;clear hc hl;rcases b with a|⟨a,c⟩|⟨a,c,d⟩
 .have q:(l.d != 1)=true:=by simpa using a
  clear a;exact adP
 .rw[a]at l1;have k2:(j != life)=true:=by simpa using c
  clear a c;exact adP
 .rw[a]at l1;subst c;have r:(k != l.a)=true:=by simpa using d
  clear a d;exact adP
theorem RM.acE(h:RM x v F G w)(d:∀k,F k->F' k)(f:∀k,F' k->k<w):RM x v F' G w:=by
 have⟨g,l,m⟩:=h.A;refine⟨h.bx,h.e,h.f,h.zs,h.a,h.c.sG (DF.refl (λ_=>False) w) (λ_ _ _ q=>q) d,h.X,h.zc,h.cl,h.d,λi z hz=>?_,h.C,h.J,⟨d _ g,d _ l,d _ m⟩,λj e=>d j (h.rows j e),λi z hz=>⟨d _ (h.b i z hz).1,λj e=>⟨d _ ((h.b i z hz).2 j e).1,((h.b i z hz).2 j e).2⟩⟩,h.sL,h.inj,f⟩;have⟨o,a,b,c⟩:=h.ln i z hz;exact⟨o,a,b,λy n=>(c y n).keep (DF.refl (λ_=>False) w) (λ_ _ _ _ q=>q) d⟩
theorem Tk.h{z:R.Cl×CE}{a:List (R.Ln×Value)}(h:Tk x v F G w i c g cap z a):v.h[i]?=z.2.lb:=by
 unfold RV.h;rw[BP,h.hz];rfl
abbrev Qo(w:Aa)(lb k:Nat)(rt tr:Int):World:=(w.setCell (Y lb (k*11+9)) (Z rt)).setCell (Y lb (k*11+10)) (Z tr)
theorem RM.rest(h:RM x v F G w){k:Nat}{l:R.Ln}(hc:G.b[i]?=c)(hl:c.a[k]?=l)(q:l.d≠2){lb:Nat}(o:v.h[i]?=lb):∃m d,RM x m d (R.JS G i k) (Qo w lb k G.c.c G.c.e)/\D8 F d w (Qo w lb k G.c.c G.c.e)/\m.h=v.h:=by
 have⟨g,cap,z,r,a⟩:=h.at hc;have e:z.2.lb=lb:=by grind [Tk.h]
 subst e;have⟨f,p,_⟩:=a.H hl q;have b:=GG f;have n:R.JS G i k=R.Eh G i k {l with C:=G.c.c,e:=G.c.e}:=by grind [R.JS,R.FH]
 rw[n];refine h.M5 hc a (l':={l with C:=G.c.c,e:=G.c.e}) (V':=Dz) (Rs.nil w F p) ((Eg _).trans (Eg _)) ?_;have s1:=FL (l1:={l with C:=G.c.c}) a.lb f (j:=9) (u:=Z G.c.c) U I;have s2:=FL (l:={l with C:=G.c.c}) (l1:={l with C:=G.c.c,e:=G.c.e}) s1 (AO b) (j:=10) (u:=Z G.c.e) U I;rw[A5]at s2;exact s2
structure EK(w:Aa)(x lb:Nat)(rt tr:Int):Prop where
 x2:w.cell? (Y x 2)=some (Z rt)
 x3:w.cell? (Y x 3)=some (Z tr)
 ne:lb≠x
 z:∀o,w.frozen? (Y lb o)=false
 lt:lb<w.heap.size
theorem RM.FX(h:RM x v F G w)(hc:G.b[i]?=c){lb:Nat}(b:v.h[i]?=lb):EK w x lb G.c.c G.c.e:=by
 have⟨g,cap,z,d,a⟩:=h.at hc;have e:z.2.lb=lb:=by grind [Tk.h]
 subst e;exact⟨EI h.bx 2,EI h.bx 3,λe=>ES a.lb (e ▸ h.bx) Em I,λo=>Eb a.lb,Dv a.lb⟩
theorem RM.abb(h:RM x v F G w){k:Nat}(hc:G.b[i]?=c)(hl:c.a[k]?=l)(p:l.d≠2){lb:Nat}(o:v.h[i]?=lb)(n:j<11)(e:Ui (l',Dz)=(Ui (l,Dz)).set j u)(b:l'.D=[]):∃f d,RM x f d (R.Eh G i k l') (w.setCell (Y lb (k*11+j)) u)/\D8 F d w (w.setCell (Y lb (k*11+j)) u)/\f.h=v.h:=by
 have⟨g,cap,z,s,a⟩:=h.at hc;have m:z.2.lb=lb:=by grind [Tk.h]
 subst m;have⟨q,r,_⟩:=a.H hl p;exact h.M5 hc a (l':=l') (V':=Dz) (Rs.nil w F b) (Eg _) (FL a.lb q n e)
theorem XK(w:Aa)(x ci li g n cap lb o:Nat)life(l:R.Ln)(p:Pk)(z:Ab)A(a:World->Prop)(k:p.H=li)(h:kC w x ci li g n cap lb o life l)(j:l.d=1)(f:p.b=life)(b:p.a=l.a)(hk:p.J=2)(hn:¬p.Ez=l.X)
  (d:Hid (∀W,D7 193 #[.string (str l.b),Z 0] W (.tuple #[.string z,Z A]) λi=>i=W))
  (r:Hid (∀W,DY w W->a W)):
  D7 197 #[Ey x,Z ci,pv p] w Ep λi=>a i:=by
 obtain⟨x9,c0,c2,⟨l0,l1,_,l3,l4,l5,l6,l7,l8,l9,l10⟩,hc,hl⟩:=h;obtain⟨J,cl,m,ln,q,S,pt,off,M,bd⟩:=p;simp only at k f b hk hn;subst k;subst f;rw[<-b]at l0;clear b;rw[j]at l1;have N:0<=(ci:Int):=U;have O:(ci:Int)<n:=U;have P:0<=(li:Int):=U;have Q:(li:Int)<o:=U;obtain⟨F,E,e⟩:=Va x9 c0 l0;have D:(q != q)=false:=Ev;have t:(m != m)=false:=Ev;clear hc hl j;subst hk
 delta D7
 go_in
 go_wp2_with fail
 go_quiet (fail);go_wp2_with fail
 go_quiet (fail);refine EE (E3 w w _) ((JJ).drewN _) ?_;intro W c;obtain⟨b0,B,C⟩:=TH c.2 0 3 6;have u:=Dv c.2;have G:=(c.1.cell (p:=Y lb _) e).trans l5;have H:=(c.1.cell (p:=Y lb _) e).trans l6;have v:lb<W.heap.size:=U;have y:x<W.heap.size:=U;have K:¬lb=w.heap.size:=U;have L:¬w.heap.size=lb:=U;have s:=Dx c;clear c;go_wp2_with (first|(go_at_call 193;refine cs (d _) ?_))
 go_quiet (fail);go_wp2_with fail
 go_returns;exact⟨I,r _ (Ed s.1 _)⟩
theorem ZW(w:Aa)(x ci li g n cap lb r:Nat)life(l:R.Ln)(p:Pk)(C:Ab)D(c:World->Prop)(o:p.H=li)(h:kC w x ci li g n cap lb r life l)(m:l.d=1)(f:p.b=life)(d:p.a=l.a)(rt t:Int)(hk:p.J=4)
  (H220:Hid (∀W,D7 193 #[.string (str l.b),Z 0] W (.tuple #[.string C,Z D]) λi=>i=W))
  (j:Hid (∀W,DY w W->EK W x lb rt t/\∀k,Below W (Qo W lb li rt t) k->c k)):
  D7 197 #[Ey x,Z ci,pv p] w Ep λi=>c i:=by
 obtain⟨x9,c0,c2,⟨l0,l1,_,l3,l4,l5,l6,l7,l8,l9,l10⟩,hc,hl⟩:=h;obtain⟨P,cl,q,ln,s,ud,pt,off,T,bd⟩:=p;simp only at o f d hk;subst o;subst f;rw[<-d]at l0;clear d;rw[m]at l1;have X:0<=(ci:Int):=U;have q1:(ci:Int)<n:=U;have q2:0<=(li:Int):=U;have q3:(li:Int)<r:=U;obtain⟨L,K,b⟩:=Va x9 c0 l0;have J:(s != s)=false:=Ev;have u:(q != q)=false:=Ev;clear hc hl m;subst hk
 delta D7
 go_in
 go_wp2_with fail
 go_quiet (fail);go_wp2_with fail
 go_quiet (fail);refine EE (E3 w w _) ((JJ).drewN _) ?_;intro W a;obtain⟨b0,G,H⟩:=TH a.2 0 3 6;have v:=Dv a.2;have M:=(a.1.cell (p:=Y lb _) b).trans l5;have N:=(a.1.cell (p:=Y lb _) b).trans l6;have y:lb<W.heap.size:=U;have A:x<W.heap.size:=U;have Q:¬lb=w.heap.size:=U;have S:¬w.heap.size=lb:=U;have O:=(a.1.cell (p:=Y lb _) b).trans l9;have B:=(a.1.cell (p:=Y lb _) b).trans l10;obtain⟨⟨x2,x3,ne,z,lt⟩,HF⟩:=j W a.1;have n1:=ne;have n2:¬x=lb:=λe=>ne e.symm
 have z9:=z (li*11+9);have E:=z (li*11+10);obtain⟨HFF,F⟩:=FU HF a;clear a z ne HF j;exact ab4
theorem ZX(w:Aa)(x ci li g n cap lb s:Nat)life(l:R.Ln)(p:Pk)(B:Ab)C(a:World->Prop)(q:p.H=li)(h:kC w x ci li g n cap lb s life l)(m:l.d=1)(e:p.b=life)(d:p.a=l.a)(hk:p.J=7)(i:0<=p.Ez/\p.Ez<=9)
  (H220:Hid (∀W,D7 193 #[.string (str l.b),Z 0] W (.tuple #[.string B,Z C]) λj=>j=W))
  (f:Hid (∀W,DY w W->(∀o,DJ W lb o)/\∀k,Below W (W.setCell (Y lb (li*11+1)) (Z (4+p.Ez))) k->a k)):
  D7 197 #[Ey x,Z ci,pv p] w Ep λj=>a j:=by
 obtain⟨x9,c0,c2,⟨l0,l1,_,l3,l4,l5,l6,l7,l8,l9,l10⟩,hc,hl⟩:=h;obtain⟨M,cl,r,ln,t,ud,pt,off,P,bd⟩:=p;simp only at q e d hk i f;subst q;subst e;rw[<-d]at l0;clear d;rw[m]at l1;have Q:0<=(ci:Int):=U;have S:(ci:Int)<n:=U;have T:0<=(li:Int):=U;have X:(li:Int)<s:=U;obtain⟨H,G,c⟩:=Va x9 c0 l0;have F:(t != t)=false:=Ev;have u:(r != r)=false:=Ev;clear hc hl m;subst hk;have e4:IntKind.i64.wrap (4+pt)=4+pt:=Iz
 delta D7
 go_in
 go_wp2_with fail
 go_quiet (fail);go_wp2_with fail
 go_quiet (fail);refine EE (E3 w w _) ((JJ).drewN _) ?_;intro W b;obtain⟨b0,D,E⟩:=TH b.2 0 3 6;have v:=Dv b.2;have K:=(b.1.cell (p:=Y lb _) c).trans l5;have L:=(b.1.cell (p:=Y lb _) c).trans l6;have y:lb<W.heap.size:=U;have A:x<W.heap.size:=U;have N:¬lb=w.heap.size:=U;have O:¬w.heap.size=lb:=U;have J:=(b.1.cell (p:=Y lb _) c).trans l1;obtain⟨z,HF⟩:=f W b.1;have z1:=z (li*11+1);have HFF:=Dx HF;clear b z HF f;exact ab4
theorem ZV(w:Aa)(x ci li g n cap lb A:Nat)life(l:R.Ln)(p:Pk)(P:Ab)B(a:World->Prop)(m:p.H=li)(h:kC w x ci li g n cap lb A life l)(v:l.d=1)(k:p.b=life)(d:p.a=l.a)(rt D:Int)(Q:World->Prop)(hk:p.J=2)(hn:p.Ez=l.X)(J:0<=l.X/\l.X<=9)(hm:l.X+1<B)
  (f:Hid (∀W,D7 193 #[.string (str l.b),Z 0] W (.tuple #[.string P,Z B]) λq=>q=W))
  (s:Hid (∀W,DY w W->(∀o,DJ W lb o)))
  (E:Hid (∀W,Below w (w.setCell (Y lb (li*11+6)) (Z (l.X+1))) W->D7 129 #[Ey x,Z ci,Z li,DI] W Ep λq=>Q q))
  (t:Hid (∀j,Q j->EK j x lb rt D/\xX j lb li {l with X:=l.X+1}/\∀u,Below j (Qo j lb li rt D) u->a u)):
  D7 197 #[Ey x,Z ci,pv p] w Ep λq=>a q:=by
 obtain⟨x9,c0,c2,⟨l0,l1,_,l3,l4,l5,l6,l7,l8,l9,l10⟩,hc,hl⟩:=h;obtain⟨kd,cl,y,ln,C,ud,pt,off,pl,bd⟩:=p;simp only at m k d hk hn;subst m;subst k;rw[<-d]at l0;clear d;rw[v]at l1;have q0:0<=(ci:Int):=U;have q1:(ci:Int)<n:=U;have q2:0<=(li:Int):=U;have q3:(li:Int)<A:=U;obtain⟨hx,hg,c⟩:=Va x9 c0 l0;have ef:(C != C)=false:=Ev;have G:(y != y)=false:=Ev;clear hc hl v;subst hk;subst hn;have e4:IntKind.i64.wrap (l.X+1)=l.X+1:=Iz;clear J
 delta D7
 go_in
 go_wp2_with fail
 go_quiet (fail);go_wp2_with fail
 go_quiet (fail);refine EE (E3 w w _) ((JJ).drewN _) ?_;intro W b;obtain⟨b0,b3,b6⟩:=TH b.2 0 3 6;have H:=Dv b.2;have k5:=(b.1.cell (p:=Y lb _) c).trans l5;have k6:=(b.1.cell (p:=Y lb _) c).trans l6;have K:lb<W.heap.size:=U;have M:x<W.heap.size:=U;have m1:¬lb=w.heap.size:=U;have m2:¬w.heap.size=lb:=U;have z6:=s W b.1 (li*11+6);have F:=Dx (b.set (i:=li*11+6) c (Z (l.X+1)));clear b s;go_wp2_with (first|(go_at_call 193;refine cs (f _) ?_))
 go_quiet (fail);go_wp2_with (first|(go_at_call 129;refine cm (E _ (Ed F.1 _)) λS m=>?_;obtain⟨⟨x2,x3,ne,z,lt⟩,⟨m0,O,_,m3,m4,m5,m6,m7,m8,m9,N⟩,HF⟩:=t S m;have n1:¬lb=x:=ne;have n2:¬x=lb:=λe=>ne e.symm;have z9:=z (li*11+9);have T:=z (li*11+10);have L:=Gv x2;have r:=Dx HF;clear m z ne HF t))
 go_returns;exact⟨I,r _ (AA _ _)⟩
theorem ZU(w:Aa)(x ci li g n cap lb t:Nat)life(l:R.Ln)(p:Pk)(G:Ab)u(c:World->Prop)(r:p.H=li)(h:kC w x ci li g n cap lb t life l)(q:l.d=1)(i:p.b=life)(d:p.a=l.a)(rt y:Int)(hk:p.J=2)(hn:p.Ez=l.X)(C:0<=l.X/\l.X<=9)(O:¬l.X+1<u)
  (f:Hid (∀W,D7 193 #[.string (str l.b),Z 0] W (.tuple #[.string G,Z u]) λk=>k=W))
  (m:Hid (∀W,DY w W->EK W x lb rt y/\∀o,Below W (Qo (W.setCell (Y lb (li*11+6)) (Z (l.X+1))) lb li rt y) o->c o)):
  D7 197 #[Ey x,Z ci,pv p] w Ep λk=>c k:=by
 obtain⟨x9,c0,c2,⟨l0,l1,_,l3,l4,l5,l6,l7,l8,l9,l10⟩,hc,hl⟩:=h;obtain⟨X,cl,s,ln,v,ud,pt,off,pl,bd⟩:=p;simp only at r i d hk hn;subst r;subst i;rw[<-d]at l0;clear d;rw[q]at l1;have q0:0<=(ci:Int):=U;have q1:(ci:Int)<n:=U;have q2:0<=(li:Int):=U;have q3:(li:Int)<t:=U;obtain⟨P,N,b⟩:=Va x9 c0 l0;have M:(v != v)=false:=Ev;have A:(s != s)=false:=Ev;clear hc hl q;subst hk;subst hn;have e4:IntKind.i64.wrap (l.X+1)=l.X+1:=Iz;clear C
 delta D7
 go_in
 go_wp2_with fail
 go_quiet (fail);go_wp2_with fail
 go_quiet (fail);refine EE (E3 w w _) ((JJ).drewN _) ?_;intro W a;obtain⟨b0,K,L⟩:=TH a.2 0 3 6;have B:=Dv a.2;have Q:=(a.1.cell (p:=Y lb _) b).trans l5;have S:=(a.1.cell (p:=Y lb _) b).trans l6;have D:lb<W.heap.size:=U;have E:x<W.heap.size:=U;have m1:¬lb=w.heap.size:=U;have m2:¬w.heap.size=lb:=U;have T:=(a.1.cell (p:=Y lb _) b).trans l9;have F:=(a.1.cell (p:=Y lb _) b).trans l10;obtain⟨⟨x2,x3,ne,z,lt⟩,HF⟩:=m W a.1;have n1:=ne;have n2:¬x=lb:=λe=>ne e.symm
 have z6:=z (li*11+6);have z9:=z (li*11+9);have H:=z (li*11+10);obtain⟨j,J⟩:=FU HF a;clear a z ne HF m;go_wp2_with (first|(go_at_call 193;refine cs (f _) ?_))
 go_quiet (fail);go_wp2_with fail
 go_returns;exact⟨I,j _ (Ed (AA _ _) _)⟩
theorem fW(w:Aa)(x ci li g n cap lb D:Nat)life(l:R.Ln)(p:Pk)(O:Ab)P(a:World->Prop)(i:p.H=li)(h:kC w x ci li g n cap lb D life l)(B:l.d=1)(q:p.b=life)(k:p.a=l.a)(rt F:Int)(b:Bool)(Q:World->Prop)(hk:p.J=5)
  (d:Hid (∀W,D7 193 #[.string (str l.b),Z 0] W (.tuple #[.string O,Z P]) λr=>r=W))
  (v:Hid (∀W,DY w W->D7 244 #[Ey x,Z ci,pv p] W (.bool b) λr=>Q r))
  (HF:Hid (b=false->∀c,Q c->a c))
  (t:Hid (b=true->∀c,Q c->EK c x lb rt F/\(∃u,EB c lb (li*11+9) u)/\(∃u,EB c lb (li*11+10) u)/\∀A,Below c (Qo c lb li rt F) A->a A)):
  D7 197 #[Ey x,Z ci,pv p] w Ep λr=>a r:=by
 obtain⟨x9,c0,c2,⟨l0,l1,_,l3,l4,l5,l6,l7,l8,l9,l10⟩,hc,hl⟩:=h;obtain⟨kd,cl,C,ln,E,ud,pt,off,pl,bd⟩:=p;simp only at i q k hk v;subst i;subst q;rw[<-k]at l0;clear k;rw[B]at l1;have q0:0<=(ci:Int):=U;have q1:(ci:Int)<n:=U;have q2:0<=(li:Int):=U;have q3:(li:Int)<D:=U;obtain⟨hx,hg,o⟩:=Va x9 c0 l0;have ef:(E != E)=false:=Ev;have H:(C != C)=false:=Ev;clear hc hl B;subst hk
 delta D7
 go_in
 go_wp2_with fail
 go_quiet (fail);go_wp2_with fail
 go_quiet (fail);refine EE (E3 w w _) ((JJ).drewN _) ?_;intro W f;obtain⟨b0,b3,b6⟩:=TH f.2 0 3 6;have J:=Dv f.2;have k5:=(f.1.cell (p:=Y lb _) o).trans l5;have k6:=(f.1.cell (p:=Y lb _) o).trans l6;have K:lb<W.heap.size:=U;have M:x<W.heap.size:=U;have m1:¬lb=w.heap.size:=U;have m2:¬w.heap.size=lb:=U;obtain⟨T,X,b4,b5,b7⟩:=bC f.2 1 2 4 5 7;obtain⟨b8,b9⟩:=VL f.2 8 9;have y:=Dx (v W f.1);clear f v;cases b with
 |false=>
  have j:=Dx (HF I);clear HF t;go_wp2_with (first|(go_at_call 193;refine cs (d _) ?_)|(go_at_call 244;refine cm y λG i=>?_;have s:=Dx i;clear i))
  go_returns;exact⟨I,j _ (Dw s)⟩
 |true=>
  have m:=Dx (t I);clear HF t;go_wp2_with (first|(go_at_call 193;refine cs (d _) ?_)|(go_at_call 244;refine cm y λG i=>?_;obtain⟨⟨x2,x3,ne,z,lt⟩,⟨u9,m9⟩,⟨u10,N⟩,HF⟩:=m G i;have n1:¬lb=x:=ne;have n2:¬x=lb:=λe=>ne e.symm;have z9:=z (li*11+9);have S:=z (li*11+10);have L:=Gv x2;have j:=Dx HF;clear i z ne HF m))
  go_returns;exact⟨I,j _ (AA _ _)⟩
namespace V
variable {v:List It}{l l':List UInt8}{O O1:Value}{w1:World}
abbrev triple(O:Ad)(S:Ab)(b:Bool):Ending:=.returned (.tuple #[O,.string S,.bool b])
def Sd(A:World->Prop)(B:Value->ByteArray->World->Prop)(e:Ending)(w:Aa):Prop:=(∃O S,e=triple O S false/\A w)\/∃O S,e=triple O S true/\B O S w
theorem UE(s:Ab)(p n:Nat)(S:Ab)(O:Ad)(w:Aa)(A:World->Prop)(Iq:Nat->Value->ByteArray->World->Prop)(hp:p<s.size)(hg:nx s p=97\/nx s p=114)(hn:n<=9)
  (d:Iq 0 O S w) (a:∀k O S w f,Iq k O S w->DY w f->Iq k O S f)
  (b:∀w,D7 230 #[.string s,Z p] w (Z n) (DY w))
  (c:∀k,k<n->∃q:Nat,(∀w,D7 231 #[.string s,Z p,Z k] w (Z q) (DY w)) /\
   ∀O S w,Iq k O S w->ET 182 #[.string s,Z q,.string S,O] w (Sd A (Iq (k+1)))):
  ET 182 #[.string s,Z p,.string S,O] w (Sd A (Iq n)):=by
 have⟨H1,H2,H0,HGO⟩:=bE b c d a;clear b c d a;have key:∀(t:Bool),t=(nx s p==97)->(t=true->((((s[p]).toNat:Nat):Int)==97)=true)/\(t=false->((((s[p]).toNat:Nat):Int)==97)=false/\((((s[p]).toNat:Nat):Int)==114)=true):=by
  exact acu
 cases ht:(nx s p==97) with
 |true=>
  have g:=(key true ht.symm).1 I;exact MY
 |false=>
  have⟨g,h⟩:=(key false ht.symm).2 I;exact MY
theorem Z4(s:Ab)(p:Nat)(S:Ab)(O:Ad)(w:Aa)(c:p<s)(b:¬nx s p=97)(a:¬nx s p=114)(d:¬2<=S.size):
  ET 182 #[.string s,Z p,.string S,O] w λe f=>e=triple O S false/\f=w:=by
 have h:((((s[p]).toNat:Nat):Int)==97)=false:=by rw[<-Gd c];simp;omega
 have i:((((s[p]).toNat:Nat):Int)==114)=false:=by rw[<-Gd c];simp;omega
 have g:(S.size:Int)<2:=U;clear b a d
 delta ET
 go_in
 go_wp2
 go_ret3
 exact DN
structure bM(S R:Ab)(n:Nat)(a c:UInt8):Prop where
 ge:2<=S.size
 i0:S[0]'(by omega)=a
 i1:S[1]'(by omega)=c
 num:wrap64 (wrap64 (256*wrap64 (a.toNat:Int))+wrap64 (c.toNat:Int))=(n:Int)
 rest:S.extract 2 S.size=R
theorem ags(a c:UInt8)(r:Ac):bM (str (a :: c :: r)) (str r) (E5 a c) a c:=by
 have e:=a.toNat_lt;have hc:=c.toNat_lt;refine⟨by rw[Er];simp,rfl,rfl,?_,?_⟩
 .have b:wrap64 (a.toNat:Int)=(a.toNat:Int):=NU;have d:wrap64 (c.toNat:Int)=(c.toNat:Int):=NU;rw[b,d];unfold wrap64 E5;omega
 grind [Ho,Er]
theorem gp(s:Ab)(p:Nat)(S R:Ab)(n:Nat)(a c:UInt8)(O:Ad)(w:Aa)(f:p<s)(b:nx s p=115)(h:bM S R n a c)(hno:14<n\/R<n+n % 2)(hn:n<65536):
  ET 182 #[.string s,Z p,.string S,O] w λe j=>e=triple O R false/\∃q,j=w.drewN q:=by
 have o:((((s[p]).toNat:Nat):Int)==97)=false:=by rw[<-Gd f];simp;omega
 have r:((((s[p]).toNat:Nat):Int)==114)=false:=by rw[<-Gd f];simp;omega
 have t:((((s[p]).toNat:Nat):Int)==115)=true:=by rw[<-Gd f];simp;omega
 have⟨i,i0,i1,l,e2⟩:=h;have k:¬(S.size:Int)<2:=U;clear b;by_cases g:14<n
 .have d:(14:Int)<n:=U;exact acn
 .have d:¬(14:Int)<n:=U;have m:(R.size:Int)<(n:Int)+(n:Int) % 2:=U;exact acn
structure IR(w0:Aa)(v:List It)(l:Ac)(O:Ad)(w:Aa):Prop where
 own:w.ownsRow w0.heap.size 73 2 O v.length (flat v)
 h:Below w0.heap.size w0 w
 len:v.length+l.length<=500
theorem IR.go(h:IR w0 v l O w)(a:DY w w'):IR w0 v l O w':=⟨ER h.own a,h.h.trans (a.mono h.h.size),h.len⟩
theorem IR.drewN(h:IR w0 v l O w)(q:Nat):IR w0 v l O (w.drewN q):=⟨h.own,Ed h.h q,h.len⟩
theorem Qg{x:It}(h:IR w0 v l O w)(hl:l'<l.length)(c:w1.ownsRow w0 73 2 O1 (v+1) (flat v++[Z x.1,.string x.2]))(b:(w.alloc o).grownBy w1 O.ownBlock):IR w0 (v++[x]) l' O1 w1:=by
 have f:=h.h.size;have d:(w.alloc o).heap.size=w.heap.size+1:=Ev;have e:=b.size;have a:∀k,O.ownBlock=some k->w0.heap.size<=k:=λk hk=>(h.own.lt k hk).1
 refine⟨?_,(h.h.alloc U o).grown b U (λk hk=>a k hk),?_⟩
 .grind [QS]
 .grind [IR]
theorem gq(s:Ab)(p:Nat)(S R X B:Ab)(n:Nat)(a c:UInt8)(O:Ad)(w w0:Aa)(v:List It)(l l':Ac)(q:p<s)(f:nx s p=115)(G:bM S R n a c)(F:n<=14)(D:n+n % 2<=R)(Q:R.extract 0 n=X)(h:R.extract (n+n % 2) R=B)(g:IR w0 v l O w)(i:l'<l.length):
  ET 182 #[.string s,Z p,.string S,O] w λe L=>∃m,e=triple m B true/\IR w0 (v++[(0,X)]) l' m L:=by
 have t1:((((s[p]).toNat:Nat):Int)==97)=false:=by rw[<-Gd q];simp;omega
 have t2:((((s[p]).toNat:Nat):Int)==114)=false:=by rw[<-Gd q];simp;omega
 have t3:((((s[p]).toNat:Nat):Int)==115)=true:=by rw[<-Gd q];simp;omega
 have⟨H,i0,i1,N,e2⟩:=G;obtain⟨M,C,P,J⟩:¬(S.size:Int)<2/\¬(14:Int)<n/\¬(R.size:Int)<(n:Int)+(n:Int) % 2/\n<=R.size:=U;have⟨j0,o,u,y,z⟩:=A1 LQ;have⟨T,on,W,r⟩:=Ei g.own;subst r;have how:=g.own;have⟨A,E⟩:=FU g i;have K:=g.len;have k:=Dx h;clear f g i h
 delta ET
 go_in
 go_wp2;go_quiet (fail);go_wp2_with (at_builtin;go_must (refine AQ _ I (.tmp 86) (.tmp 91) 37 I w0.heap.size 73 j0 _ 2 24 underlying37 o u y z I Em _ v.length (flat v) I (by exact World.ownsRow.alloc (w:=w.drewN _) how _) (EN w 0) 1 1 [Z 0,.string X] I I (by exact Jd (w.drewN _) (0,X)) (by exact KF (0,X)) JG U (by have:=A.h.size;simp;omega) ?_))
 intro m w2 d b _ _;have⟨ta,tn,tc,t⟩:=Ei d;subst t;have j:=Dx (Qg (x:=(0,X)) (A.drewN _) E d b);clear d b how;go_wp2;go_quiet (fail);go_wp2
 go_ret3
 rw[Dw k];exact⟨_,I,j.drewN _⟩
def KO(lo:Int)(n:Nat):Int:=if lo<0/\32767<n then n-65536 else n
theorem RU(lo:Int)(n:Nat):(lo<0/\(32767:Int)<n/\KO lo n=n-65536)\/(lo<0/\¬(32767:Int)<n/\KO lo n=n)\/(¬lo<0/\KO lo n=n):=by
 unfold KO;split<;>omega
theorem gm(s:Ab)(p:Nat)(S R:Ab)(n:Nat)(a c:UInt8)(O:Ad)(w:Aa)(lo hi m:Int)(k:p<s)(j:¬nx s p=97)(d:¬nx s p=114)(f:¬nx s p=115)(q:bM S R n a c)(hn:n<65536)(h:m=KO lo n)(t:hi<m)
  (l:∀w,D7 232 #[.string s,Z p] w (.tuple #[Z lo,Z hi]) (DY w)):
  ET 182 #[.string s,Z p,.string S,O] w λe u=>e=triple O R false/\DY w u:=by
 have y:((((s[p]).toNat:Nat):Int)==97)=false:=by rw[<-Gd k];simp;omega
 have z:((((s[p]).toNat:Nat):Int)==114)=false:=by rw[<-Gd k];simp;omega
 have A:((((s[p]).toNat:Nat):Int)==115)=false:=by rw[<-Gd k];simp;omega
 have⟨r,i0,i1,x,e2⟩:=q;have v:¬(S.size:Int)<2:=U;have i:=Dx l;have b:=RU lo n;rw[<-h]at b;clear j d f l h;rcases b with ⟨c1,c2,rfl⟩|⟨c1,c2,rfl⟩|⟨c1,rfl⟩;all_goals
  delta ET
  go_in
  go_wp2_with fail
  go_quiet (fail);go_wp2_with fail
  refine cm (i _) λB g=>?_
  have o:=Dx g;clear g;go_wp2
  go_ret3
  exact⟨I,(Ed (AA _ _) _).trans (Dw o)⟩
theorem gi(s:Ab)(p:Nat)(S R:Ab)(n:Nat)(a c:UInt8)(O:Ad)(w w0:Aa)(v:List It)(l l':Ac)(lo hi y:Int)(o:p<s)(t:¬nx s p=97)(g:¬nx s p=114)(h:¬nx s p=115)(i:¬nx s p=117)(f:¬nx s p=113)(B:bM S R n a c)(hn:n<65536)(m:y=KO lo n)(D:¬hi<y)(q:IR w0 v l O w)(k:l'<l.length)
  (z:∀w,D7 232 #[.string s,Z p] w (.tuple #[Z lo,Z hi]) (DY w)):
  ET 182 #[.string s,Z p,.string S,O] w λe F=>∃O1,e=triple O1 R true/\IR w0 (v++[(y,⟨#[]⟩)]) l' O1 F:=by
 have L:((((s[p]).toNat:Nat):Int)==97)=false:=by rw[<-Gd o];simp;omega
 have M:((((s[p]).toNat:Nat):Int)==114)=false:=by rw[<-Gd o];simp;omega
 have N:((((s[p]).toNat:Nat):Int)==115)=false:=by rw[<-Gd o];simp;omega
 have P:((((s[p]).toNat:Nat):Int)==117)=false:=by rw[<-Gd o];simp;omega
 have Q:((((s[p]).toNat:Nat):Int)==113)=false:=by rw[<-Gd o];simp;omega
 have⟨C,i0,i1,H,e2⟩:=B;have G:¬(S.size:Int)<2:=U;have r:=Dx z;have b:=RU lo n;rw[<-m]at b;have⟨j0,hj0,hz0,hz1,hz2⟩:=A1 LQ;have⟨J,on,K,u⟩:=Ei q.own;subst u;have⟨A,HL⟩:=FU q k;have E:=q.len;clear t g h i f z m q k;rcases b with ⟨c1,c2,rfl⟩|⟨c1,c2,rfl⟩|⟨c1,rfl⟩;all_goals
  delta ET
  go_in
  go_wp2_with fail
  go_quiet (fail);go_wp2_with fail
  refine cm (r _) λw1 j=>?_
  have d:=(A.drewN _).go j;have how:=d.own;have HI1:=Dx d;clear j d
 .go_wp2_with (at_builtin;go_must (refine AQ _ I (.tmp 119) (.tmp 122) 37 I w0.heap.size 73 j0 _ 2 24 underlying37 hj0 hz0 hz1 hz2 I Em _ v.length (flat v) I (by exact how.alloc _) (EN w1 0) 1 1 [Z ((n:Int)-65536),.string ⟨#[]⟩] I I (by exact Jd w1 ((n:Int)-65536,⟨#[]⟩)) (by exact KF ((n:Int)-65536,⟨#[]⟩)) JG U (by have:=HI1.h.size;simp;omega) ?_))
  intro O1 w2 hown hgrow _ _;have⟨ta,tn,tc,hts⟩:=Ei hown;subst hts;have HI2:=Dx (Qg (x:=((n:Int)-65536,⟨#[]⟩)) HI1 HL hown hgrow);clear hown hgrow how;go_wp2;go_loopw [2,3,11,17] (λsv ov okv kv wr=>sv=.string R/\ov=.slice ta tn tc/\okv=DC/\kv=Z 0/\wr=w2) (λ_ _ _ _ _=>0)
  case atStart=>exact⟨I,I,I,I,I⟩
  case round=>
   obtain⟨rfl,rfl,rfl,rfl,rfl⟩:=hrel;go_wp2
   go_ret3
   exact⟨_,I,HI2⟩
 .exact afh
 .exact afh
theorem aae(s:Ab)(p q:Nat)(S R:Ab)(n:Nat)(a c:UInt8)(O:Ad)(w w0:Aa)(v:List It)(l l':Ac)hi(A:World->Prop)(B:Value->ByteArray->World->Prop)(r:p<s)(h:nx s p=117)(hT:bM S R n a c)(_hn:n<65536)(ab:¬hi<(n:Int))(o:IR w0 v l O w)(k:l'<l.length)
  (K:∀w,D7 232 #[.string s,Z p] w (.tuple #[Z 0,Z hi]) (DY w))
  (L:∀w,D7 233 #[.string s,Z p,Z n] w (Z q) (DY w))
  (M:∀C m,IR w0 (v++[((n:Int),⟨#[]⟩)]) l' C m->ET 182 #[.string s,Z q,.string R,C] m (Sd A B)):
  ET 182 #[.string s,Z p,.string S,O] w (Sd A B):=by
 have t1:((((s[p]).toNat:Nat):Int)==97)=false:=by rw[<-Gd r];simp;omega
 have t2:((((s[p]).toNat:Nat):Int)==114)=false:=by rw[<-Gd r];simp;omega
 have t3:((((s[p]).toNat:Nat):Int)==115)=false:=by rw[<-Gd r];simp;omega
 have t4:((((s[p]).toNat:Nat):Int)==117)=true:=by rw[<-Gd r];simp;omega
 have⟨aa,i0,i1,hN,e2⟩:=hT;have h2:¬(S.size:Int)<2:=U;have⟨u,y,z⟩:=Ll K L M;have⟨j0,D,G,H,J⟩:=A1 LQ;have⟨oa,on,oc,E⟩:=Ei o.own;subst E;have⟨W,X⟩:=FU o k;have ac:=o.len;clear h K L M o k
 delta ET
 go_in
 go_wp2_with fail
 go_quiet (fail);go_wp2_with fail
 refine cm (u _) λm i=>?_
 have f:=(W.drewN _).go i;have how:=f.own;have g:=Dx f;clear i f;go_wp2_with (at_builtin;go_must (refine AQ _ I (.tmp 119) (.tmp 122) 37 I w0.heap.size 73 j0 _ 2 24 underlying37 D G H J I Em _ v.length (flat v) I (by exact how.alloc _) (EN m 0) 1 1 [Z n,.string ⟨#[]⟩] I I (by exact Jd m ((n:Int),⟨#[]⟩)) (by exact KF ((n:Int),⟨#[]⟩)) JG U (by have:=g.h.size;simp;omega) ?_))
 intro C w2 d b _ _;have⟨ta,tn,tc,F⟩:=Ei d;subst F;have t:=Dx (Qg (x:=((n:Int),⟨#[]⟩)) g X d b);clear d b how;go_wp2_with fail
 refine cm (y _) λw3 j=>?_
 have T:=Dx (z _ _ (t.go j));clear j;go_wp2_with fail
 refine T.mono ?_;rintro e w4 (⟨O3,S3,rfl,N⟩|⟨O3,S3,rfl,hB⟩)
 .have P:=Dx N;clear N;go_wp2
  go_ret3
  exact Aj ⟨_,_,I,P⟩
 .have Q:=Dx hB;clear hB;go_wp2
  go_ret3
  exact Am ⟨_,_,I,Q⟩
theorem aad(s:Ab)(p:Nat)(S R:Ab)(n:Nat)(a c:UInt8)(O:Ad)(w w0:Aa)(v:List It)(l l':Ac)hi(A:World->Prop)(i:Nat->Value->ByteArray->World->Prop)(u:p<s)(hs:s.size<=40)(j:nx s p=113)(hT:bM S R n a c)(hn:n<65536)(ak:¬hi<(n:Int))(C:IR w0 v l O w)(r:l'<l.length)
  (HM:∀w,D7 232 #[.string s,Z p] w (.tuple #[Z 0,Z hi]) (DY w))
  (H0:∀K z,IR w0 (v++[((n:Int),⟨#[]⟩)]) l' K z->i 0 K R z)
  (HK:∀k O S w,k<n->i k O S w->ET 182 #[.string s,Z ((p:Int)+2),.string S,O] w (Sd A (i (k+1)))):
  ET 182 #[.string s,Z p,.string S,O] w (Sd A (i n)):=by
 have t1:((((s[p]).toNat:Nat):Int)==97)=false:=by rw[<-Gd u];simp;omega
 have t2:((((s[p]).toNat:Nat):Int)==114)=false:=by rw[<-Gd u];simp;omega
 have t3:((((s[p]).toNat:Nat):Int)==115)=false:=by rw[<-Gd u];simp;omega
 have t4:((((s[p]).toNat:Nat):Int)==117)=false:=by rw[<-Gd u];simp;omega
 have t5:((((s[p]).toNat:Nat):Int)==113)=true:=by rw[<-Gd u];simp;omega
 have aa:p<40:=U;have⟨ah,i0,i1,hN,e2⟩:=hT;have h2:¬(S.size:Int)<2:=U;have⟨J,H,D⟩:=Ll HM HK H0;have⟨j0,N,T,W,X⟩:=A1 LQ;have⟨oa,on,oc,P⟩:=Ei C.own;subst P;have⟨HI,HL⟩:=FU C r;have al:=C.len;clear j HM HK H0 C r
 delta ET
 go_in
 go_wp2_with fail
 go_quiet (fail);go_wp2_with fail
 refine cm (J _) λz q=>?_
 have g:=(HI.drewN _).go q;have how:=g.own;have h:=Dx g;clear q g;go_wp2_with (at_builtin;go_must (refine AQ _ I (.tmp 119) (.tmp 122) 37 I w0.heap.size 73 j0 _ 2 24 underlying37 N T W X I Em _ v.length (flat v) I (by exact how.alloc _) (EN z 0) 1 1 [Z n,.string ⟨#[]⟩] I I (by exact Jd z ((n:Int),⟨#[]⟩)) (by exact KF ((n:Int),⟨#[]⟩)) JG U (by have:=h.h.size;simp;omega) ?_))
 intro K w2 d b _ _;have⟨ta,tn,tc,Q⟩:=Ei d;subst Q;have E:=Dx (D _ _ (Qg (x:=((n:Int),⟨#[]⟩)) h HL d b));clear d b how;go_wp2;go_loopw [2,3,11,17] (λsv ov y kv wr=>∃(k:Nat) (L:Ab),k<=n/\kv=Z k/\sv=.string L/\((y=DC/\i k ov L wr)\/(y=DI/\A wr))) (λ_ _ _ kv _=>n-(intOf kv).toNat)
 case atStart=>exact⟨0,_,AV _,I,I,Aj ⟨I,E⟩⟩
 case round=>
  obtain⟨k,L,hk,rfl,rfl,hrel⟩:=hrel;rcases hrel with ⟨rfl,f⟩|⟨rfl,m⟩
  .by_cases t:k<n
   .have HC:=Dx (H k _ _ _ t f);clear f;go_wp2_with fail
    refine HC.mono ?_;rintro e w3 (⟨O3,M,rfl,m⟩|⟨O3,M,rfl,o⟩)
    .have B:=Dx m;clear m;go_wp2;go_roundw
     case rel=>exact⟨k+1,M,U,Kc,I,Am ⟨I,B⟩⟩
     case measure=>exact Kt
    .have F:=Dx o;clear o;go_wp2;go_roundw
     case rel=>exact⟨k+1,M,U,Kc,I,Aj ⟨I,F⟩⟩
     case measure=>exact Kt
   .obtain rfl:k=n:=U;have G:=Dx f;clear f;go_wp2
    go_ret3
    exact Am ⟨_,_,I,G⟩
  .have B:=Dx m;clear m;by_cases t:k<n
   .go_wp2
    go_ret3
    exact Aj ⟨_,_,I,B⟩
   .go_wp2
    go_ret3
    exact Aj ⟨_,_,I,B⟩
end V
end Go.Proofs.YtblomippkddgiabGreatDoor
