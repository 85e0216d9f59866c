import Derived.Test.YtblomippkddgiaaGreatDoorJ18
set_option maxRecDepth 100000
set_option maxHeartbeats 4000000
namespace Go.Proofs.YtblomippkddgiaaGreatDoor
open Go.Proofs.Tryz
open Go.RowKit
variable {a:Act}{J:Act→World→Prop}{Q:Exit→Act→World→Prop}{F:D9}{x:J7}{xs:List J7}{EF:List R.Jb}{b i j k n s:Nat}{p:Pl}{c:R.Cl}{l:R.Ln}{r':R.Sn}{G:R.Wd}{y y':PR}{t:SP}{O v:Value}{w w' wr:World}
def Tn(G:R.Wd)(i k:Nat)(l:R.Ln):R.Wd:=if l.Ea<R.DL l.DC then R.EG G i k true else R.Lq G i k
theorem LW.Ga(h:LW p F G w)(hc:G.DI[i]?=some c)(hl:c.DV[k]?=some l)(h1:l.DK=1):
  D7 122 #[ptr (p.cb i),Z k] w Ep λw'=>∃X,LW p X (Tn G i k l) w'/\D8 F X w w':=by
 obtain⟨xs,x,hL,hR,hx,aw,aq,b7,ao⟩:=h.DZ hc hl;obtain⟨ra,rn,rc,av⟩:=Lc ao;have an:=P4 h hc;have hk:=GG hl;obtain⟨bp,bq⟩:=KM an.a0 aq.a0;obtain⟨z1,z2,ac,aV,z3⟩:=(((h.wf.cl i c hc).DZ k l hl)).one h1;obtain⟨z4,em,ea,z5⟩:=aw.one h1;obtain⟨m,g⟩:∃m:World->Prop,∀f,m f↔∃X,LW p X (Tn G i k l) f/\D8 F X w f:=⟨_,λ_=>Iff.rfl⟩;suffices hq:D7 122 #[ptr (p.cb i),Z k] w Ep λw'=>m w' from hq.mono (λe w' h=>⟨h.1,(g w').1 h.2⟩)
 have aS:Hid (l.Ea<R.DL l.DC->∀w',DY w w'->D7 112 #[ptr (p.cb i),Z k,.bool true] w' Ep λf=>m f):=λu w' hb=>by
  refine cm ((h.DG hb).piece hc hl h1 u true) ?_;rintro f ⟨X,q1,q2⟩;refine⟨rfl,(g f).2 ⟨X,?_,(D8.D6 F hb).trans q2⟩⟩;rw[Tn,Ay u];exact q1
 have ak:Hid (¬l.Ea<R.DL l.DC->∀w',DY w w'->D7 188 #[ptr (p.cb i),Z k,S9 3 0 0 0 0 0 0 1 true (str [])] w' Ep λf=>m f):=λu w' hb=>by
  have ar:=R.Ow h.wf hc hl h1;rw[Uw hc]at ar;refine cm ((h.DG hb).vx hc hl h1 3 0 1 true [] ar) ?_;rintro f ⟨X,q1,q2⟩;refine⟨rfl,(g f).2 ⟨X,?_,(D8.D6 F hb).trans q2⟩⟩;rw[Tn,Ao u,R.V4 (R.FH hc hl),Uw hc];exact q1
 rw[show str []=(⟨#[]⟩:Ab) from rfl]at ak;have HP:=Dx (λw=>IC l.DC w U);clear g;obtain⟨a0,a1,a2,a3,a4,a5,a6,a7,a8,a9⟩:=aq;obtain⟨b0,b1,b2,b3,b4,b5,b6⟩:=an;rw[av]at a2;rw[em]at a5;rw[ea]at a6;generalize str l.DC=SM at *;have br:1<=R.DL l.DC/\R.DL l.DC<=9:=⟨R.ID ac.1,R.IV ac.2⟩;generalize R.DL l.DC=P at *;generalize l.Ea=a at *;generalize c.DV.length=nl at *;generalize p.cb i=cb at *;generalize p.lb i=lb at *;obtain⟨aN,az,bt,ab,D,bi,be,B,T,M⟩:=x;simp only at a0 a1 a3 a4 a7 a8 a9;clear h hL hR hx aw hc hl h1 em ea aV ac z1 z2 z3 z4 z5 b7 ao av;obtain⟨LX,aa⟩:∃LX,w.alloc (.cells #[Z aN,Z az,.slice ra rn rc,Z ab,Z D,.string SM,Z a,.string (str B),Z T,Z M] 139)=LX:=⟨_,rfl⟩;have HB:Hid (DY w LX):=by
  rw[<-aa];exact ku
 have am:LX.heap[w.heap.size]?=some (.cells #[Z aN,Z az,.slice ra rn rc,Z ab,Z D,.string SM,Z a,.string (str B),Z T,Z M] 139 (0,0)):=by
  rw[<-aa];exact AF w _
 obtain⟨c4,c5⟩:=VL am 5 6;have ah:=Dx aa;clear aa am;by_cases u:a<P
 ·go_enter func122,ntmps122;go_wp2_with fail
  rw[Dw ah];go_region_held3 (λw'=>w'.cell? (EN w 5)=some (.string SM)/\w'.cell? (EN w 6)=some (Z a)) (go_keep) ((go_at_call 187;refine cs (HP _) ?_))
  go_wp2_with (first|(go_at_call 112;refine cm (aS u _ HB.drew) λw3 ad=>?_))
  go_returns;exact⟨rfl,ad⟩
 ·go_enter func122,ntmps122;go_wp2_with fail
  rw[Dw ah];go_region_held3 (λw'=>w'.cell? (EN w 5)=some (.string SM)/\w'.cell? (EN w 6)=some (Z a)) (go_keep) ((go_at_call 187;refine cs (HP _) ?_))
  go_wp2_with (first|(go_at_call 188;refine cm (ak u _ HB.drew) λw3 ad=>?_))
  go_returns;exact⟨rfl,ad⟩
theorem Eg{o:Nat}(v:Ad):DF (λk=>k=b) w (w.setCell (Y b o) v):=DF.setCell (F:=λk=>k=b) (DF.refl _ w) (p:=Y b o) (Aj rfl) v
theorem GJ{x':J7}(h:w.heap[b]?=some (.cells (tab J7.cells xs).toArray 139 (0,0)))(e:xs[k]?=some x)(f:j<10)(g:x'.cells=x.cells.set j v):
  (w.setCell (Y b (k*10+j)) v).heap[b]?=some (.cells (tab J7.cells (xs.set k x')).toArray 139 (0,0))/\(xs.set k x')[k]?=some x':=by
 refine⟨by rw[Ek h,J6 J7.len xs k j x x' v e f g],?_⟩;rw[Bf];simp[(GG e)]
abbrev jZ(w:Aa)(b k:Nat)(x:J7):World:=(((((((((w.setCell (Y b (k*10)) (Z x.DK)).setCell (Y b (k*10+1)) (Z x.D4)).setCell (Y b (k*10+2)) x.rv).setCell (Y b (k*10+3)) (Z x.D5)).setCell (Y b (k*10+4)) (Z x.Eo)).setCell (Y b (k*10+5)) (.string (str x.J9))).setCell (Y b (k*10+6)) (Z x.Ea)).setCell (Y b (k*10+7)) (.string (str x.EK))).setCell (Y b (k*10+8)) (Z x.El)).setCell (Y b (k*10+9)) (Z x.DW)
theorem j5(h:w.heap[b]?=some (.cells (tab J7.cells xs).toArray 139 (0,0)))(hx:xs[k]?=some x)(x':J7):
  (jZ w b k x').heap[b]?=some (.cells (tab J7.cells (xs.set k x')).toArray 139 (0,0))/\DF (λq=>q=b) w (jZ w b k x'):=by
 have⟨st,sq,rv,u,pc,m,a,B,wt,T⟩:=x;have⟨e,f,g,X,D,m',a',M,aa,ad⟩:=x';have e0:=GJ (j:=0) (x':=⟨e,sq,rv,u,pc,m,a,B,wt,T⟩) (v:=Z e) h hx U rfl;have e1:=GJ (j:=1) (x':=⟨e,f,rv,u,pc,m,a,B,wt,T⟩) (v:=Z f) e0.1 e0.2 U rfl;have e2:=GJ (j:=2) (x':=⟨e,f,g,u,pc,m,a,B,wt,T⟩) (v:=g) e1.1 e1.2 U rfl;have e3:=GJ (j:=3) (x':=⟨e,f,g,X,pc,m,a,B,wt,T⟩) (v:=Z X) e2.1 e2.2 U rfl;have e4:=GJ (j:=4) (x':=⟨e,f,g,X,D,m,a,B,wt,T⟩) (v:=Z D) e3.1 e3.2 U rfl;have e5:=GJ (j:=5) (x':=⟨e,f,g,X,D,m',a,B,wt,T⟩) (v:=.string (str m')) e4.1 e4.2 U rfl;have e6:=GJ (j:=6) (x':=⟨e,f,g,X,D,m',a',B,wt,T⟩) (v:=Z a') e5.1 e5.2 U rfl;have e7:=GJ (j:=7) (x':=⟨e,f,g,X,D,m',a',M,wt,T⟩) (v:=.string (str M)) e6.1 e6.2 U rfl;have e8:=GJ (j:=8) (x':=⟨e,f,g,X,D,m',a',M,aa,T⟩) (v:=Z aa) e7.1 e7.2 U rfl;have e9:=GJ (j:=9) (x':=⟨e,f,g,X,D,m',a',M,aa,ad⟩) (v:=Z ad) e8.1 e8.2 U rfl;simp only[A5]at e9;exact⟨e9.1,(((((((((Eg _).trans (Eg _)).trans (Eg _)).trans (Eg _)).trans (Eg _)).trans (Eg _)).trans (Eg _)).trans (Eg _)).trans (Eg _)).trans (Eg _)⟩
abbrev Qb(st sq:Int):J7:=⟨st,sq,.slice none 0 0,0,0,[],0,[],0,0⟩
theorem TW(w:Aa)(b k:Nat)(st:Int)(xs:List J7)(x:J7)(e:∃a n c,x.rv=.slice a n c)(h:w.heap[b]?=some (.cells (tab J7.cells xs).toArray 139 (0,0)))(f:xs[k]?=some x):
  D7 121 #[.pointer (some (Y b (k*10))),Z st] w Ep λw'=>w'.heap[b]?=some (.cells (tab J7.cells (xs.set k (Qb st x.D4))).toArray 139 (0,0))/\DF (λq=>q=b) w w':=by
 have⟨a0,a1,a2,a3,a4,a5,a6,a7,a8,a9⟩:=sU h f;have⟨D,T,M,e⟩:=e;rw[e]at a2;have X:=Eb (off:=k*10) h;have z1:=Eb (off:=k*10+1) h;have z2:=Eb (off:=k*10+2) h;have z3:=Eb (off:=k*10+3) h;have z4:=Eb (off:=k*10+4) h;have z5:=Eb (off:=k*10+5) h;have z6:=Eb (off:=k*10+6) h;have z7:=Eb (off:=k*10+7) h;have z8:=Eb (off:=k*10+8) h;have z9:=Eb (off:=k*10+9) h;have⟨g,m⟩:=FU h f;have u:=Dv h;clear h f e;go_enter func121,ntmps121;go_wp2;go_returns;have B:=j5 g m (Qb st x.D4);exact⟨rfl,B⟩
theorem Pm(G:R.Wd)(i k:Nat)(l l':R.Ln):R.Eh (R.Eh G i k l) i k l'=R.Eh G i k l':=by
 simp[R.Eh,List.modify_modify_eq,Function.comp_def]
theorem Qi{l:Nat}(h:Q .ret a w):Exit.jump l J Q .ret a w:=h
theorem RN{l:Nat}(h:Q .normal a w):Exit.jump l J Q .normal a w:=h
theorem KJ{P:Program}{c rest:Code}(l:Nat)(f:findLabel c l=some rest)(first:c.wp P (Exit.jump l (λa w=>rest.wp P (Exit.jump l (λ_ _=>False) Q) a w) Q) a w):(Code.scope c).wp P Q a w:=by
 refine wp_scope_jumps l _ (λ_ _=>0) f first (λa w h=>?_)
 refine Code.wp_mono ?_ h;intro e a w h;cases e with
 |goto q=>exact h.2.elim
 |_=>exact h
theorem pI{cb lb X:Nat}{g h rt:Int}(f:World->Prop)(hk:k<X)(b3:EB w cb 3 (EJ lb X X))(b4:EB w cb 4 (Z rt))(a6:EB w lb (k*10+8) (Z g))(a7:EB w lb (k*10+9) (Z h))(z6:w.frozen? (Y lb (k*10+8))=false)(z7:w.frozen? (Y lb (k*10+9))=false)(T:¬cb=lb)(al:1<=g/\g<=8)(ak:0<=h/\h<=6)
  (B:Hid (1<g->f (w.setCell (Y lb (k*10+8)) (Z (g-1)))))
  (D:Hid (g=1->h=0->D7 121 #[.pointer (some (Y lb (k*10))),Z 3] (w.setCell (Y lb (k*10+8)) (Z (g-1))) Ep λw'=>f w'))
  (M:Hid (g=1->0<h->D7 122 #[ptr cb,Z k] (((w.setCell (Y lb (k*10+8)) (Z (g-1))).setCell (Y lb (k*10+9)) (Z (h-1))).setCell (Y lb (k*10+8)) (Z rt)) Ep λw'=>f w')):
  D7 70 #[ptr cb,Z k] w Ep λw'=>f w':=by
 have e1:IntKind.i64.wrap (g-1)=g-1:=Iz;have e2:IntKind.i64.wrap (h-1)=h-1:=Iz;have aa:¬lb=cb:=λe=>T e.symm
 have⟨ae,ah⟩:=KM b3 a6;by_cases h1:1<g
 ·have q1:0<g-1:=U;have HP:=Dx (B h1);clear B D M;go_enter func70,ntmps70;exact wC
 ·have m:g=1:=U;by_cases h2:h=0
  ·have HP:=Dx (D m h2);clear B D M;subst m h2;go_enter func70,ntmps70;go_wp2;refine KJ 0 rfl ?_;go_wp2_with (first|(go_at_call 121;refine cm HP λw3 u=>?_))
   refine Qi ?_;go_wp2;go_returns;exact⟨rfl,u⟩
  ·have h3:0<h:=U;have HP:=Dx (M m h3);clear B D M;subst m;go_enter func70,ntmps70;go_wp2;refine KJ 0 rfl ?_;go_wp2
   go_step3
   refine⟨rfl,?_⟩;show Code.wp prog _ _ _ _;go_wp2_with (first|(go_at_call 122;refine cm HP λw3 u=>?_))
   refine RN ?_;go_wp2;go_returns;exact⟨rfl,u⟩
theorem LW.El(h:LW p F G w){l:R.Ln}(hc:G.DI[i]?=some c)(hl:c.DV[k]?=some l)(h1:l.DK=1):
  D7 70 #[ptr (p.cb i),Z k] w Ep λw'=>∃T,LW p T (R.EM G i k) w'/\D8 F T w w':=by
 have⟨xs,x,X,hR,hx,u,ak,ac,ab⟩:=h.DZ hc hl;have⟨ra,rn,rc,am⟩:=Lc ab;have aa:=P4 h hc;have hk:=GG hl;have hi:=GG hc;have⟨bj,bp⟩:=KM aa.a0 ak.a0;have B:=(h.wf.cl i c hc).DZ k l hl;have⟨z1,z2,al,ah,b2,aq⟩:=B.one h1;have⟨eu,em,ea,ew,et⟩:=u.one h1;have aV:=(h.Gs i hi).2.1;have aS:=h.wf.cf;have eT:=R.FH hc hl;have b1:=ES (h.cl i c hc) X Em;have ar:=u.two h1;have D:=u.Kw U;have Nl:∀w',DF (λq=>q=p.lb i) w w'->D8 F F w w':=λw' hk=>⟨hk.mono (λq _ e=>by rw[e];exact aV),λ_ q=>Aj q⟩
 unfold R.EM;simp only[eT];rw[Ao U];obtain⟨m,f⟩:∃m:World->Prop,∀ae,m ae↔∃T,LW p T (if 1<l.El then R.Eh G i k {l with El:=l.El-1} else if l.DW=0 then R.Eh G i k {l with El:=l.El-1,DK:=3} else if 8*l.Ea<(l.DC.length:Int) then R.EG (R.Eh G i k {l with El:=G.c.Ew,DW:=l.DW-1}) i k true else R.Lq (R.Eh G i k {l with El:=G.c.Ew,DW:=l.DW-1}) i k) ae/\D8 F T w ae:=⟨_,λ_=>Iff.rfl⟩;suffices hq:D7 70 #[ptr (p.cb i),Z k] w Ep λw'=>m w' from hq.mono (λe w' h=>⟨h.1,(f w').1 h.2⟩)
 have⟨a0,a1,a2,a3,a4,a5,a6,a7,a8,a9⟩:=ak;rw[ew]at a8;rw[et]at a9;have⟨bt,br,ad,be,g,ba,b5,av,b4,b3⟩:=x;simp only at eu em ea ew et am ar;subst eu em ea ew et;have⟨tc,tp,tt⟩:=ar;subst tc;have ao:=u.DK;have an:=u.D4;simp only at ao an;subst ao an;unfold R.GA at aS;have e1:=GJ (j:=8) (x':=⟨l.DK,l.D4,ad,l.D5,g,l.DC,l.Ea,l.EK,l.El-1,l.DW⟩) (v:=Z (l.El-1)) X hx U rfl;have e2:=GJ (j:=9) (x':=⟨l.DK,l.D4,ad,l.D5,g,l.DC,l.Ea,l.EK,l.El-1,l.DW-1⟩) (v:=Z (l.DW-1)) e1.1 e1.2 U rfl;have e3:=GJ (j:=8) (x':=⟨l.DK,l.D4,ad,l.D5,g,l.DC,l.Ea,l.EK,G.c.Ew,l.DW-1⟩) (v:=Z G.c.Ew) e2.1 e2.2 U rfl;simp only[A5]at e2 e3;refine pI m hk aa.a3 aa.a4 a8 a9 (Eb X) (Eb X) b1 b2 aq ?_ ?_ ?_
 ·intro h2;refine(f _).2 ⟨F,?_,Nl _ (Eg _)⟩;rw[Ay h2];exact h.Sr hc X hR ac (Eg _) e1.1 ⟨B.D4,λ_=>⟨z1,z2,al,ah,by simp only;omega,aq⟩⟩ ⟨rfl,rfl,λ_=>D,λ_=>⟨rfl,rfl,rfl,rfl,rfl⟩,λ_=>⟨rfl,tp,tt⟩⟩ ab
 ·intro h2 h3;refine cm (TW _ (p.lb i) k 3 _ _ ⟨_,_,_,am⟩ e1.1 e1.2) ?_;rintro w' ⟨M,q2⟩;refine⟨rfl,(f _).2 ⟨F,?_,Nl _ ((Eg _).trans q2)⟩⟩;rw[Ao U,Ay h3];simp only[A5]at M;exact h.Sr hc X hR ac ((Eg _).trans q2) M ⟨B.D4,λq=>by cases q⟩ ⟨rfl,rfl,λ_=>D,λq=>(by cases q),λq=>(by cases q)⟩ (by
   rw[D];exact Gg.nil _ _)
 ·intro h2 h3;have hT:=h.Sr (l':={l with El:=G.c.Ew,DW:=l.DW-1}) hc X hR ac (((Eg _).trans (Eg _)).trans (Eg _)) e3.1 ⟨B.D4,λ_=>⟨z1,z2,al,ah,by simp only;omega,by simp only;omega⟩⟩ ⟨rfl,rfl,λ_=>D,λ_=>⟨rfl,rfl,rfl,rfl,rfl⟩,λ_=>⟨rfl,tp,tt⟩⟩ ab;have aN:(R.Eh G i k {l with El:=G.c.Ew,DW:=l.DW-1}).DI[i]?=some {c with DV:=c.DV.set k {l with El:=G.c.Ew,DW:=l.DW-1}}:=by
   rw[R.Ft,hc];simp
  refine cm (hT.Ga aN (l:={l with El:=G.c.Ew,DW:=l.DW-1}) (by simp[hk]) h1) ?_;rintro w' ⟨T,M,q2⟩;refine⟨rfl,(f _).2 ⟨T,?_,(Nl _ (((Eg _).trans (Eg _)).trans (Eg _))).trans q2⟩⟩;rw[Ao U,Ao U];unfold Tn at M;by_cases hq:l.Ea<R.DL l.DC
  ·rw[Ay (R.LF.2 hq)];rw[Ay hq]at M;exact M
  ·rw[Ao (λq=>hq (R.LF.1 q))];rw[Ao hq]at M;exact M
theorem zk:(prog.info? 143).map (λi=>(i.zero,i.size,i.bytes))=some (some (.pointer none),1,8):=EL
def pa(o:Option Nat):Option Addr:=o.map λb=>(Y b 0)
abbrev pc(o:Option Nat):Value:=.pointer (pa o)
def M9(f:Nat->Option Nat)(n:Nat):List Value:=((List.range n).filterMap f).map ptr
theorem Q7(f:Nat->Option Nat)(n:Nat):M9 f (n+1)=M9 f n++(match f n with|none=>[]|some b=>[ptr b]):=by
 unfold M9;rw[Cu,List.filterMap_append];cases h:f n<;>simp[h]
theorem uV(f:Nat->Option Nat)(n:Nat):(M9 f n).length<=n:=by grind [M9]
structure NN(w:Aa)(f:Nat->Option Nat)(n:Nat)(O:Ad)(wr:Aa):Prop where
 row:wr.ownsRow w.heap.size 143 1 O (M9 f n).length (M9 f n)
 DG:Below w.heap.size w wr
theorem NN.none{f:Nat->Option Nat}(h:NN w f n O wr)(g:f n=none):NN w f (n+1) O wr:=by
 have e:M9 f (n+1)=M9 f n:=by rw[Q7,g];simp
 refine⟨?_,h.DG⟩;rw[e];exact h.row
theorem NN.alloc{f:Nat->Option Nat}(h:NN w f n O wr)(o:Obj):NN w f n O (wr.alloc o):=⟨h.row.alloc _,h.DG.alloc h.DG.size _⟩
theorem NN.some{f:Nat->Option Nat}{m:Ad}{h:Aa}(B:f n=some b)(g:h.ownsRow w.heap.size 143 1 m ((M9 f n).length+1) (M9 f n++[ptr b]))(u:DY w h):NN w f (n+1) m h:=by
 have e:M9 f (n+1)=M9 f n++[ptr b]:=by rw[Q7,B]
 refine⟨?_,u⟩;rw[e,AJ];exact g
theorem one_cell(w:Aa)(t:Ag)(v:Ad)(j:Nat)(u:Ad)(h:([v]:Ae)[j]?=Option.some u):(w.alloc (.cells #[v] t)).cell? (((EN w 0):Addr).add j)=Option.some u:=by grind [Addr.add_lit,World.cell?_alloc_new]
theorem aeP(q:Nat->Option Addr)(k:Nat)(hk:k<3)(w:Aa):(Instr.index 162 (.agg #[.pointer (q 0),.pointer (q 1),.pointer (q 2),.pointer (q 3),.pointer (q 4),.pointer (q 5),.pointer (q 6),.pointer (q 7),.pointer (q 8)]) (Z k)).run prog w=.ok (.agg #[.pointer (q (3*k)),.pointer (q (3*k+1)),.pointer (q (3*k+2))]) w:=by
 obtain rfl|rfl|rfl:k=0\/k=1\/k=2:=U;all_goals rfl
theorem aeO(q:Nat->Option Addr)(k j:Nat)(e:j<3)(w:Aa):(Instr.index 158 (.agg #[.pointer (q (3*k)),.pointer (q (3*k+1)),.pointer (q (3*k+2))]) (Z j)).run prog w=.ok (.pointer (q (3*k+j))) w:=by
 obtain rfl|rfl|rfl:j=0\/j=1\/j=2:=U;all_goals rfl
theorem zS(f:Nat->Option Nat)(h:∀i,i<9->EB w s (10+i) (pc (f i))):
  ET 71 #[ptr s] w λe w'=>∃O,e=.returned O/\w'.ownsRow w.heap.size 143 1 O (M9 f 9).length (M9 f 9)/\DY w w':=by
 obtain⟨u,hu⟩:∃u:Nat->Option Addr,∀i,u i=pa (f i):=⟨_,λ_=>rfl⟩;have HU:=Dx hu;have c0:=h 0 U;have c1:=h 1 U;have c2:=h 2 U;have c3:=h 3 U;have c4:=h 4 U;have c5:=h 5 U;have c6:=h 6 U;have c7:=h 7 U;have c8:=h 8 U;simp only[pc,<-hu]at c0 c1 c2 c3 c4 c5 c6 c7 c8;have hl:=Gv c0;have⟨i0,hi,ae,ah,ak⟩:=A1 zk;have H0:Hid (NN w f 0 (.slice none 0 0) w):=⟨AZ _ _ _ _,AA _ _⟩;clear h hu;go_enter func71,ntmps71;go_wp2;clear c0 c1 c2 c3 c4 c5 c6 c7 c8;go_loopw [3,13] (λav iv wr=>∃k:Nat,k<=3/\iv=Z k/\NN w f (3*k) av wr) (λ_ iv _=>3-(intOf iv).toNat)
 case atStart=>exact⟨0,U,rfl,H0⟩
 case round=>
  obtain⟨k,hk,rfl,hR⟩:=hrel;by_cases ab:k<3
  ·have aw:=aeP u k ab;have HR:=Dx hR;clear hR;go_wp2;generalize decide ((k:Int)<3)=b14;go_loopw [3,17] (λav jv am=>∃j:Nat,j<=3/\jv=Z j/\NN w f (3*k+j) av am) (λ_ jv _=>3-(intOf jv).toNat)
   case atStart=>exact⟨0,U,rfl,HR.alloc _⟩
   case round=>
    obtain⟨j,hj,rfl,m⟩:=hrel;by_cases aa:j<3
    ·have⟨oa,on,oc,ac⟩:=Ei m.row;subst ac;have g:=Dx m;clear m;have X:=aeO u k j aa;cases hf:f (3*k+j) with
     |none=>
      have e0:u (3*k+j)=none:=by rw[Dw HU,hf];rfl
      rw[e0]at X;have HN:=Dx (g.none hf);exact acz
     |some b=>
      have e0:u (3*k+j)=some (Y b 0):=by rw[Dw HU,hf];rfl
      rw[e0]at X;have aq:=uV f (3*k+j);go_wp2_with (at_builtin;go_must (refine AQ _ rfl (.tmp 22) (.tmp 24) 141 rfl w.heap.size 143 i0 (.pointer none) 1 8 underlying141 hi ae ah ak rfl Em _ _ _ rfl (by exact g.row.alloc _) (EN wr 0) 1 1 [ptr b] rfl rfl (by exact one_cell wr 143 (ptr b)) Vd JG U (by have:=g.DG.size;simp;omega) ?_))
      intro v' wz D B _ _;have⟨va,vn,vc,ad⟩:=Ei D;subst ad;have T:=(g.DG.alloc g.DG.size _).grown B (by have:=g.DG.size;simp;omega) (λk hk=>((Ba g.row) k hk).1);have HN:=NN.some hf D T;clear D B T g;exact acz
    ·obtain rfl:j=3:=U;have M:=Dx m;clear m;go_wp2;go_roundw
     case rel=>exact⟨k+1,U,Kc,by exact Dw M⟩
     case measure=>exact Kt
  ·obtain rfl:k=3:=U;have M:=Dx hR;clear hR;go_wp2
   go_ret
   exact⟨_,rfl,M.row,M.DG⟩
def qf(t:SP)(DN:List R.Sn)(i:Nat):Option Nat:=if ((DN[i]?).getD R.Ic).D4=0 then none else some (t.ql i)
theorem uF(t:SP)(DN:List R.Sn)(i:Nat):Gh t DN i=pc (qf t DN i):=by
 unfold Gh qf;split<;>rfl
section
variable {s n nm:Nat} {t:SP} {F:D9} {c:R.Cf} {sv:List R.Sv} {DX:List Int} {DN:List R.Sn} {EF:List R.Jb} {w:Aa}
theorem G9.cell(h:G9 s n nm t F c sv DX DN EF w)(j:Nat)(v:Ad)(e:(IW n nm t c DX DN)[j]?=some v):EB w s j v:=E7 h.bs e
theorem G9.rem(h:G9 s n nm t F c sv DX DN EF w):ET 71 #[ptr s] w λe w'=>∃O,e=.returned O/\w'.ownsRow w.heap.size 143 1 O (M9 (qf t DN) 9).length (M9 (qf t DN) 9)/\DY w w':=by
 refine zS (qf t DN) (λi hi=>?_);rw[<-uF];obtain rfl|rfl|rfl|rfl|rfl|rfl|rfl|rfl|rfl:i=0\/i=1\/i=2\/i=3\/i=4\/i=5\/i=6\/i=7\/i=8:=U;all_goals exact h.cell _ _ rfl
end
theorem LW.aba(h:LW p F G w)(cl li ln g u B pa o:Int)(D:Bool)(Ef:Ac)(hr:EC ⟨B,cl,li,ln,g,u,pa,o,D,Ef⟩):
  D7 192 #[ptr p.s,.agg #[Z cl,Z li,Z ln,Z g,Z u],S9 B 0 0 0 0 0 pa o D (str Ef)] w Ep λw'=>∃F',LW p F' (R.E9 G cl ⟨B,cl,li,ln,g,u,pa,o,D,Ef⟩) w'/\D8 F F' w w':=by
 have ht:=h.Hd;have M:=ht.cell 20 _ rfl;have ac:=Gv M;obtain⟨f,hPost⟩:∃f:World->Prop,∀w'',f w''↔∃F',LW p F' (R.E9 G cl ⟨B,cl,li,ln,g,u,pa,o,D,Ef⟩) w''/\D8 F F' w w'':=⟨_,λ_=>Iff.rfl⟩;suffices hq:D7 192 #[ptr p.s,.agg #[Z cl,Z li,Z ln,Z g,Z u],S9 B 0 0 0 0 0 pa o D (str Ef)] w Ep λw'=>f w' from hq.mono (λe w' h=>⟨h.1,(hPost w').1 h.2⟩)
 have HS:Hid (∀w',DY w w'->D7 230 #[ptr p.n,Z cl,S9 B cl li ln g u pa o D (str Ef)] w' Ep λw''=>f w''):=λw' hb=>by
  refine cm ((h.DG hb).send cl ⟨B,cl,li,ln,g,u,pa,o,D,Ef⟩ hr) ?_;exact wB
 clear hPost hr h ht;generalize str Ef=SB at *;obtain⟨T,hBX⟩:∃T,(w.alloc (.cells #[Z cl,Z li,Z ln,Z g,Z u] 145)).alloc (.cells #[Z B,Z cl,Z li,Z ln,Z g,Z u,Z pa,Z o,.bool D,.string SB] 41)=T:=⟨_,rfl⟩;have HB:Hid (DY w T):=by
  exact acC
 have aa:T.heap[w.heap.size]?=some (.cells #[Z cl,Z li,Z ln,Z g,Z u] 145 (0,0)):=by
  exact wQ
 have ab:T.heap[w.heap.size+1]?=some (.cells #[Z B,Z cl,Z li,Z ln,Z g,Z u,Z pa,Z o,.bool D,.string SB] 41 (0,0)):=by
  rw[<-hBX,<-Cx w];exact AF _ _
 have HC:=Dx (HS T.drew HB.drew);have ak:=(HB.cell (p:=Y p.s 20) ac).trans M;have c0:=EI aa 0;obtain⟨e0,e1,e2,e3,e4,e5,e6,e7,e8,e9⟩:=Yy ab;have X:=Dx hBX;clear aa ab hBX HS;go_enter func192,ntmps192;go_wp2;rw[Dw X];clear X M;go_region_law (refine FG rfl 230 #[.tmp 24,.tmp 26,.tmp 27] #[80,3,41] rfl aez #[ptr p.n,Z cl,S9 B cl li ln g u pa o D SB] rfl _ HC ?_;rintro e w1 ⟨rfl,m⟩;have HP:=Dx m;clear m;refine⟨_,rfl,?_⟩)
 all_goals
  go_wp2;go_returns;exact⟨rfl,HP⟩
structure Yd(p:Pl)(G:R.Wd)(w:Aa)(i:Nat)(r:R.Sn)(y:PR):Prop where
 DN:G.DN[i]?=some r
 ne:r.D4≠0
 blk:w.heap[p.t.ql i]?=some (.cells y.cells.toArray 147 (0,0))
 rel:PT i (G.DX.getD (i / 3) 0) r y
theorem LW.q(h:LW p F G w){r:R.Sn}(f:G.DN[i]?=some r)(e:r.D4≠0):∃y,Yd p G w i r y/\F (p.t.ql i):=by
 have⟨y,g,m,u⟩:=h.Hd.ln i r f e;exact⟨y,⟨f,e,g,m⟩,u⟩
structure YAt(w:Aa)(b:Nat)(y:PR):Prop where
 a0:w.cell? (Y b 0)=some (Z y.DJ)
 a1:w.cell? (Y b 1)=some (Z y.DR)
 a2:w.cell? (Y b 2)=some (Z y.DZ)
 a3:w.cell? (Y b 3)=some (Z y.D4)
 a4:w.cell? (Y b 4)=some (Z y.D5)
 a5:w.cell? (Y b 5)=some (Z y.DK)
 a6:w.cell? (Y b 6)=some (.string (str y.Gn))
 a7:w.cell? (Y b 7)=some (.string (str y.answer))
 a8:w.cell? (Y b 8)=some (Z y.at')
 a9:w.cell? (Y b 9)=some (Z y.El)
 a10:w.cell? (Y b 10)=some (Z y.DW)
theorem X8(h:w.heap[b]?=some (.cells y.cells.toArray 147 (0,0))):YAt w b y:=
 ⟨E7 h rfl,E7 h rfl,E7 h rfl,E7 h rfl,E7 h rfl,E7 h rfl,E7 h rfl,E7 h rfl,E7 h rfl,E7 h rfl,E7 h rfl⟩
theorem nf{DN:List R.Sn}{r:R.Sn}(g:DN[i]?=some r)(f:r.D4≠0)(e:r'.D4≠0)(j:Nat):Gh t (DN.set i r') j=Gh t DN j:=by grind [Gh]
theorem G9.Oy{nm:Nat}{c:R.Cf}{sv:List R.Sv}{DX:List Int}{DN:List R.Sn}(h:G9 s n nm t F c sv DX DN EF w){r:R.Sn}{X:Array Value}(hr:DN[i]?=some r)(ac:r.D4≠0)(ak:r'.D4≠0)(B:w.heap[t.ql i]?=some (.cells X 147 (0,0)))(hk:DF (λb=>b=t.ql i) w w')(ar:w'.heap[t.ql i]?=some (.cells y'.cells.toArray 147 (0,0)))(hrel:PT i (DX.getD (i / 3) 0) r' y'):G9 s n nm t F c sv DX (DN.set i r') EF w':=by
 have⟨f1,f2,f3⟩:=h.Fw;have ab:Pp w F (λb=>b=t.ql i):=Pp.one B Em;have hi:=GG hr;have m:∀(j:Nat) (x:R.Sn),(DN.set i r')[j]?=some x->x.D4≠0->∃u,DN[j]?=some u/\u.D4≠0/\(j≠i->u=x)/\(j=i->x=r'):=λj x f D=>by
  grind
 refine⟨?_,h.zs,hk.row h.Gw (λj f=>?_),λz hz=>(h.each z hz).keep hk ab (λ_ q=>q),h.dns,h.ye,λj x f D=>?_,λa b x x' ha B D ad aa=>?_,?_,f1,f2,f3⟩
 ·exact abB
 ·rcases h.Gw.2 with ⟨hn,_⟩|⟨g,cap,ah,hn,_,hg,_⟩
  ·rw[hn]at f;cases f
  ·rw[hn]at f;cases f;exact ES hg B Em
 ·have⟨u,M,T,q3,q4⟩:=m j x f D;by_cases e:j=i
  ·exact abB
  ·obtain rfl:=q3 e;have⟨y,g1,g2,g3⟩:=h.ln j u M T;exact⟨y,hk.at g1 (h.inj j i u r M hr T ac e),g2,g3⟩
 ·have⟨u,M,T,_⟩:=m a x ha D;have⟨x1,q3,q4,_⟩:=m b x' B ad;exact h.inj a b u x1 M q3 T q4 aa
 ·have⟨a,b,f⟩:=h.EF;refine⟨a,b,hk.at f (λe=>?_)⟩;rw[e,B]at f;cases f
theorem PN(h:R.Wf G)(i:Nat)(r:R.Sn):R.Wf (R.EA G i r):=⟨h.cf,h.N5,λj c hc=>⟨(h.cl j c hc).DV,(h.cl j c hc).DR,(h.cl j c hc).Ee,(h.cl j c hc).DZ⟩,h.JC,h.JX,h.sv,h.R7,h.nm,h.st,h.nd,h.Pn⟩
theorem NF{c:R.Cf}{DX:List Int}{DN:List R.Sn}(h:R.MX c DX DN EF){r:R.Sn}(e:R.Tm (DX.getD (i / 3) 0) r):R.MX c DX (DN.set i r) EF:=by grind [R.MX]
theorem LW.Oy(h:LW p F G w){r:R.Sn}(u:Yd p G w i r y)(m:r'.D4≠0)(hk:DF (λb=>b=p.t.ql i) w w')(aa:w'.heap[p.t.ql i]?=some (.cells y'.cells.toArray 147 (0,0)))(hrel:PT i (G.DX.getD (i / 3) 0) r' y')(ad:R.Tm (G.DX.getD (i / 3) 0) r'):LW p F (R.EA G i r') w'/\Yd p (R.EA G i r') w' i r' y'/\D8 F F w w':=by
 have⟨hx,hn,al,ao⟩:=h.Fw;have X:=u.blk;have ak:Pp w F (λb=>b=p.t.ql i):=Pp.one X Em;have⟨_,_,_,ac⟩:=h.Hd.ln i r u.DN u.ne;have at':∀{b:Nat} {ys:Array Value} {t:Ag} {f:Nat×Nat},w.heap[b]?=some (.cells ys t f)->t≠147->w'.heap[b]?=some (.cells ys t f):=λab D=>hk.at ab (ES ab X D)
 have B:∀{α:Type} {k:Ag} {b:Nat} {lit:α->Lit} {g:α->Option Int} {n:Nat},Mp w k b lit g n->Mp w' k b lit g n:=λhm=>by
  have⟨es,q,u⟩:=hm.block;exact hm.keep hk (λe=>On X u e.symm)
 refine⟨⟨PN h.wf i r',NF h.GQ ad,at' h.bx Em,?_,?_,h.Hd.Oy u.DN u.ne m X hk aa hrel,B h.Eu,λj c hc=>at' (h.cl j c hc) Em,λj c hc=>?_,λj c hc=>B (h.Ee j c hc),h.Fw,h.Gs,h.inj,λk hf=>Ai (h.lt k hf) hk.size⟩,⟨?_,m,aa,hrel⟩,⟨hk.mono (λk _ e=>by rw[e];exact ac),λ_ q=>Aj q⟩⟩
 ·have⟨M,D,T⟩:=h.bcs;exact⟨M,at' D Em,T⟩
 ·have⟨K,D,T,h3⟩:=h.bn;refine⟨K,at' D Em,hk.row T (λj hj=>?_),h3⟩;rcases T.2 with ⟨rfl,_⟩|⟨g,cap,M,rfl,_,hg,_⟩
  ·cases hj
  ·cases hj;exact ES hg X Em
 ·have⟨xs,D,T,h3⟩:=h.ln j c hc
  grind [Iq.KC]
 ·simp[R.EA,(GG u.DN)]
theorem Yd.DG{r:R.Sn}(h:Yd p G w i r y)(e:DY w w'):Yd p G w' i r y:=⟨h.DN,h.ne,by rw[e.block _ (AB.1 h.blk).1];exact h.blk,h.rel⟩
theorem Kj(h:w.heap[b]?=some (.cells y.cells.toArray 147 (0,0)))(e:y'.cells=y.cells.set j v):(w.setCell (Y b j) v).heap[b]?=some (.cells y'.cells.toArray 147 (0,0)):=by
 rw[Ek h,e]
theorem YY(l:List Int)(k:Nat):(l[k]?).getD 0=l.getD k 0:=by simp[List.getD_eq_getElem?_getD]
theorem Jg(u:R.MX G.c G.DX G.DN G.EF){r:R.Sn}(m:G.DN[i]?=some r)(g:r.DK=3):
  EC ⟨5,((i / 3:Nat):Int),(G.DX[i / 3]?).getD 0,((i % 3:Nat):Int),r.D4,r.D5,r.at',R.DL r.DU,false,R.EY r.DU r.at'⟩:=by
 have hi:i<9:=by rw[<-u.sl];exact(GG m)
 have f:=u.sn i r m;have h:r.D4≠0:=λe=>by
  rw[f.zero e]at g;cases g
 have⟨a1,a2,a3⟩:=f.some h;have⟨D,M,B,T⟩:=f.MY g;have X:=f.D4;have:=R.NB (s:=r.DU) B
 grind [R.MX,EC,List.getElem_mem,List.getElem?_eq_getElem,R.ID,R.IV,Ju]
theorem LW.UJ(h:LW p F G w){r:R.Sn}(M:Yd p G w i r y)(h3:r.DK=3):
  D7 123 #[ptr p.s,ptr (p.t.ql i)] w Ep λw'=>∃T,LW p T (R.Ex G i) w'/\D8 F T w w':=by
 have aa:=Jg h.GQ M.DN h3;have hs:=h.GQ.sn i r M.DN;have⟨b1,b2,b3,b4⟩:=hs.MY h3;obtain⟨a,X⟩:∃a:Nat,r.at'=(a:Int):=⟨r.at'.toNat,U⟩;have ah:8*a<r.DU.length:=by have:=R.LF.2 b4;omega
 have g:=M.rel;have⟨ab,Hg⟩:=g.MY h3;unfold R.Ex;simp only;rw[R.F7 M.DN];rw[X]at aa Hg ⊢;obtain⟨D,m⟩:∃D:World->Prop,∀f,D f↔∃T,LW p T (R.E9 G ((i / 3:Nat):Int) ⟨5,((i / 3:Nat):Int),(G.DX[i / 3]?).getD 0,((i % 3:Nat):Int),r.D4,r.D5,(a:Int),R.DL r.DU,false,R.EY r.DU (a:Int)⟩) f/\D8 F T w f:=⟨_,λ_=>Iff.rfl⟩;suffices M:D7 123 #[ptr p.s,ptr (p.t.ql i)] w Ep λw'=>D w' from M.mono (λe w' h=>⟨h.1,(m w').1 h.2⟩)
 have HS:Hid (∀w',DY w w'->D7 192 #[ptr p.s,.agg #[Z y.DJ,Z y.DR,Z y.DZ,Z y.D4,Z y.D5],S9 5 0 0 0 0 0 (a:Int) (R.DL r.DU) false (str (R.EY r.DU (a:Int)))] w' Ep λf=>D f/\f.cell? ⟨p.t.ql i,0,none⟩=some (Z y.DJ)/\f.cell? ⟨p.t.ql i,1,none⟩=some (Z y.DR)/\f.cell? ⟨p.t.ql i,2,none⟩=some (Z y.DZ)/\f.cell? ⟨p.t.ql i,3,none⟩=some (Z y.D4)/\f.cell? ⟨p.t.ql i,4,none⟩=some (Z y.D5)/\f.cell? ⟨p.t.ql i,7,none⟩=some (.string (str r.DU))/\f.cell? ⟨p.t.ql i,8,none⟩=some (Z a)):=λw' hb=>by
  have am:EC ⟨5,y.DJ,y.DR,y.DZ,y.D4,y.D5,(a:Int),R.DL r.DU,false,R.EY r.DU (a:Int)⟩:=by
   rw[g.DJ,g.DR,g.DZ,g.D4,g.D5,<-YY];exact aa
  refine cm ((h.DG hb).aba _ _ _ _ _ 5 (a:Int) (R.DL r.DU) false _ am) ?_;rintro f ⟨T,q1,q2⟩;have al:=q1;rw[g.DJ,g.DR,g.DZ,g.D4,g.D5,<-YY]at al;have aq:(R.E9 G y.DJ ⟨5,y.DJ,y.DR,y.DZ,y.D4,y.D5,(a:Int),R.DL r.DU,false,R.EY r.DU (a:Int)⟩).DN[i]?=some r:=by rw[R.KX];exact M.DN
  have⟨y2,g1,_⟩:=q1.q aq M.ne;have⟨k0,k1,k2,k3,k4,k5,k6,k7,k8,k9,aN⟩:=X8 g1.blk;have B:=g1.rel;rw[R.OA]at B;have⟨ac,ad⟩:=B.MY h3;rw[B.DJ,<-g.DJ]at k0;rw[B.DR,<-g.DR]at k1;rw[B.DZ,<-g.DZ]at k2;rw[B.D4,<-g.D4]at k3;rw[B.D5,<-g.D5]at k4;rw[ac]at k7;rw[ad,X]at k8;exact⟨rfl,(m f).2 ⟨T,al,(D8.D6 F hb).trans q2⟩,k0,k1,k2,k3,k4,k7,k8⟩
 have⟨c0,c1,c2,c3,c4,c5,c6,c7,c8,c9,ao⟩:=X8 M.blk;rw[ab]at c7;rw[Hg]at c8;have⟨HP,HC,HD⟩:=Ll (λw=>IC r.DU w U) (λw=>V2 r.DU a w U ah) (HS w.drew (AA _ _).drew);clear m aa HS hs h g M ab Hg;generalize str (R.EY r.DU (a:Int))=SB at *;generalize str r.DU=SM at *;generalize R.DL r.DU=N at *;generalize p.t.ql i=b at *;have⟨cl,li,ln,sq,u,st,ak,an,yt,wt,tr⟩:=y;simp only at c0 c1 c2 c3 c4 HD;clear c5 c6 c9 ao ah b1 b2 b3 b4 X h3;go_enter func123,ntmps123;go_wp2_with fail
 go_region_held3 (λw'=>w'.cell? (Y b 0)=some (Z cl)/\w'.cell? (Y b 1)=some (Z li)/\w'.cell? (Y b 2)=some (Z ln)/\w'.cell? (Y b 3)=some (Z sq)/\w'.cell? (Y b 4)=some (Z u)/\w'.cell? (Y b 7)=some (.string SM)/\w'.cell? (Y b 8)=some (Z a)) (go_keep) (first
  |(go_at_call 187;refine cs (HP _) ?_)
  |(go_at_call 189;refine cs (HC _) ?_)
  |(go_at_call 192;refine cm HD ?_;rintro w3 ⟨ar,k0,k1,k2,k3,k4,k7,k8⟩))
 all_goals
  go_wp2;go_returns;exact⟨rfl,ar⟩
theorem sK(w:Aa)(b:Nat)(s:Ac)(a:Int)(m:s.length<=1000)(g:w.cell? (Y b 7)=some (.string (str s)))(h:w.cell? (Y b 8)=some (Z a)):
  D7 198 #[ptr b] w (.bool (decide (a=R.DL s-1))) λw'=>DY w w':=by
 have f:=Dx (λw=>IC s w U);have hn:0<=R.DL s/\R.DL s<=1000:=by unfold R.DL;omega
 generalize str s=SM at *;generalize R.DL s=N at *;have e:IntKind.i64.wrap (N-1)=N-1:=Iz;go_enter func198,ntmps198;go_wp2_with fail
 go_region_held3 (λw'=>w'.cell? (Y b 7)=some (.string SM)/\w'.cell? (Y b 8)=some (Z a)) (go_keep) (first
  |(go_at_call 187;refine cs (f _) ?_))
 all_goals
  go_wp2
  go_ret
  exact⟨by
   have:(a==N-1)=decide (a=N-1):=by rw[BH];simp
   rw[this];rfl,(AA _ _).drew⟩
theorem Yj(w:Aa)(s b:Nat)(rt tr:Int)(f:Bool)(P1 m g:World->Prop)
  (H1:Hid (D7 123 #[ptr s,ptr b] w Ep λw'=>P1 w'))
  (H2:Hid (∀w',P1 w'->D7 198 #[ptr b] w' (.bool f) λM=>m M))
  (H3:Hid (∀w',m w'->EB w' s 2 (Z rt)/\EB w' s 3 (Z tr)/\(∃x,EB w' b 9 (Z x))/\(∃x,EB w' b 10 (Z x))/\w'.frozen? (Y b 9)=false/\w'.frozen? (Y b 10)=false/\¬s=b))
  (HL:Hid (f=true->∀w',m w'->g (w'.setCell (Y b 9) (Z 0))))
  (HM:Hid (f=false->∀w',m w'->g ((w'.drew.setCell (Y b 9) (Z rt)).setCell (Y b 10) (Z tr)))):
  D7 137 #[ptr s,ptr b] w Ep λw'=>g w':=by
 go_enter func137,ntmps137;go_wp2_with (first|(go_at_call 123;refine cm H1 λw1 D=>?_;have X:=Dx (H2 w1 D)))
 refine cm X λT h=>?_
 have⟨s2,s3,⟨x9,b9⟩,⟨Tf,aa⟩,z9,ah,B⟩:=H3 T h;have⟨ad,ae⟩:=KM b9 s2;have ac:¬b=s:=λe=>B e.symm
 have HX:=Dx h;clear X h;cases f with
 |true=>
  have u:=Dx (HL rfl T HX);go_wp2;go_returns;exact⟨rfl,u⟩
 |false=>
  have u:=Dx (HM rfl T HX);go_wp2
  go_region
  all_goals
   go_wp2;go_returns;exact⟨rfl,u⟩
theorem NS(G:R.Wd)(i:Nat):(R.Ex G i).DN=G.DN:=by grind [R.Ex,R.KX]
theorem IX(G:R.Wd)(i:Nat):(R.Ex G i).DX=G.DX:=by grind [R.Ex,R.OA]
theorem Qu(G:R.Wd)(i:Nat):(R.Ex G i).c=G.c:=by grind [R.Ex,R.Mb]
theorem LW.aa6(h:LW p F G w){r:R.Sn}(e:Yd p G w i r y):¬p.s=p.t.ql i:=ES h.Hd.bs e.blk Em
theorem LW.tell(h:LW p F G w){r:R.Sn}{y:PR}(B:Yd p G w i r y)(h3:r.DK=3):
  D7 137 #[ptr p.s,ptr (p.t.ql i)] w Ep λw'=>∃f,LW p f (R.JF G i) w'/\D8 F f w w':=by
 have X:=h.GQ.sn i r B.DN;have⟨b1,b2,b3,b4⟩:=X.MY h3;have ak:=h.wf.cf;unfold R.GA at ak;have D:(R.Ex G i).DN[i]?=some r:=by rw[NS];exact B.DN
 have T:R.JF G i=R.EA (R.Ex G i) i {r with E1:=decide (8*r.at'+8<(r.DU.length:Int)),El:=G.c.Ew,DW:=G.c.DW}:=by grind [R.JF,R.F7]
 rw[T];have Sr:∀(f:D9) (m w':Aa) (u y':PR),LW p f (R.Ex G i) m->D8 F f w m->Yd p (R.Ex G i) m i r u->DF (λb=>b=p.t.ql i) m w'->w'.heap[p.t.ql i]?=some (.cells y'.cells.toArray 147 (0,0))->PT i (G.DX.getD (i / 3) 0) {r with E1:=decide (8*r.at'+8<(r.DU.length:Int)),El:=G.c.Ew,DW:=G.c.DW} y'->∃f,LW p f (R.EA (R.Ex G i) i {r with E1:=decide (8*r.at'+8<(r.DU.length:Int)),El:=G.c.Ew,DW:=G.c.DW}) w'/\D8 F f w w':=λf m w' u y' g k2 k3 k4 k5 k6=>by
  have⟨q1,_,q2⟩:=g.Oy (r':={r with E1:=decide (8*r.at'+8<(r.DU.length:Int)),El:=G.c.Ew,DW:=G.c.DW}) (y':=y') k3 B.ne k4 k5 (by rw[IX];exact k6) (by
   rw[IX];exact⟨λe=>absurd e B.ne,X.D4,X.some,X.Lu,X.El,X.MY,λ_=>⟨h3,by simp only;omega,by simp only;omega⟩⟩)
  exact⟨f,q1,k2.trans q2⟩
 refine Yj w p.s (p.t.ql i) G.c.Ew G.c.DW (decide (r.at'=R.DL r.DU-1)) (λw'=>∃f,LW p f (R.Ex G i) w'/\D8 F f w w') (λw'=>∃f,LW p f (R.Ex G i) w'/\D8 F f w w') _ (h.UJ B h3) ?_ ?_ ?_ ?_
 ·rintro m ⟨M,g,k2⟩;have⟨u,g1,_⟩:=g.q D B.ne;have⟨_,_,_,_,_,_,_,c7,c8,_,_⟩:=X8 g1.blk;have⟨ah,Hg⟩:=g1.rel.MY h3;rw[ah]at c7;rw[Hg]at c8;refine cm (sK m _ r.DU r.at' U c7 c8) λw2 hb=>?_
  exact⟨rfl,M,g.DG hb,k2.trans (D8.D6 M hb)⟩
 ·rintro m ⟨M,g,k2⟩;have⟨u,g1,_⟩:=g.q D B.ne;have⟨_,_,_,_,_,_,_,_,_,c9,ae⟩:=X8 g1.blk;have s2:=g.Hd.cell 2 _ rfl;have s3:=g.Hd.cell 3 _ rfl;rw[Qu]at s2 s3;exact⟨s2,s3,⟨_,c9⟩,⟨_,ae⟩,Eb g1.blk,Eb g1.blk,g.aa6 g1⟩
 ·rintro hl m ⟨M,g,k2⟩;have hl:r.at'=R.DL r.DU-1:=by simpa using hl
  have⟨u,g1,_⟩:=g.q D B.ne;have hrel:=g1.rel;rw[IX]at hrel;have hf:decide (8*r.at'+8<(r.DU.length:Int))=false:=by grind [R.Uv]
  refine Sr M m _ u {u with El:=0} g k2 g1 (Eg _) (Kj g1.blk rfl) ⟨hrel.DJ,hrel.DR,hrel.DZ,hrel.D4,hrel.D5,hrel.DK,hrel.Gn,hrel.MY,?_,?_⟩
  ·simp[hf]
  ·simp[hf]
 ·rintro hl m ⟨M,g,k2⟩;have hl:¬r.at'=R.DL r.DU-1:=by simpa using hl
  have aa:DY m m.drew:=(AA _ _).drew;have ab:=g.DG aa;have⟨u,g1,_⟩:=ab.q D B.ne;have hrel:=g1.rel;rw[IX]at hrel;have hf:decide (8*r.at'+8<(r.DU.length:Int))=true:=by grind [R.Uv]
  refine Sr M m.drew _ u {u with El:=G.c.Ew,DW:=G.c.DW} ab (k2.trans (D8.D6 M aa)) g1 ((Eg _).trans (Eg _)) ?_ ⟨hrel.DJ,hrel.DR,hrel.DZ,hrel.D4,hrel.D5,hrel.DK,hrel.Gn,hrel.MY,?_,?_⟩
  ·exact Kj (y:={u with El:=G.c.Ew}) (Kj g1.blk rfl) rfl
  ·simp[hf]
  ·simp
end Go.Proofs.YtblomippkddgiaaGreatDoor
