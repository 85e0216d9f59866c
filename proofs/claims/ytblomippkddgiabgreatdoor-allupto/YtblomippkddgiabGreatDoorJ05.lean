import Derived.Test.YtblomippkddgiabGreatDoorJ04
set_option maxRecDepth 100000
set_option maxHeartbeats 2000000
namespace Go.Proofs.YtblomippkddgiabGreatDoor
open Go.Proofs.Tryz RowKit Maps
variable {E F F':D9}{host:Int}{zs:List (R.Sv×Value)}{fl:List R.Fl}{js:List R.Jb}{B B' b c i j m n n' size size' va0 vc vn x:Nat}{a va:Option Addr}{l l':R.Ln}{G:R.Wd}{e k t:TypeId}{J K M:Value}{BX w w' w1 wz:World}
theorem uy(a:Aa)(B:Nat)(hB:B<=a)(k c li ln:Int)(b:0<=k/\k<=255)(d:0<=c/\c<=255)(f:0<=li/\li<=255)(g:0<=ln/\ln<=255):
  Own (a.alloc (.cells #[.int .u8 k,.int .u8 c,.int .u8 li,.int .u8 ln] 5)) B (EJ a 4 4) [b8 k,b8 c,b8 li,b8 ln]:=by
 have h:=CW (base:=B) (e:=5) (size:=1) a #[.int .u8 k,.int .u8 c,.int .u8 li,.int .u8 ln] 4 hB JG I;have e:Ku [b8 k,b8 c,b8 li,b8 ln]=[.int .u8 k,.int .u8 c,.int .u8 li,.int .u8 ln]:=by
  unfold Ku
  grind [FP]
 unfold Own;rw[e];exact h
theorem T5(u pa o n m:Int)(a:0<=u/\u<=255)(b:0<=pa/\pa<=255)(c:0<=o/\o<=255)(d:0<=n/\n<=255)(e:0<=m/\m<=255):Ku [b8 u,b8 pa,b8 o,b8 n,b8 m]=[.int .u8 u,.int .u8 pa,.int .u8 o,.int .u8 n,.int .u8 m]:=by
 unfold Ku;simp only[Cq,CU,FP a.1 a.2,FP b.1 b.2,FP c.1 c.2,FP d.1 d.2,FP e.1 e.2]
theorem wrap_u8(n:Int):IntKind.u8.wrap n=n % 256:=by grind [IntKind.wrap,IntKind.bits,IntKind.signed]
def Wz(p:Pk)(w:Aa)(e:Ending)(w':Aa):Prop:=Below w w w'/\((EC p/\e=.returned (.string (str (Gq p))))\/(¬EC p/\e=EQ 7 0))
theorem Ru(p:Pk)(w:Aa):ET 185 #[pv p] w (Wz p w):=by
 obtain⟨r,hpost⟩:∃r,r=Wz p w:=DR;have an:Hid (∀w',DY w w'->¬EC p->r (EQ 7 0) w'):=by
  rw[hpost];exact λw' hb hr=>⟨hb,Am ⟨hr,I⟩⟩
 have J:Hid (∀w',DY w w'->EC p->r (.returned (.string (str (Gq p)))) w'):=by
  exact xd
 rw[<-hpost];clear hpost;obtain⟨aq,al,cL⟩:=Ll (λw=>V8 p w) (λh:EC p=>Mm h) (λh:EC p=>h);have ar:Hid (Gq p=Ha p++EU (Kb (Ha p))):=rfl;have ak:Hid (Ha p=[b8 p.J,b8 p.f,b8 p.b,b8 p.H]++EU p.a++[b8 p.c,b8 p.Ez,b8 p.off,b8 (N3 p.e),b8 (p.d.length:Int)]++p.d):=rfl;obtain⟨k,c,B,ln,W,u,pa,o,L,a⟩:=p
 delta ET
 go_in
 go_wp2_with fail
 refine(aq _).mono ?_;rintro e w1 ⟨t,⟨T,rfl⟩|⟨ce,rfl⟩⟩
 .have cg:=t.size;have Q:=(t.block w.heap.size Ev).trans (AF w _);have ab:=Dx (((AA w.heap.size w).alloc (Ar _) (.cells #[Z k,Z c,Z B,Z ln,Z W,Z u,Z pa,Z o,.bool L,.string (str a)] 82)).trans (t.mono Ev));have bX:=al T;simp at cg bX;have bp:=Dx T;obtain⟨b1,b2,b3,b4,b5,b6,b7,bz,_⟩:=T;simp only at b1 b2 b3 b4 b5 b6 b7 bz;have q1:0<=k/\k<=255:=U;have q2:0<=c/\c<=255:=U;have q3:0<=B/\B<=255:=U;have q4:0<=ln/\ln<=255:=U;have q6:0<=u/\u<=255:=U;have q7:0<=pa/\pa<=255:=U;have q8:0<=o/\o<=255:=U;obtain⟨e0,e1,e2,e3,e4⟩:=bC Q 0 1 2 3 4;have c7:w.heap.size<w1.heap.size:=U;have ae:=Dx Q;clear Q t;go_wp2_with fail
  refine(MH (w.heap.size+1) _ _ W _ (uy w1 (w.heap.size+1) U k c B ln q1 q2 q3 q4) Fy Ev U).mono ?_;rintro e M ⟨O2,rfl,f,D⟩;have ch:=D.size;simp at ch;have x:=(D.block w.heap.size U).trans ((AL w1 _ _ c7).trans ae);obtain⟨bb,bf,be,bS⟩:=Ei f;subst bS;have z:=λk=>Ba f k
  have am:=Dx z;have ac:=Dx ((ab.alloc U (.cells #[.int .u8 k,.int .u8 c,.int .u8 B,.int .u8 ln] 5)).trans (D.mono U));obtain⟨e5,e6,e7,e8,e9⟩:=bC x 5 6 7 8 9;obtain⟨E,G⟩:=FU x f;have cy:w.heap.size<M.heap.size:=U;have av:=Dx Vx;have d5:¬M.heap.size=w.heap.size:=U;obtain⟨i0,hi,aV,b9,ba⟩:=A1 info5;have qs:0<=(a.length:Int)/\(a.length:Int)<=255:=U;have wu:IntKind.u8.wrap u=u:=by rw[wrap_u8];omega
  have ct:IntKind.u8.wrap pa=pa:=by rw[wrap_u8];omega
  have wo:IntKind.u8.wrap o=o:=by rw[wrap_u8];omega
  have wl:IntKind.u8.wrap (a.length:Int)=(a.length:Int):=by rw[wrap_u8];omega
  have qy:0<=N3 L/\N3 L<=255:=by unfold N3;split<;>omega
  generalize hYP:N3 L=Yq at *;have HN:=VK M (Ku [b8 u,b8 pa,b8 o,b8 Yq,b8 (a.length:Int)]);rw[T5 u pa o Yq (a.length:Int) q6 q7 q8 qy qs]at HN;obtain⟨P,O⟩:=FU HN (T5 u pa o Yq (a.length:Int) q6 q7 q8 qy qs);have ah:Hid (∀(o5:Obj) (X:Aa),((M.alloc o5).drew).grownBy X (Value.slice bb bf be).ownBlock->Below (w.heap.size+1) M X/\X.heap[w.heap.size]?=M.heap[w.heap.size]?):=by
   intro o5 X hg;have h:=((AA (w.heap.size+1) M).alloc U o5).drew.grown hg Fy (λk hk=>(z k hk).1);exact⟨h,h.block _ U⟩
  clear HN x f D z e0 e1 e2 e3 e4 aq al ae ab;go_wp2;go_region_held3 (λw'=>w'.cell? (EN w 5)=some (Z u)/\w'.cell? (EN w 6)=some (Z pa)/\w'.cell? (EN w 7)=some (Z o)/\w'.cell? (EN w 8)=some (.bool L)/\w'.cell? (EN w 9)=some (.string (str a))) (go_keep)
   (first
    |(go_at_call 234;refine cs (av _ _) ?_)
    |(refine FM rfl (.tmp 23) (.tmp 40) 281 rfl (w.heap.size+1) 5 i0 (.int .u8 0) 1 1 underlying281 hi aV b9 ba rfl Em (.slice bb bf be) 6 (Ku ([b8 k,b8 c,b8 B,b8 ln]++EU W)) rfl (by exact G.alloc _) (EN M 0) 5 5 [.int .u8 u,.int .u8 pa,.int .u8 o,.int .u8 Yq,.int .u8 (a.length:Int)] rfl rfl (by first|exact P|(rw[wu,ct,wo,wl];exact P)) (by rw[<-Dw O];exact QB _) JG U Fy ?_;intro v' X A y bW;obtain⟨va,vn,vc,ci⟩:=Ei A;subst ci;have ca:=ah _ _ y;obtain⟨az,aS⟩:=ca;have d:=aS.trans (Dw E);have f5:=EI d 5;have f6:=EI d 6;have f7:=EI d 7;have f8:=EI d 8;have f9:=EI d 9;have ao:=Dx A;have N:=Dx az;clear A y bW az aS d))
  have l:=Dw ao;rw[<-Dw O]at l;have g:=Own.push l;have s:=Dx g;have K:=λk=>Ba g k
  have F:=Dx K;have cC:=N.size;have ad:=Dx (ac.trans (N.mono (by omega:w.heap.size<=w.heap.size+1)));have g9:=f9;obtain⟨j,n⟩:∃j,j=[b8 k,b8 c,b8 B,b8 ln]++EU W++[b8 u,b8 pa,b8 o,b8 Yq,b8 (a.length:Int)]:=DR;have bV:j.length=11:=by rw[n];rfl
  rw[<-n]at s;have aa:=Dx n;have d7:=Er a;have bq:Hid (Lib.strCells (str a)=Ku a):=rfl;clear l g ao f5 f6 f7 f8 f9 e5 e6 e7 e8 e9 P O ah G am N E ac av K n;go_wp2_with (at_builtin;go_must (refine Lib.wpList_append_own_string _ I (.tmp 42) (.tmp 44) 281 9 I (w.heap.size+1) 5 i0 underlying281 underlying9 hi aV b9 ba (.slice va vn vc) j.length (Ku j) I (by exact Dw s) (str a) I JG U U ?_))
  intro O4 w4 i q _;obtain⟨co,cq,cp,bT⟩:=Ei i;subst bT;have v:=(AA (w.heap.size+1) X).grown q U (λk hk=>(F k hk).1);have d6:=v.size;have bg:=Dx (ad.trans (v.mono (by omega:w.heap.size<=w.heap.size+1)));rw[Dw bq]at i;have b:Own w4 (w.heap.size+1) (.slice co cq cp) (j++a):=Own.push (by rw[bV];exact i);have S:j++a=Ha ⟨k,c,B,ln,W,u,pa,o,L,a⟩:=by rw[Dw aa,Dw ak]
  rw[S]at b;have cc:(Ha ⟨k,c,B,ln,W,u,pa,o,L,a⟩).length<=1000:=by rw[<-S,AJ];omega
  generalize hHH:Ha ⟨k,c,B,ln,W,u,pa,o,L,a⟩=H at *;have c8:=b.conv;have H6:=Dx (λw=>R0 H w U);have aN:((jr H).toNat:Int)=Kb H:=rfl;rw[aN]at H6;have H7:=Dx (MH (w.heap.size+1) _ H (Kb H) w4 b U cc (Nt H));generalize hC:Kb H=C at *;clear i b q v ad s F g9 S aN;generalize hSH:str H=SH at *;go_wp2_with fail
  refine cs (H6 _) ?_;go_wp2_with fail
  refine H7.mono ?_;rintro e w6 ⟨O6,rfl,m,aw⟩;obtain⟨d8,da,d9,bU⟩:=Ei m;subst bU;have cz:=m.conv;have bi:=Dx (bg.trans (aw.mono (by omega:w.heap.size<=w.heap.size+1)));clear m aw c8;have HY:=(Dw J);rw[Dw ar]at HY;have bt:=Dx HY;clear HY J an ar ak;generalize hST:str (H++EU C)=ST at *;go_wp2;exact bt _ bi (Dw bp)
 .go_wp2;exact⟨I,an _ (F9.trans (t.mono Ev)) ce⟩
def Mp{α:Type}(w:Aa)(k:Ag)(b:Nat)(lit:α->Lit)(g:α->Option Int)(n:Nat):Prop:=
 ∃D:DataW Unit,w.ownsMap prog k (plainElem prog 3) b n D/\Maps.size D=n/\∀a,Maps.has D (lit a)=(g a).isSome/\∀v,g a=some v->D.atKey (lit a) (.lit (.int .i64 0))=.lit (.int .i64 v)
theorem Mp.keep{α:Type}{lit:α->Lit}{g:α->Option Int}(h:Mp w k b lit g n)(hk:DF F w w')(a:¬F b):Mp w' k b lit g n:=by grind [Mp,DF.map]
theorem Mp.lt{α:Type}{lit:α->Lit}{g:α->Option Int}(h:Mp w k b lit g n):b<w:=by
 have⟨D,a,_⟩:=h;exact a.lt
theorem Mp.block{α:Type}{lit:α->Lit}{g:α->Option Int}(h:Mp w k b lit g n):∃a cl,w.heap[b]?=some (.map a cl):=by
 have⟨D,⟨a,cl,c,_⟩,_⟩:=h;exact⟨a,cl,c⟩
theorem Mp.congr{α:Type}{lit:α->Lit}{g c:α->Option Int}(h:Mp w k b lit g n)(d:∀a,c a=g a):Mp w k b lit c n:=by grind [Mp]
structure J7 where
 d:Int
 a:Int
 rv:Value
 c:Int
 g:Int
 h:List UInt8
 X:Int
 H:List UInt8
 C:Int
 e:Int
def J7.cells(x:J7):List Value:=[Z x.d,Z x.a,x.rv,Z x.c,Z x.g,.string (str x.h),Z x.X,.string (str x.H),Z x.C,Z x.e]
theorem J7.len(x:J7):x.cells.length=10:=rfl
structure VA(l:R.Ln)(x:J7):Prop where
 d:x.d=l.d
 a:x.a=l.a
 b:l.d≠2->l.D=[]
 one:l.d=1->x.c=l.c/\x.h=l.b/\x.X=l.X/\x.C=l.C/\x.e=l.e
 two:l.d=1->x.H=l.H/\(x.g=0\/x.g=1)/\l.b.take 2=EU x.g
structure MG(ls:List R.Ln)(xs:List J7):Prop where
 len:xs.length=ls.length
 each:∀(k:Nat) (l:R.Ln) (x:J7),ls[k]?=some l->xs[k]?=some x->VA l x
theorem MG.get{b:List R.Ln}{xs:List J7}(h:MG b xs){k:Nat}(hl:b[k]?=l):∃x,xs[k]?=some x/\VA l x:=by
 have hk:=GG hl;obtain⟨x,a⟩:∃x,xs[k]?=some x:=⟨xs[k]'(by rw[h.len];exact hk),Ah _⟩;exact⟨x,a,h.each k l x hl a⟩
theorem MG.set{a:List R.Ln}{xs:List J7}(h:MG a xs){k:Nat}{x:J7}(b:VA l x):MG (a.set k l) (xs.set k x):=by grind [MG]
def Iq(w:Aa)(F:D9)(ls:List R.Ln)(xs:List J7):Prop:=∀(k:Nat) (l:R.Ln) (x:J7),ls[k]?=l->xs[k]?=x->Gg w F x.rv l.D
theorem Iq.h{a:List R.Ln}{xs:List J7}(h:Iq w F a xs)(hk:DF E w w')(c:Pp w F E)(b:∀k,F k->F' k):Iq w' F' a xs:=by grind [Iq,Gg.h]
theorem Iq.set{a:List R.Ln}{xs:List J7}(h:Iq w F a xs){k:Nat}{x:J7}(b:Gg w F x.rv l.D):Iq w F (a.set k l) (xs.set k x):=by grind [Iq]
def Gp(f:R.Fl):List Value:=[Z f.to,.string (str f.s),.bool f.a]
theorem JN(f:R.Fl):(Gp f).length=3:=rfl
structure Pl where
 x:Nat
 n:Nat
 s:Nat
 cs:Nat
 cap:Nat
 nm:Nat
 cb:Nat->Nat
 lb:Nat->Nat
 bm:Nat->Nat
 t:SP
abbrev Si(l:Ac):Lit:=.string l
abbrev Vl(u:Int):Lit:=.int .i64 u
def Fu(G:R.Wd)(s:Ac):Option Int:=(R.Gi G s).map λk=>G.f.getD k 0
def GU(G:R.Wd)(u:Int):Int:=((G.a[(u-1).toNat]?).map (·.J)).getD 0
def GY(G:R.Wd)(c:R.Cl)(u:Int):Option Int:=if u∈c.d then (GU G u) else none
def dd(l:List Int):List Int:=l.foldl (λacc u=>if u∈acc then acc else acc++[u]) []
abbrev aee(p:Pl)(n:Nat):Array Value:=#[ptr p.n,ptr p.s,EJ p.cs n p.cap]
abbrev acS(p:Pl)(G:R.Wd)(i:Nat)(c:R.Cl):Array Value:=#[Z i,Z c.b,.map (p.bm i),.slice (some ⟨p.lb i,0,none⟩) c.a c.a,Z G.c.c,Z G.c.e,ptr p.n]
structure LW(p:Pl)(F:D9)(G:R.Wd)(w:Aa):Prop where
 wf:R.Wf G
 g:R.MX G.c G.C G.J G.d
 bx:w.heap[p.x]?=some (.cells (aee p G.b.length) 71 (0,0))
 DW:∃cur:Array Value,w.heap[p.cs]?=some (.cells cur 93 (0,0))/\∀i,i<G.b.length->cur[i]?=some (ptr (p.cb i))
 bn:∃K,w.heap[p.n]?=some (.cells #[K] 110 (0,0))/\w.ownsRow 0 166 3 K G.D.length (tab Gp G.D)/\∀j,K.ownBlock=some j->F j
 a:G9 p.s p.n p.nm p.t F G.c G.a G.C G.J G.d w
 e:Mp w 9 p.nm Si (Fu G) G.e.length
 cl:∀(i:Nat) (c:R.Cl),G.b[i]?=some c->w.heap[p.cb i]?=some (.cells (acS p G i c) 133 (0,0))
 ln:∀(i:Nat) (c:R.Cl),G.b[i]?=some c->∃xs,w.heap[p.lb i]?=some (.cells (tab J7.cells xs).toArray 129 (0,0))/\MG c.a xs/\Iq w F c.a xs
 d:∀(i:Nat) (c:R.Cl),G.b[i]?=some c->Mp w 3 (p.bm i) Vl (GY G c) (dd c.d).length
 A:F p.x/\F p.n/\F p.cs/\F p.nm
 b:∀i,i<G.b.length->F (p.cb i)/\F (p.lb i)/\F (p.bm i)/\p.bm i≠p.nm
 inj:∀i j,i<G.b.length->j<G.b.length->i≠j->p.lb i≠p.lb j/\p.bm i≠p.bm j/\p.cb i≠p.cb j
 lt:∀k,F k->k<w.heap.size
theorem LW.y{p:Pl}(h:LW p F G w)(hk:DF E w w')(b:∀k,F k->¬E k):LW p F G w':=by
 have⟨j,hn,f,e⟩:=h.A;have a:=λ(i:Nat) (c:R.Cl) (hc:G.b[i]?=some c)=>(GG hc)
 have d:Ip w F E:=Ip.apart b;refine⟨h.wf,h.g,hk.at h.bx (b _ j),?_,?_,h.a.keep hk d (λ_ q=>q),h.e.keep hk (b _ e),λi c hc=>hk.at (h.cl i c hc) (b _ (h.b i (a i c hc)).1),λi c hc=>?_,λi c hc=>(h.d i c hc).keep hk (b _ (h.b i (a i c hc)).2.2.1),h.A,h.b,h.inj,λk g=>Ai (h.lt k g) hk.size⟩;all_goals grind [LW,DF,DF.row,Iq.h,Ip.sv]
theorem LW.h{p:Pl}(h:LW p F G w)(a:DY w w'):LW p F G w':=h.y (DF.J a (λ_=>False)) (λ_ _ h=>h)
theorem LW.Sr{p:Pl}(h:LW p F G w){k:Nat}{c:R.Cl}{xs:List J7}{x':J7}(hc:G.b[i]?=c)(r:Dy w (p.lb i) (tab J7.cells xs).toArray 129)(Q:MG c.a xs)(D:Iq w F c.a xs)
  (hk:DF (λb=>b=p.lb i) w w') (z:Dy w' (p.lb i) (tab J7.cells (xs.set k x')).toArray 129) (A:R.O0 l') (E:VA l' x') (H:Gg w F x'.rv l'.D):LW p F (R.Eh G i k l') w':=by
 have⟨T,hn,M,P⟩:=h.A;have hi:=GG hc;have m:Ip w F (λb=>b=p.lb i):=Ip.one r Em;have d:(R.Eh G i k l').b.length=G.b.length:=by simp[R.Eh]
 have s:∀j f,(R.Eh G i k l').b[j]?=some f->∃c0,G.b[j]?=some c0/\f=(if i=j then {c0 with a:=c0.a.set k l'} else c0):=λj f n=>by
  grind [R.Ft]
 have at':∀{b:Nat} {o:Obj},w.heap[b]?=some o->b≠p.lb i->w'.heap[b]?=some o:=λL B=>hk.at L B
 refine⟨h.wf.h A,h.g,?_,?_,?_,?_,?_,λj f n=>?_,λj f n=>?_,λj f n=>?_,h.A,?_,?_,λk N=>Ai (h.lt k N) hk.size⟩
 .rw[d];exact at' h.bx (ES h.bx r Em)
 .have⟨x,u,v⟩:=h.DW
  grind
 .have⟨K,u,v,y⟩:=h.bn;refine⟨K,at' u (ES u r Em),hk.row v (λj n=>?_),y⟩;rcases v.2 with ⟨rfl,_⟩|⟨g,cap,x,rfl,_,O,_⟩
  .cases n
  .cases n;exact ES O r Em
 .exact h.a.keep hk m (λ_ q=>q)
 .have⟨J,q,C⟩:=h.e.block;exact h.e.keep hk (On r C).symm
 .obtain⟨c0,l,rfl⟩:=s j f n;have:=at' (h.cl j c0 l) (ES (h.cl j c0 l) r Em)
  grind [R.Eh]
 .obtain⟨c0,l,rfl⟩:=s j f n;by_cases t:i=j
  .subst t;obtain rfl:=Option.some.inj (hc.symm.trans l);simp only[CQ];exact⟨_,z,Q.set E,(D.h hk m.sv (λ_ q=>q)).set (H.h hk m.sv (λ_ q=>q))⟩
  .have⟨S,u,v,y⟩:=h.ln j c0 l;simp only[t,agv];exact⟨S,at' u ((h.inj j i (GG l) hi (λe=>t e.symm)).1),v,y.h hk m.sv (λ_ q=>q)⟩
 .obtain⟨c0,l,rfl⟩:=s j f n;have⟨J,q,C⟩:=(h.d j c0 l).block;have:=(h.d j c0 l).keep hk (On r C).symm;split<;>exact this
 .rw[d];exact h.b
 .rw[d];exact h.inj
theorem FG{ops:Array Oper}{o:Oper}{a:Act}{K:Act->World->Prop}{Q:Exit->Act->World->Prop}{E:Prop}
  (hgd:o.guard=none) (f:Nat) (xs:Array Operand) (ts:Array TypeId) (ho:o.op=.call {callee:=.value (.func f),args:=xs,argTypes:=ts}) (hcf:∀args w,(callFunc f args).run prog w=.ok (.enter f args) w)
  (vs:Array Value) (hv0:xs.toList.map a.eval=vs.toList) (R:Ending->World->Prop) (hC:ET f vs w R) (hR:∀e w',R e w'->∃v,e=.returned v/\K (a.put o.dst v) w'):
  if Region.wanted o (yielded ops a.tmps)=true then Oper.wp prog o a w K Q else E:=by
 exact afo
theorem agc:∀args w,(callFunc 185 args).run prog w=.ok (.enter 185 args) w:=λ_ _=>rfl
theorem Mg{a b:Aa}(h:DY a.drew b):DY a b:=⟨h.os,h.tape,h.output,h.size,h.block⟩
theorem dY:(prog.info? 166).map (λi=>(i.zero,i.size,i.bytes))=some (some (.agg #[Z 0,.string ⟨#[]⟩,DI]),3,32):=EL
structure Kh(w:Aa)(n:Nat)(K:Ad)(fl:List R.Fl)(w':Aa):Prop where
 cell:∃K',w'.heap[n]?=some (.cells #[K'] 110 (0,0))/\w'.ownsRow 0 166 3 K' fl.length (tab Gp fl)/\(K'.ownBlock=K.ownBlock\/∃j,K'.ownBlock=some j/\w.heap.size<=j)
 H:DF (λk=>k=n\/K.ownBlock=some k) w w'
theorem Qd(w:Aa)(n:Nat)(a:Af)(m c:Nat)(h:Dy w n #[.slice a m c] 110):
  D7 170 #[ptr n] w (.bool (decide (m=40))) λb=>b=w:=by
 have c0:w.cell? (Y n 0)=some (.slice a m c):=by simp[World.cell?,h]
 delta D7
 go_in
 go_wp2
 go_ret
 exact⟨by rw[show (decide (m=40))=((m:Int)==40) by rw[BH];simp;omega];rfl,rfl⟩
theorem oD{p:Pk}(h:Dy w n #[.slice a 40 c] 110):
  D7 245 #[ptr n,Z host,pv p] w Ep (DY w):=by
 have⟨k,cl,f,ln,i,u,pa,o,g,b⟩:=p;have HF:=Dx (λw h=>Qd w n a 40 c h);have hl:=Dv h;have d:=Dx ((AA w.heap.size w).alloc (Ar _) (.cells #[Z k,Z cl,Z f,Z ln,Z i,Z u,Z pa,Z o,.bool g,.string (str b)] 82));have e:=Dx ((d.block n hl).trans h);clear h
 delta D7
 go_in
 go_wp2_with fail
 refine cs (HF _ e) ?_;go_wp2;go_returns;exact⟨I,d⟩
theorem bB(p:Pk)(b:EC p)(w:Aa):D7 185 #[pv p] w (.string (str (Gq p))) (DY w):=by
 refine(Ru p w).mono ?_;rintro e c ⟨a,⟨_,rfl⟩|⟨hn,_⟩⟩;all_goals grind
theorem fi(w:Aa)a(S:Ab)(j:Nat)(u:Ad)(h:([Z a,.string S,DI]:Ae)[j]?=u):(w.alloc (.cells #[Z a,.string S,DI] 166)).cell? (((EN w 0):Addr).add j)=u:=by grind [Addr.add_lit,World.cell?_alloc_new]
theorem Jl{v:Ad}{xs:Ae}(h:w.ownsRow B e size v n xs)(hk:∀g,v.ownBlock=some g->w'.heap[g]?=w.heap[g]?):w'.ownsRow B e size v n xs:=by
 exact abq
theorem tT{o:Ae}{f:Ab}(hl:n<w)(h:Dy w n #[.slice a m c] 110)(s:(Value.slice a m c).ownBlock≠n)(b:DY w BX)(d:DY BX w1)(u:n<w1)
  (e:wz.ownsRow 0 166 3 (.slice va vn vc) (m+1) (o++[Z host,.string f,DI])) (q:(w1.alloc (.cells #[Z host,.string f,DI] 166)).grownBy wz (Value.slice a m c).ownBlock) (l:wz.heap[n]?=w1.heap[n]?)
  (t:(Value.slice va vn vc).ownBlock=(Value.slice a m c).ownBlock\/(Value.slice va vn vc).ownBlock=va0) (x:w1+1=va0):
  (wz.setCell (Y n 0) (.slice va vn vc)).ownsRow 0 166 3 (.slice va vn vc) (m+1) (o++[Z host,.string f,DI])/\Dy (wz.setCell (Y n 0) (.slice va vn vc)) n #[.slice va vn vc] 110 /\
  ((Value.slice va vn vc).ownBlock=(Value.slice a m c).ownBlock\/∃j,(Value.slice va vn vc).ownBlock=some j/\w<=j)/\DF (λk=>k=n\/(Value.slice a m c).ownBlock=k) w (wz.setCell (Y n 0) (.slice va vn vc)):=by
 have s0:=b.size;have s1:=d.size;have v:(Value.slice va vn vc).ownBlock≠some n:=by grind
 have r:=DF.J (F:=λk=>k=n\/(Value.slice a m c).ownBlock=some k) (b.trans (d.mono s0));have i:=(r.alloc (.cells #[Z host,.string f,DI] 166)).grown q (λk hk=>Aj (Am hk));refine⟨Jl e (λg q=>?_),?_,?_,i.setCell (p:=Y n 0) (Aj (Aj I)) _⟩
 .grind [Below.heap_setCell]
 .have:=Ek (cs:=[.slice a m c]) (off:=0) (l.trans ((d.block n U).trans ((b.block n hl).trans h))) (.slice va vn vc);exact this
 grind
theorem oE{p:Pk}(h:Dy w n #[.slice a fl c] 110)(b:w.ownsRow 0 166 3 (.slice a fl c) fl (tab Gp fl))(aq:fl.length<40)(hr:EC p):
  D7 245 #[ptr n,Z host,pv p] w Ep λA=>Kh w n (.slice a fl c) (fl++[⟨host,Gq p,false⟩]) A:=by
 have v:=Dx (bB p hr);obtain⟨x,E⟩:∃x,x=str (Gq p):=DR;rw[<-E]at v;have C:Gp ⟨host,Gq p,false⟩=[Z host,.string x,DI]:=by rw[E];rfl
 obtain⟨m,hm⟩:∃m,m=fl.length:=DR;rw[<-hm]at h b aq ⊢;have aa:Hid (∀w,Dy w n #[.slice a m c] 110->D7 170 #[ptr n] w DI λA=>A=w):=λw h=>by
  have:=Qd w n a m c h;rw[show decide (m=40)=false by simp;omega]at this;exact this
 have B:Hid (∀A J,A.ownsRow 0 166 3 J (m+1) (tab Gp fl++[Z host,.string x,DI])->Dy A n #[J] 110->(J.ownBlock=(Value.slice a m c).ownBlock\/∃j,J.ownBlock=some j/\w.heap.size<=j)->DF (λk=>k=n\/(Value.slice a m c).ownBlock=some k) w A->Kh w n (.slice a m c) (fl++[⟨host,Gq p,false⟩]) A):=λA J h1 h2 h3 h4=>by
  refine⟨⟨J,h2,?_,h3⟩,h4⟩;rw[Jn,C,AJ,<-hm];exact h1
 clear C E;obtain⟨TF,L⟩:∃TF,TF=tab Gp fl:=DR;rw[<-L]at b B;clear L hm;generalize Kh w n (.slice a m c) (fl++[⟨host,Gq p,false⟩])=Post at *;clear hr;obtain⟨k,cl,O,ln,Q,u,pa,o,P,d⟩:=p;show ET 245 #[ptr n,Z host,S9 k cl O ln Q u pa o P (str d)] w _;have v:Hid (∀w,D7 185 #[S9 k cl O ln Q u pa o P (str d)] w (.string x) (DY w)):=v;have hl:=Dv h;have s:=Ba b;have D:(Value.slice a m c).ownBlock≠some n:=λe=>by
  rcases b.2 with ⟨hv,_⟩|⟨g,cap,b9,hv,_,S,_⟩
  .rw[hv]at e;cases e
  .rw[hv]at e;cases e;exact ES S h Em I
 obtain⟨t,q⟩:∃t,w.alloc (.cells #[Z k,Z cl,Z O,Z ln,Z Q,Z u,Z pa,Z o,.bool P,.string (str d)] 82)=t:=DK;have W:Hid (DY w t):=by
  rw[<-q];exact ku
 have be:t.heap.size=w.heap.size+1:=by rw[<-q];simp
 have F:Dy t w.heap.size #[Z k,Z cl,Z O,Z ln,Z Q,Z u,Z pa,Z o,.bool P,.string (str d)] 82:=by
  rw[<-q];exact AF w _
 obtain⟨H0,HH,al⟩:=Ll h ((W.block n hl).trans h) (ER b W);have cn:EB t n 0 (.slice a m c):=EI HH 0;have zn:DJ t n 0:=Eb (Dw HH);generalize str d=SY at *;obtain⟨c0,c1,c2,c3,c4,c5,c6,c7,c8,c9⟩:=Yy F;obtain⟨X,b6,b7⟩:=Ll q F s;have ac:Hid (∀(l H:Aa) (z:w.heap.size<l.heap.size),(l.alloc (.cells #[Z host,.string x,DI] 166)).grownBy H (Value.slice a m c).ownBlock->H.heap[n]?=l.heap[n]?/\H.heap[w.heap.size]?=l.heap[w.heap.size]?):=by
  intro l H z S;have q1:((l.alloc (.cells #[Z host,.string x,DI] 166)).heap.size)=l.heap.size+1:=Ev;refine⟨(S.block n U (λe=>D e.symm)).trans (AL _ _ _ U),(S.block w.heap.size U (λe=>?_)).trans (AL _ _ _ z)⟩;have:=(s _ e.symm).2;omega
 have ah:=Dx D;have G:n<t.heap.size:=U;have aN:w.heap.size<t.heap.size:=U;obtain⟨i0,hi,aS,aV,b1⟩:=A1 dY;clear h b F q s D;go_enter func245,ntmps245;go_wp2_with fail
 rw[Dw X];refine cs (aa _ HH) ?_;go_wp2;go_region_law (first
  |(refine FG rfl 185 #[.tmp 14] #[82] rfl agc #[S9 k cl O ln Q u pa o P SY] rfl _ (v _) ?_;rintro e l ⟨rfl,r⟩;have N:=r.size;have aw:n<l.heap.size:=Ai G N;have K:=Dx (Mg r);have b2:DJ l n 0:=(r.frozen (p:=Y n 0) G).trans zn;have an:EB l n 0 (.slice a m c):=(r.cell (p:=Y n 0) G).trans cn;have z:w.heap.size<l.heap.size:=Ai aN N;clear r;refine⟨_,rfl,?_⟩)
  |(refine FM rfl (.tmp 12) (.tmp 17) 108 rfl 0 166 i0 (.agg #[Z 0,.string ⟨#[]⟩,DI]) 3 32 underlying108 hi aS aV b1 rfl Em (.slice a m c) m TF rfl (by exact(ER al K).alloc _) (EN l 0) 1 1 [Z host,.string x,DI] rfl rfl (by exact fi l host x) Vd JG U U ?_;intro v' H i f M;obtain⟨va,vn,vc,az⟩:=Ei i;subst az;have ar:=ac _ _ z f;obtain⟨y,av⟩:=ar;have gz:DJ H n 0:=(A8 y).trans b2;have gn:EB H n 0 (.slice a m c):=(AR y).trans an;have ak:=Dx i;have ad:=Dx f;have T:=Dx M;have ab:=Dx y;clear i f M y av))
 all_goals
  have ao:=tT hl H0 ah W K aw ak ad ab T Ev;obtain⟨d1,d2,d3,d4⟩:=ao;have HD:=Dx (B _ _ d1 d2 d3 d4);clear d1 d2 d3 d4;go_wp2;go_returns;exact⟨I,HD⟩
namespace V
variable {x:It}{k:Nat}{O T c:Value}{w0 wr:World}
def Fj(x:It)(j:Nat):Value:=if j % 2=0 then Z x.1 else .string x.2
def marks(x:It)(k:Nat):List Value:=flat (List.replicate k x)
theorem GI(x:It)(k:Nat):(marks x k)=k*2:=by
 unfold marks;rw[I5,BN]
theorem KV(h:j<k*2):(marks x k)[j]?=Fj x j:=by
 have d:(List.replicate k x)[j / 2]?=some x:=by
  rw[Be,Ay U]
 have⟨a,b⟩:=flat_get _ _ _ d;unfold marks Fj;by_cases c:j % 2=0
 .rw[Ay c];rw[show j / 2*2=j by omega]at a;exact a
 .rw[Ao c];rw[show j / 2*2+1=j by omega]at b;exact b
theorem mI(x:It)(n m:Nat):marks x n++marks x m=marks x (n+m):=by
 apply BF;intro j;by_cases a:j<n*2
 .rw[A6 (by rw[GI];exact a),KV a,KV U]
 .rw[Bq (by rw[GI];omega),GI];by_cases b:j<(n+m)*2
  .rw[KV U,KV b];unfold Fj;rw[show (j-n*2) % 2=j % 2 by omega]
  .rw[BM (by rw[GI];omega),BM (by rw[GI];omega)]
def Marks(B:Nat)(x:It)(w:Aa)(T:Ad)(k:Nat):Prop:=w.ownsRow B 73 2 T k (marks x k)
theorem NG{b:Array Value}:b.toList.take (k*2)=marks x k↔∀j,j<k*2->b[j]?=Fj x j:=by
 constructor
 .intro h j a;have:=CG (·[j]?) h;simp only[BI,Ay a]at this;rw[KV a]at this;simpa using this
 .intro h;apply BF;intro j;by_cases a:j<k*2
  .rw[BI,Ay a,KV a];simpa using h j a
  .rw[BI,Ao a,BM (by rw[GI];omega)]
theorem VX:∀u∈marks x k,u.oneCell'=true:=Oe _
theorem Marks.h(h:Marks B x w T k)(a:DY w w'):Marks B x w' T k:=ER h a
theorem more(x:It)(B:Nat)(w:Aa)(O:Ad)(n m c:Nat)(G:Addr)(S:Marks B x w O n)(i:∀j u,(marks x m)[j]?=some u->w.cell? (G.add j)=some u)(hn:n+m<=1000000)(hB:B<=w):
  ∃D C,(Builtin.append_ #[37,37] 37 #[O,.slice (G) m c]).run prog w=.ok D C/\Marks B x C D (n+m)/\w.grownBy C O.ownBlock/\(D.ownBlock=O.ownBlock\/D.ownBlock=w.heap.size) /\
   ∀T k,Marks B x w T k->Marks B x C T k:=by
 have⟨i0,hi,L,e,M⟩:=A1 LQ;obtain⟨D,C,K,q,hg,_,aa⟩:=run_append_own_at (P:=prog) w B 37 37 73 i0 _ 2 24 underlying37 hi L e M rfl Em O n (marks x n) S G m c (marks x m) (GI x m) i (VX) JG U hB;rw[mI]at q;refine⟨D,C,K,q,hg,aa,λT k hT=>?_⟩;have⟨l,r⟩:=id hT;rcases r with r|⟨f,h,a,rfl,s,p,hk,t,E,A⟩
 .exact⟨l,Aj r⟩
 .have J:=Dv p;by_cases b:some f=O.ownBlock
  .rcases S.2 with ⟨rfl,_⟩|⟨g,cap,Q,rfl,ad,o,ak,ae,F,z⟩
   .cases b
   .have ab:f=g:=by simpa [Value.ownBlock] using b
    subst ab;rw[o]at p;have H:a=Q:=by simpa using p.symm
    subst H;by_cases y:n+m<=cap
    .have hl:=GI x m;have v:=run_append_room (P:=prog) w 37 37 73 i0 underlying37 hi f n cap a o G m c (marks x m) (by rw[hl,e]) i (VX) y (by rw[e,hl,F];omega);rw[v]at K;have N:w.setRow f (a.toList.take (n*i0.size)++marks x m++a.toList.drop (n*i0.size+(marks x m).length)).toArray=C:=by injection K
     rw[e,hl]at N;subst N;refine⟨l,Am ⟨f,h,_,I,s,setRow_heap w f a _ 73 _ o,hk,t,?_,?_⟩⟩
     .simp only[List.size_toArray,AJ,Bv,A9,BO,hl];omega
     .have d:(a.toList.take (n*2)).length=n*2:=by
       rw[Bv,BO];omega
      rw[NG];intro j hj;rw[CO];have X:=(NG (x:=x) (k:=k)).1 A j hj;by_cases h1:j<n*2
      .have W:=(NG (x:=x) (k:=n)).1 z j h1;rw[Bs,A6 U,BI,Ay h1];simpa using W
      .by_cases h2:j<n*2+m*2
       .rw[A6 (by rw[AJ,d,hl];omega),Bq U,d,KV U];unfold Fj;rw[show (j-n*2) % 2=j % 2 by omega]
       .rw[Bq (by rw[AJ,d,hl];omega),AJ,d,hl,Cn,show n*2+m*2+(j-(n*2+m*2))=j by omega];simpa using X
    .have holds:=S.cells (g:=f) I;have v:=run_append_grow (P:=prog) w 37 37 73 i0 _ underlying37 hi L (Y f 0) n cap (marks x n) (by rw[GI,e]) holds G m c (marks x m) (by rw[GI,e]) i U U (growslice_fits U (by rw[M];omega));rw[v]at K;have N:=(Result.ok.inj K).2;subst N;refine⟨l,Am ⟨f,h,a,I,s,?_,hk,t,E,A⟩⟩;rw[AL w.drew _ f J];exact o
  .exact⟨l,Am ⟨f,h,a,I,s,by rw[hg.block f J b];exact p,hk,t,E,A⟩⟩
theorem wpList_append_run{P:Program}{b:Array Oper}{rest:List Oper}{o:Oper}{a:Act}{Q:Exit->Act->World->Prop}(c:o.guard=none)(s x:Operand)(t:Ag)
  (g:o.op=.call {callee:=.builtin .append,args:=#[s,x],argTypes:=#[t,t]}) (v e d:Ad) (w':Aa) (j:a.eval s=v) (k:a.eval x=e)
  (i:(Builtin.append_ #[t,t] o.type #[v,e]).run P w=.ok d w') (h:wpList P b Q rest (a.put o.dst d) w'):wpList P b Q (o :: rest) a w:=by
 refine wpList_plain c λK f=>?_
 unfold Oper.wp execOp;simp only[g,resolve,invoke,builtin,Sem.run_bind,Sem.run_pure,Result.andThen_ok,List.map_toArray,Cq,CU,j,k,i];exact f _ _ h
theorem KW{v:List It}(h:w.ownsRow B 73 2 O v (flat v)):Ff w O v:=by
 rcases h.2 with ⟨rfl,b⟩|⟨g,cap,c,rfl,_,e,a,_⟩
 .grind [Ff]
 .refine⟨_,cap,I,a,Am ⟨g,0,I,Dv e,λj x f=>?_⟩⟩;have⟨b,d⟩:=flat_get v j x f;have c0:=h.cells (g:=g) I _ _ b;have c1:=h.cells (g:=g) I _ _ d
  grind [Addr.add_lit]
theorem UI(w:Aa)(X o:Ad)(v:List It)(g:Ff w X v)(h:Ff w o v)(hn:v.length<=1000000):
  D7 116 #[X,o] w DC (DY w):=by
 obtain⟨n,a⟩:∃n,n=v.length:=DR;obtain⟨A,C,rfl,_,_⟩:=id g;obtain⟨B,D,rfl,_,_⟩:=id h;have z:n<=1000000:=U;have⟨l,m,f⟩:=Ll g h a;rw[<-a]at l m ⊢;clear a hn g h
 delta D7
 go_in
 go_wp2;go_loopw [5] (λiv wr=>∃i:Nat,i<=n/\iv=Z i/\DY w wr) (λiv _=>n-(intOf iv).toNat)
 case atStart=>exact⟨0,AV _,I,AA _ _⟩
 case round=>
  obtain⟨i,y,rfl,c⟩:=hrel;by_cases j:i<n
  .obtain⟨x,k⟩:∃x,v[i]?=some x:=⟨_,Ah (by rw[<-Dw f];exact j)⟩;have⟨b,off,p,r,u,d0,d1⟩:=(l.h c).at k;have⟨t,e,q,d,s,e0,e1⟩:=(m.h c).at k;obtain rfl:A=some (Y b off):=by injection r
   obtain rfl:B=some (Y t e):=by injection d
   have HBB:=Dx c;clear c k r d;exact abX
  .have HBB:=Dx c;clear c;go_wp2
   go_ret
   exact⟨I,HBB⟩
theorem OV(e:Ff w T (List.replicate n x))(hn:n<=1000000):
  D7 80 #[T,Z n,Tp x] w DC (DY w):=by
 obtain⟨o,s,rfl,_,_⟩:=id e;have g:=Dx e;rw[BN]at g ⊢;clear e;have⟨d,x1⟩:=x
 delta D7
 go_in
 go_wp2;go_loopw [7] (λiv wr=>∃i:Nat,i<=n/\iv=Z i/\Below (w.heap.size+1) (w.alloc (.cells #[Z d,.string x1] 73)) wr) (λiv _=>n-(intOf iv).toNat)
 case atStart=>exact⟨0,AV _,I,AA _ _⟩
 case round=>
  obtain⟨i,m,rfl,a⟩:=hrel;by_cases f:i<n
  .have k:(List.replicate n (d,x1))[i]?=some (d,x1):=by rw[Be,Ay f]
   have c:=((AA w.heap.size w).alloc (Ar _) _).trans (a.mono U);have⟨b,off,h,j,l,d0,d1⟩:=(g.h c).at k;obtain rfl:o=some (Y b off):=by injection j
   have q:Kk wr w 0 (Z d):=(a.cell (p:=EN w 0) Ev).trans Vb;have r:Kk wr w 1 (.string x1):=(a.cell (p:=EN w 1) Ev).trans Vb;have HBB:=Dx a;clear a k j c;exact abX
  .have HBB:=Dx a;clear a;go_wp2
   go_ret
   exact⟨I,((AA w.heap.size w).alloc (Ar _) _).trans (HBB.mono U)⟩
theorem ac3:(prog.info? 155).map (λi=>(i.zero,i.size,i.bytes))=some (some (.agg #[Dz,Dz,Dz,Dz,Z 0,Z 0,.string ⟨#[]⟩]),7,128):=EL
def Xq:ByteArray:=⟨#[109,97,114,107]⟩
structure E1(w0 w:Aa)(O:Ad)(n:Nat)(x:It)(i:Nat)(wr:Aa):Prop where
 size:wr.heap.size=w.heap.size+1
 box:wr.heap[w.heap.size]?=some (.cells #[Z x.1,.string x.2] 73 (0,0))
 keep:∀k,k<w.heap.size->O.ownBlock≠some k->wr.heap[k]?=w.heap[k]?
 h:Below w0.heap.size w0 wr
 row:(O=.slice none 0 0/\n=0)\/∃G cap,O=EJ G n cap/\G<w.heap.size/\w0.heap.size<=G/\I9 wr G cap 0 (List.replicate i x)/\n<=cap/\cap<=maxLen
theorem E1.step(h:E1 w0 w O n x i wr)(hi:i<n):∃G cap,O=EJ G n cap/\I9 wr G cap 0 (List.replicate i x)/\i<cap/\G<w /\
  E1 w0 w O n x (i+1) ((wr.setCell (Y G (i*2)) (Z x.1)).setCell (Y G (i*2+1)) (.string x.2)):=by
 rcases h.row with ⟨_,m⟩|⟨G,cap,f,g,a,j,hc,l⟩
 .omega
 .have d:∀k,k≠G->((wr.setCell (Y G (i*2)) (Z x.1)).setCell (Y G (i*2+1)) (.string x.2)).heap[k]?=wr.heap[k]?:=λk hk=>by
   grind [Below.heap_setCell]
  have b:=j.snoc (by rw[BN];omega) x;rw[BN,show List.replicate i x++[x]=List.replicate (i+1) x by simp[List.replicate_succ']]at b;refine⟨G,cap,f,j,U,g,by simpa using h.size,?_,λk hk c=>?_,(h.h.setCell (by simpa using a) _).setCell (by simpa using a) _,Am ⟨G,cap,f,g,a,b,hc,l⟩⟩
  .rw[d _ U];exact h.box
  .rw[d k (λe=>c (by rw[f,e];rfl))];exact h.keep k hk c
theorem N7{A:Nat}{a:Ad}(h:Dy w A #[a,c] 73):w.cell? (Y A 0)=a/\w.cell? (Y A 1)=c:=by grind [World.cell?]
structure qi(w0 w:Aa)(O:Ad)(x:It)(B:Nat)(Ts:List (Value×Nat))(wr:Aa):Prop where
 size:w.heap.size<wr.heap.size
 box:wr.heap[w.heap.size]?=some (.cells #[Z x.1,.string x.2] 73 (0,0))
 keep:∀k,k<w.heap.size->O.ownBlock≠some k->wr.heap[k]?=w.heap[k]?
 h:Below w0.heap.size w0 wr
 marks:∀t∈Ts,Marks B x wr t.1 t.2/\(t.1.ownBlock=O.ownBlock\/∃j,t.1.ownBlock=some j/\w.heap.size<j)
theorem qi.drewN{a:List (Value×Nat)}(h:qi w0 w O x B a wr)(q:Nat):qi w0 w O x B a (wr.drewN q):=⟨h.size,h.box,h.keep,Ed h.h q,h.marks⟩
theorem adI(h:E1 w0 w O n x n wr)(hB:∀j,O.ownBlock=some j->B<=j):qi w0 w O x B [(O,n)] wr:=by
 refine⟨by rw[h.size];omega,h.box,h.keep,h.h,λt b=>?_⟩;simp only[Bg]at b;subst b;refine⟨?_,Aj I⟩;rcases h.row with ⟨rfl,rfl⟩|⟨G,cap,e,l,c,d,hc,g⟩
 .exact AZ _ _ _ _
 .subst e;have⟨a,f,i,k⟩:=d;refine⟨GI x n,Am ⟨G,cap,a,I,hB G I,f,hc,g,i,?_⟩⟩;rw[NG];intro j m;have⟨o,p⟩:=k (j / 2) x (AV _) (by rw[Be,Ay U]);unfold Fj
  grind
theorem X3{p:List (Value×Nat)}(h:qi w0 w O x B p wr)(r:(O,n)∈p)(m:Nat)(hn:n+m<=1000000)(hB:B<=w)(C:∀j,O.ownBlock=some j->j<w/\w0<=j):
  ∃a c o,(Builtin.append_ #[37,37] 37 #[O,EJ wr m m]).run prog (wr.alloc (.cells (marks x m).toArray 73))=.ok (.slice a (n+m) c) o/\qi w0 w O x B (p++[(.slice a (n+m) c,n+m)]) o:=by
 have i:DY wr (wr.alloc (.cells (marks x m).toArray 73)):=F9;have K:(wr.alloc (.cells (marks x m).toArray 73)).heap.size=wr.heap.size+1:=Ev;have y:=h.size;have J:=h.h.size;have⟨N,o,H,A,q,E,f⟩:=more x B (wr.alloc (.cells (marks x m).toArray 73)) O n m m (EN wr 0) ((h.marks _ r).1.h i) (λj u G=>by
  rw[Bc,Cr,Bb wr _ _ j,CO];exact G) hn U
 have F:=q.size;have b:∀k,k<wr.heap.size->O.ownBlock≠some k->o.heap[k]?=wr.heap[k]?:=λk hk d=>by
  rw[q.block k U (λe=>d e.symm)];exact AL _ _ _ hk
 have⟨a,L,c,v⟩:=Ei A;subst v;have s:L=n+m:=by
  rcases A.2 with ⟨z,M⟩|⟨g,cap,D,z,_⟩
  .cases z;omega
  .cases z;rfl
 subst s;refine⟨a,c,o,H,U,?_,λk hk d=>?_,(h.h.alloc U _).grown q U (λk hk=>(C k hk).2),λt l=>?_⟩
 .rw[b _ y (λe=>by have:=(C _ e).1;omega)];exact h.box
 .rw[b k U d];exact h.keep k hk d
 .rcases Bj.1 l with l|l
  .exact⟨f _ _ ((h.marks t l).1.h i),(h.marks t l).2⟩
  grind
structure Kp where
 l:Value
 g1:Value
 g2:Value
 g3:Value
 n:Nat
 x:It
def Kp.cells(k:Kp):List Value:=[k.l,k.g1,k.g2,k.g3,Z k.n,Z k.x.1,.string k.x.2]
def Kp.lists(k:Kp):List (Value×Nat):=[(k.l,k.n),(k.g1,k.n+1),(k.g2,k.n+2),(k.g3,k.n+3)]
def QQ:List Kp->List Value
 |[]=>[]
 |k :: L=>k.cells++QQ L
theorem VR:∀(L:List Kp) (k:Kp),QQ (L++[k])=QQ L++k.cells
 |[],k=>by simp[QQ]
 |y :: L,k=>by simp only[BB,QQ,VR L k,Bs]
structure Bk(w0:Aa)(b:Nat)(L:List Kp)(K:Ad)(w:Aa):Prop where
 cell:w.heap[b]?=some (.cells #[K] 78 (0,0))
 row:w.ownsRow w0.heap.size 155 7 K L.length (QQ L)
 b0:w0.heap.size<=b
 kb:K.ownBlock≠some b
 h:Below w0.heap.size w0 w
 a:∀k∈L,k.n<=100000/\∀t∈k.lists,(∃B,Marks B k.x w t.1 t.2)/\t.1.ownBlock≠some b/\∀j,t.1.ownBlock=some j->K.ownBlock≠some j
theorem Bk.go{L:List Kp}(h:Bk w0 b L K w)(a:DY w w'):Bk w0 b L K w':=
 ⟨by rw[a.block b (Dv h.cell)];exact h.cell,ER h.row a,h.b0,h.kb,h.h.trans (a.mono h.h.size),λk hk=>⟨(h.a k hk).1,λt d=>by
  have⟨⟨B,c⟩,r⟩:=(h.a k hk).2 t d;exact⟨⟨B,c.h a⟩,r⟩⟩⟩
end V
def GK(l:List Int):List Value:=l.map λn=>Value.int .i64 n
def KG(l:List (List UInt8)):List Value:=l.map λs=>Value.string (str s)
def FN(f:R.Fl):List Value:=[Z f.to,.string (str f.s),.bool f.a]
theorem FY(f:R.Fl):(FN f).length=3:=rfl
structure Lg(w:Aa)(F:D9)(V:Ad)(l:List R.En):Prop where
 row:∃es:List (R.En×Value×Value),es.map (·.1)=l/\w.ownsRow 0 45 7 V es.length (tab IQ es)/\∀y∈es,Gg w F y.2.1 y.1.arg/\Gg w F y.2.2 y.1.D
 own:∀j,V.ownBlock=some j->F j
structure Rs(w:Aa)(F:D9)(V:Ad)(l:R.Ln):Prop where
 it:Gg w F V l.D
 no:l.d≠2->l.D=[]
def IA(j:R.Jb):List Value:=[Z j.f,Z j.H,Z j.b,Z j.a]
def Yb(w:Aa)(F:D9)(V:Ad)(js:List R.Jb):Prop:=(js=[]/\V=.slice none 0 0)\/∃g off cap cur,V=.slice (Y g (off*4)) js cap/\F g/\w.heap[g]?=some (.cells cur 229 (0,0))/\js<=cap/\(off+cap)*4<=cur/\cap<=maxLen/\∀(k:Nat) (j:R.Jb),js[k]?=j->∀(o:Nat) (u:Ad),(IA j)[o]?=u->cur[(off+k)*4+o]?=u
structure QH(w:Aa)(F:D9)(zs:List (R.Sv×Value))(J:Ad)(js:List R.Jb):Prop where
 c:∀z∈zs,Lg w F z.2 z.1.log
 apart:∀(i j:Nat) (z y:R.Sv×Value),zs[i]?=some z->zs[j]?=some y->i≠j->∀k,z.2.ownBlock=some k->y.2.ownBlock≠some k
 d:Yb w F J js
theorem Lg.keep{V:Ad}{l:List R.En}(h:Lg w F V l)(hk:DF E w w')(e:∀{b:Nat} {r:Array Value} {t:Ag},Dy w b r t->(t=45\/t=73\/t=229)->F b->¬E b)(d:∀k,F k->F' k):Lg w' F' V l:=by
 have⟨o,p,i,m⟩:=h.row;refine⟨⟨o,p,hk.row i (λj c=>?_),λy n=>⟨(m y n).1.keep hk (λb a f hc=>e hc (Am (Aj I)) f) d,(m y n).2.keep hk (λb a f hc=>e hc (Am (Aj I)) f) d⟩⟩,λj c=>d j (h.own j c)⟩;rcases i.2 with ⟨rfl,_⟩|⟨g,cap,a,rfl,_,q,_⟩
 .cases c
 .cases c;exact e q (Aj I) (h.own g I)
theorem Yb.keep{V:Ad}{l:List R.Jb}(h:Yb w F V l)(hk:DF E w w')(j:∀{b:Nat} {m:Array Value},Dy w b m 229->F b->¬E b)(i:∀k,F k->F' k):Yb w' F' V l:=by
 rcases h with h|⟨g,off,cap,a,e,c,d,f⟩
 .exact Aj h
 .exact Am ⟨g,off,cap,a,e,i g c,hk.at d (j d c),f⟩
theorem QH.sG(h:QH w F zs J js)(hk:DF E w w')(c:∀{b:Nat} {f:Array Value} {t:Ag},Dy w b f t->(t=45\/t=73\/t=229)->F b->¬E b)(a:∀k,F k->F' k):QH w' F' zs J js:=
 ⟨λz hz=>(h.c z hz).keep hk c a,h.apart,h.d.keep hk (λd e=>c d (Am (Am rfl)) e) a⟩
theorem QH.keep(h:QH w F zs J js)(hk:DF E w w')(c:∀{b:Nat} {e:Array Value} {t:Ag},Dy w b e t->(t=45\/t=73\/t=229)->¬E b)(a:∀k,F k->F' k):QH w' F' zs J js:=h.sG hk (λd q _=>c d q) a
theorem Rs.keep{V:Ad}(h:Rs w F V l)(hk:DF E w w')(c:∀b a,F b->Dy w b a 73->¬E b)(d:∀k,F k->F' k):Rs w' F' V l:=⟨h.it.keep hk c d,h.no⟩
theorem Rs.nil(w:Aa)(F:D9)(h:l.D=[]):Rs w F Dz l:=by grind [Rs,Gg.nil]
def Ew(z:R.Sv×Value):List Value:=[Z z.1.J,.bool z.1.T,z.2]
theorem MD(z:R.Sv×Value):(Ew z).length=3:=rfl
def Ui(z:R.Ln×Value):List Value:=[Z z.1.a,Z z.1.d,z.2,Z z.1.c,.string z.1.to,.string (str z.1.b),Z z.1.X,.string (str z.1.H),Z z.1.f,Z z.1.C,Z z.1.e]
theorem jO(z:R.Ln×Value):(Ui z).length=11:=rfl
structure CE where
 bv:Value
 lb:Nat
def bD(z:R.Cl×CE):List Value:=[Z z.1.b,z.2.bv,EJ z.2.lb z.1.a z.1.a]
theorem P5(z:R.Cl×CE):(bD z).length=3:=rfl
def Rk(r:R.Sn):List Value:=[Z r.a,Z r.c,.string (str r.b),Z r.f,Z r.d,.string (str r.D),Z r.at',.bool r.g,Z r.C,Z r.e]
theorem XT(r:R.Sn):(Rk r).length=10:=rfl
structure RV where
 N:Value
 S:Value
 V:Value
 Fl:Value
 C:Value
 L:Nat
 Sn:Nat
 J:Value
 zs:List (R.Sv×Value)
 zc:List (R.Cl×CE)
abbrev Ey(b:Nat):Value:=.pointer (Y b 0)
abbrev Iv(c:R.Cf)(v:RV):Array Value:=#[Z c.b,Z c.a,Z c.c,Z c.e,Z c.d,v.N,v.S,v.V,v.Fl,v.C,EJ v.L 3 3,EJ v.Sn 9 9,v.J]
structure RM(x:Nat)(v:RV)(F:D9)(G:R.Wd)(w:Aa):Prop where
 bx:w.heap[x]?=some (.cells (Iv G.c v) 186 (0,0))
 e:w.ownsRow 0 9 1 v.N G.e.length (KG G.e)
 f:w.ownsRow 0 3 1 v.S G.f.length (GK G.f)
 zs:v.zs.map (·.1)=G.a
 a:w.ownsRow 0 234 3 v.V v.zs.length (tab Ew v.zs)
 c:QH w F v.zs v.J G.d
 X:w.ownsRow 0 278 3 v.Fl G.D.length (tab FN G.D)
 zc:v.zc.map (·.1)=G.b
 cl:w.ownsRow 0 189 3 v.C v.zc.length (tab bD v.zc)
 d:∀(i:Nat) (z:R.Cl×CE),v.zc[i]?=some z->w.ownsRow 0 3 1 z.2.bv z.1.d.length (GK z.1.d)
 ln:∀(i:Nat) (z:R.Cl×CE),v.zc[i]?=some z->∃zl:List (R.Ln×Value),zl.map (·.1)=z.1.a/\w.heap[z.2.lb]?=some (.cells (tab Ui zl).toArray 222 (0,0))/\∀y∈zl,Rs w F y.2 y.1
 C:w.heap[v.L]?=some (.cells (GK G.C).toArray 3 (0,0))
 J:w.heap[v.Sn]?=some (.cells (tab Rk G.J).toArray 227 (0,0))
 A:F x/\F v.L/\F v.Sn
 rows:∀j,(v.N.ownBlock=some j\/v.S.ownBlock=some j\/v.V.ownBlock=some j\/v.Fl.ownBlock=some j\/v.C.ownBlock=some j)->F j
 b:∀(i:Nat) (z:R.Cl×CE),v.zc[i]?=some z->F z.2.lb/\∀j,z.2.bv.ownBlock=some j->F j/\j≠v.L/\v.S.ownBlock≠some j
 sL:v.S.ownBlock≠some v.L
 inj:∀(i j:Nat) (z y:R.Cl×CE),v.zc[i]?=some z->v.zc[j]?=some y->i≠j->z.2.lb≠y.2.lb/\∀k,z.2.bv.ownBlock=some k->y.2.bv.ownBlock≠some k
 lt:∀k,F k->k<w.heap.size
theorem RM.y{v:RV}(h:RM x v F G w)(hk:DF E w w')(a:∀k,F k->¬E k):RM x v F G w':=by
 have⟨f,g,l⟩:=h.A;refine⟨hk.at h.bx (a _ f),hk.row h.e (λj c=>a j (h.rows j (Aj c))),hk.row h.f (λj c=>a j (h.rows j (Am (Aj c)))),h.zs,hk.row h.a (λj c=>a j (h.rows j (Am (Am (Aj c))))),h.c.sG hk (λ_ _ d=>a _ d) (λ_ q=>q),hk.row h.X (λj c=>a j (h.rows j (Am (Am (Am (Aj c)))))),h.zc,hk.row h.cl (λj c=>a j (h.rows j (Am (Am (Am (Am c)))))),λi z hz=>hk.row (h.d i z hz) (λj c=>a j ((h.b i z hz).2 j c).1),λi z hz=>?_,hk.at h.C (a _ g),hk.at h.J (a _ l),h.A,h.rows,h.b,h.sL,h.inj,λk d=>Ai (h.lt k d) hk.size⟩;have⟨s,m,n,o⟩:=h.ln i z hz;exact⟨s,m,hk.at n (a _ (h.b i z hz).1),λy r=>(o y r).keep hk (λb e p _=>a b p) (λ_ q=>q)⟩
theorem RM.h{v:RV}(h:RM x v F G w)(a:DY w w'):RM x v F G w':=h.y (DF.J a (λ_=>False)) (λ_ _ h=>h)
structure RW(x:Nat)(v:RV)(F:D9)(G:R.Wd)(w:Aa):Prop extends RM x v F G w where
 wf:R.Wf G
 g:R.MX G.c G.C G.J G.d
theorem RW.mem{v:RV}(h:RW x v F G w):RM x v F G w:=h.toRM
theorem RM.whole{v:RV}(h:RM x v F G w)(a:R.Wf G)(hc:R.MX G.c G.C G.J G.d):RW x v F G w:=⟨h,a,hc⟩
theorem RW.y{v:RV}(h:RW x v F G w)(hk:DF E w w')(a:∀k,F k->¬E k):RW x v F G w':=⟨h.toRM.y hk a,h.wf,h.g⟩
theorem RW.h{v:RV}(h:RW x v F G w)(a:DY w w'):RW x v F G w':=⟨h.toRM.h a,h.wf,h.g⟩
theorem J3{xs:Ae}(h:w.ownsRow B e size K n xs)(hj:K.ownBlock=j):∃cur,Dy w j cur e:=by
 exact ab5
theorem Fg{xs:Ae}(h:w.ownsRow B e size K n xs){c:Array Value}(d:Dy w b c t)(a:e≠t):K.ownBlock≠b:=by grind [J3]
theorem OP{xs b:Ae}(h:w.ownsRow B e size K n xs)(c:w.ownsRow B' t size' M n' b)(a:e≠t):∀j,K.ownBlock=some j->M.ownBlock≠j:=by grind [J3]
theorem RM.YV{v:RV}(h:RM x v F G w)(hk:DF (λk=>k=x\/v.Fl.ownBlock=k) w w')(H:Dy w' x (Iv G.c {v with Fl:=K}) 186)(s:w'.ownsRow 0 278 3 K fl (tab FN fl))(P:∀j,K.ownBlock=some j->v.Fl.ownBlock=j\/w<=j):∃u p,RM x u p {G with D:=fl} w'/\D8 F p w w'/\u.zc=v.zc:=by
 have⟨r,B,C⟩:=h.A;have o:∀k,(k=x\/v.Fl.ownBlock=some k)->F k:=λk hk=>by
  rcases hk with rfl|hk
  .exact r
  .exact h.rows k (Am (Am (Am (Aj hk))))
 have g:∀{b:Nat} {N:Array Value} {t:Ag},Dy w b N t->t≠186->t≠278->¬(b=x\/v.Fl.ownBlock=some b):=λc m d e=>by
  rcases e with rfl|e
  .exact ES c h.bx m I
  .exact Fg h.X c (λq=>d q.symm) e
 have l:∀{n size:Nat} {e:Ag} {M:Ad} {L:Ae},w.ownsRow 0 e size M n L->e≠186->e≠278->∀j,M.ownBlock=some j->¬(j=x\/v.Fl.ownBlock=some j):=λs m d j f=>by
  grind [J3]
 refine⟨{v with Fl:=K},λk=>F k\/K.ownBlock=some k,⟨H,hk.row h.e (l h.e Em Em),hk.row h.f (l h.f Em Em),h.zs,hk.row h.a (l h.a Em Em),h.c.keep hk (λc q=>g c (by rcases q with rfl|rfl|rfl<;>decide) (by rcases q with rfl|rfl|rfl<;>decide)) (λ_ q=>Aj q),s,h.zc,hk.row h.cl (l h.cl Em Em),λi z hz=>hk.row (h.d i z hz) (l (h.d i z hz) Em Em),λi z hz=>?_,hk.at h.C (g h.C Em Em),hk.at h.J (g h.J Em Em),⟨Aj r,Aj B,Aj C⟩,λj f=>?_,λi z hz=>⟨Aj (h.b i z hz).1,λj f=>⟨Aj ((h.b i z hz).2 j f).1,((h.b i z hz).2 j f).2⟩⟩,h.sL,h.inj,λk a=>?_⟩,⟨hk.mono (λk _ a=>o k a),λk a=>?_⟩,I⟩
 .have⟨O,m,d,E⟩:=h.ln i z hz;exact⟨O,m,hk.at d (g d Em Em),λy J=>(E y J).keep hk (λb A _ c=>g c Em Em) (λ_ q=>Aj q)⟩
 .rcases f with q|q|q|q|q
  .exact Aj (h.rows j (Aj q))
  .exact Aj (h.rows j (Am (Aj q)))
  .exact Aj (h.rows j (Am (Am (Aj q))))
  .exact Am q
  .exact Aj (h.rows j (Am (Am (Am (Am q)))))
 .rcases a with a|a
  .exact Ai (h.lt k a) hk.size
  grind [J3]
 grind
theorem RM.Ms{v:RV}(h:RM x v F G w)(hk:DF (λk=>k=x\/v.Fl.ownBlock=k) w w')(e:Dy w' x (Iv G.c {v with Fl:=K}) 186)(d:w'.ownsRow 0 278 3 K fl (tab FN fl))(c:∀j,K.ownBlock=some j->v.Fl.ownBlock=j\/w<=j):∃b a,RM x b a {G with D:=fl} w'/\D8 F a w w':=by grind [RM.YV]
theorem RW.Ms{v:RV}(h:RW x v F G w)(b:R.Wf {G with D:=fl})(hk:DF (λk=>k=x\/v.Fl.ownBlock=k) w w')(f:Dy w' x (Iv G.c {v with Fl:=K}) 186)(e:w'.ownsRow 0 278 3 K fl (tab FN fl))(d:∀j,K.ownBlock=some j->v.Fl.ownBlock=j\/w<=j):∃c a,RW x c a {G with D:=fl} w'/\D8 F a w w':=by
 have⟨c,a,g,i⟩:=h.toRM.Ms hk f e d;exact⟨c,a,⟨g,b,h.g⟩,i⟩
namespace V
variable {K' O T g1 g2 g3 lv:Value}{w0 w5 wr:World}
structure Bo(b:Nat)(L:List Kp)(lv K:Ad)(w:Aa):Prop where
 cell:w.heap[b]?=some (.cells #[lv,K] 80 (0,0))
 row:w.ownsRow 0 155 7 K L.length (QQ L)
 a:∀k∈L,k.n<=100000/\∀t∈k.lists,∃B,Marks B k.x w t.1 t.2
def OY(b:Nat)(L:List Kp)(K:Ad):D9:=λj=>j=b\/K.ownBlock=j\/∃k∈L,∃t∈k.lists,t.1.ownBlock=j
theorem Bo.keep{L:List Kp}{E:D9}(h:Bo b L lv K w)(hk:Go.Proofs.YtblomippkddgiabGreatDoor.DF E w w')(c:∀j,OY b L K j->¬E j):Bo b L lv K w':=
 ⟨hk.at h.cell (c _ (Aj rfl)),hk.row h.row (λj d=>c j (Am (Aj d))),λk a=>⟨(h.a k a).1,λt e=>by
  have⟨B,f⟩:=(h.a k a).2 t e;exact⟨B,hk.row f (λj d=>c j (Am (Am ⟨k,a,t,e,d⟩)))⟩⟩⟩
theorem Bo.h{L:List Kp}(h:Bo b L lv K w)(a:DY w w'):Bo b L lv K w':=h.keep (Go.Proofs.YtblomippkddgiabGreatDoor.DF.J a (λ_=>False)) (λ_ _ q=>q)
theorem Bo.lt{L:List Kp}(h:Bo b L lv K w)(a:OY b L K j):j<w:=by
 rcases a with rfl|a|⟨k,hk,t,d,a⟩
 .exact Dv h.cell
 .exact(h.row.lt j a).2
 .have⟨B,c⟩:=(h.a k hk).2 t d;exact(c.lt j a).2
theorem Bo.kb{L:List Kp}(h:Bo b L lv K w):K.ownBlock≠b:=Fg h.row h.cell Em
theorem Bo.apart{L:List Kp}(h:Bo b L lv K w){xs:Ae}(a:w.ownsRow B 73 2 T n xs):T.ownBlock≠b/\∀j,T.ownBlock=some j->K.ownBlock≠j:=by grind [Bo,Fg,OP]
theorem yw{L:List Kp}{x:It}{o:Obj}(h:Bo b L lv K w)(f:DY w0 w)(v:qi w0 w O x B [(O,n),(g1,n+1),(g2,n+2),(g3,n+3)] wr)(hn:n<=100000)
  (P:∀j,O.ownBlock=some j->j<w/\j≠b/\K.ownBlock≠j/\∀k∈L,∀t∈k.lists,t.1.ownBlock≠j)
  (F:w5.ownsRow 0 155 7 K' (L+1) (QQ L++(Kp.mk O g1 g2 g3 n x).cells)) (s:(wr.alloc o).grownBy w5 K.ownBlock) (Q:K'.ownBlock=K.ownBlock\/K'.ownBlock=some (wr.heap.size+1)):
  w5.heap[b]?=some (.cells #[lv,K] 80 (0,0))/\Bo b (L++[Kp.mk O g1 g2 g3 n x]) lv K' (w5.setCell (Y b 1) K')/\D8 (λj=>OY b L K j\/O.ownBlock=j) (OY b (L++[Kp.mk O g1 g2 g3 n x]) K') w (w5.setCell (Y b 1) K'):=by
 have y:=Dv h.cell;have T:=v.size;have S:=s.size;have W:(wr.alloc o).heap.size=wr.heap.size+1:=Ev;have m:∀k,k<wr.heap.size->K.ownBlock≠some k->w5.heap[k]?=wr.heap[k]?:=λk hk l=>by
  rw[s.block k U (λe=>l e.symm)];exact AL _ _ _ hk
 have c:∀k,k<w.heap.size->O.ownBlock≠some k->K.ownBlock≠some k->w5.heap[k]?=w.heap[k]?:=λk hk H J=>(m k U J).trans (v.keep k hk H)
 have r:w5.heap[b]?=some (.cells #[lv,K] 80 (0,0)):=by
  rw[c b y (λe=>(P b e).2.1 I) h.kb];exact h.cell
 have G:∀k,k≠b->(w5.setCell (Y b 1) K').heap[k]?=w5.heap[k]?:=by grind [Below.heap_setCell]
 have A:K'.ownBlock≠some b:=by grind [V.Bo.kb]
 have C:∀j,K.ownBlock=some j->j<w.heap.size:=λj E=>(h.row.lt j E).2
 have hold:∀k∈L,∀t∈k.lists,∃q,Marks q k.x w t.1 t.2/\t.1.ownBlock≠some b/\∀j,t.1.ownBlock=some j->K.ownBlock≠some j:=λk hk t u=>by
  have⟨q,d⟩:=(h.a k hk).2 t u;exact⟨q,d,h.apart d⟩
 refine⟨r,⟨?_,?_,λk hk=>?_⟩,⟨?_,λj E=>?_⟩⟩
 .simp only[World.setCell,Cv,r];simp
 .grind [VR,Jl]
 .rcases Bj.1 hk with hk|hk
  .refine⟨(h.a k hk).1,λt u=>?_⟩;have⟨q,d,l,N⟩:=hold k hk t u;refine⟨q,Jl d λg i=>?_⟩;have z:=(d.lt g i).2
   grind
  .simp only[Bg]at hk;subst hk;refine⟨hn,λt u=>?_⟩;have⟨d,D⟩:=v.marks t u;have l:t.1.ownBlock≠some b/\∀j,t.1.ownBlock=some j->K.ownBlock≠some j:=by grind
   refine⟨B,Jl d λg i=>?_⟩;have z:=(d.lt g i).2
   grind
 .have a:=v.h;have M:Go.Proofs.YtblomippkddgiabGreatDoor.DF (λj=>OY b L K j\/O.ownBlock=some j) w w5:=by
   refine⟨?_,?_,?_,U,λk hk hn=>c k hk (λe=>hn (Am e)) (λe=>hn (Aj (Am (Aj e))))⟩
   .exact(s.os.trans a.os).trans f.os.symm
   .exact(s.tape.trans a.tape).trans f.tape.symm
   .exact(s.output.trans a.output).trans f.output.symm
  exact M.setCell (p:=Y b 1) (Aj (Aj (Aj I))) K'
 grind [qi,V.Kp.lists,OY]
end V
namespace R
variable {d:Cd}{c:Cl}{kind life lines of' u:Int}{bound st:List Int}{name rb s:List UInt8}{l l':Ln}{k:Nat}{p:Pk}{r r':Sn}{G G':Wd}
theorem vM(life:Int):Tm life Ic:=⟨λ_=>rfl,by simp[Ic],by simp[Ic],by simp[Ic],by simp[Ic],by simp[Ic],by simp[Ic]⟩
theorem Gw{c:Cf}(h:GA c):MX c [0,0,0] (List.replicate 9 Ic) []:=by
 refine⟨I,Ev,Ev,λi r a=>?_,?_,Ev⟩;all_goals grind [vM,GA]
theorem ada(M:Bk)(sv:List Sv)(i:Nat)life(b:List Int)(k:Nat):JH M sv i life b k Vm:=⟨by simp[Vm],by simp[Vm],by simp[Vm],by simp[Vm],by simp[Vm]⟩
theorem sS:O0 Vm:=⟨by simp[Vm],by simp[Vm]⟩
theorem Yw(h:(RF life lines).a[k]?=l):l=Vm:=by grind [RF]
theorem Inv.new{c:Cf}(h:fh c=G):Inv (λ_=>none) G:=by
 unfold fh at h;split at h
 .rename_i hc;cases h;have e:∀(i:Nat) (x:Cl),(List.replicate c.b.toNat (RF 1 c.a))[i]?=some x->x=RF 1 c.a:=λi x b=>by
   grind
  have d:=hc;unfold GA at d;refine⟨⟨hc,Fy,λi x b=>?_,Ev,Ev,Ev,Ev,Ev,Ev,Ev,Ev⟩,Gw hc,Ev,λi x k l b hl=>?_,Ev,λi r a f=>?_,Ev,Ev,Ev,λi x b=>?_⟩
  .rw[e i x b];exact⟨by simp[RF];omega,by simp[RF],by simp[RF],λk l hl=>by rw[Yw hl];exact sS⟩
  .grind [Yw,ada]
  .simp only[Be]at a;split at a
   .cases a;exact absurd I f
   .cases a
  grind [RF]
 .cases h
theorem VP(G:Wd)uid(u:Nat):(GR G uid).a[u]?=(G.a[u]?).map λs=>if (uid-1).toNat=u then {s with T:=false} else s:=by grind [GR]
theorem Inv.end{M:Bk}(h:Inv M G)uid(hu:1<=uid):Inv M (GR G uid):=by
 have m:∀(u:Nat) (s:Sv),G.a[u]?=some s->∃a,(GR G uid).a[u]?=some a/\a.J=s.J/\a.log=s.log/\(a.T=true->s.T=true)/\((uid-1).toNat≠u->a=s):=λu s g=>by
  grind [VP]
 have z:∀u:Nat,G.a[u]?=none->(GR G uid).a[u]?=none:=λu g=>by rw[VP,g];rfl
 have E:Gr G.a (GR G uid).a:=by
  refine⟨by simp[GR],λu s g=>?_⟩;have⟨a,n,o,w,_⟩:=m u s g;exact⟨a,n,o,[],by simp[w]⟩
 have B:∀(u:Nat) (a:Sv),(GR G uid).a[u]?=some a->∃s,G.a[u]?=some s/\a.J=s.J/\a.log=s.log/\(a.T=true->s.T=true):=λu a g=>by
  grind
 have x:∀u,Mj (GR G uid).a u=Mj G.a u:=λu=>by
  unfold Mj;cases b:G.a[(u-1).toNat]? with
  |none=>rw[z _ b]
  |some s=>
   have⟨s2,n,o,w,P,_⟩:=m _ s b;rw[n];exact w
 have H:∀u,u≠uid->1<=u->Jt (GR G uid).a u=Jt G.a u:=λu j n=>by
  unfold Jt;cases b:G.a[(u-1).toNat]? with
  |none=>rw[z _ b]
  |some s=>
   have⟨s2,C,_,_,_,O⟩:=m _ s b;rw[C,O U]
 have A:∀(i:Nat) (v:Sn),(GR G uid).J[i]?=some v->∃r,G.J[i]?=some r/\v=(if r.c=uid/\r.d<3 then {r with d:=4} else r):=λi v F=>by
  grind [GR]
 refine⟨h.wf.ends uid,⟨h.ws.ll,h.ws.lv,by simpa [GR] using h.ws.sl,λi v F=>?_,h.ws.jl,h.ws.jb⟩,λk d hd=>⟨(h.bk k d hd).1.grow E,(h.bk k d hd).2⟩,λi c k l hc hl=>(h.ln i c k l hc hl).grow (Le.refl M) E (λ_ q=>q),λf L=>(h.fl f L).grow (Le.refl M) E,λi v F j=>?_,λu a g=>?_,λu a e g K D=>?_,h.jb,h.lv⟩
 .obtain⟨r,b,rfl⟩:=A i v F;have q:=h.ws.sn i r b;by_cases t:r.c=uid/\r.d<3
  .rw[Ay t];have p:r.a≠0:=λe=>by
    have:=q.zero e;rw[this]at t;have:Ic.c=0:=rfl;omega
   have N:r.g=false:=by
    cases e:r.g with
    |false=>rfl
    |true=>have:=(q.g e).1;omega
   exact⟨λe=>absurd e p,q.a,λ_=>⟨(q.some p).1,(q.some p).2.1,Ev⟩,Ev,Ev,Ev,by simp[N]⟩
  .rw[Ao t];exact q
 .obtain⟨r,b,rfl⟩:=A i v F;by_cases t:r.c=uid/\r.d<3
  .rw[Ay t]at j ⊢;have⟨d,q⟩:=h.sn i r b j;exact⟨d,q.Q,q.c,Ev,Ev,Ev,Ev⟩
  .rw[Ao t]at j ⊢;have⟨d,q⟩:=h.sn i r b j;refine⟨d,q.Q,q.c,q.b,q.C,λg=>?_,λg=>?_⟩
   .have⟨C,J⟩:=q.open' g;have y:d.c≠uid:=λe=>t ⟨by rw[q.c];exact e,U⟩
    have n:=(h.bk _ d q.Q).1.c.1;exact⟨by rw[H d.c y n];exact C,by rw[x];exact J⟩
   .have⟨e,D⟩:=q.h g;exact⟨e,D.grow E⟩
 .have⟨s,b,n,o,_⟩:=B u a g;have q:=h.lg u s b;exact⟨by rw[o];exact q.each,by rw[o];exact q.ord,by rw[n,o];exact q.told⟩
 .have⟨s,b,n,o,w⟩:=B u a g;rw[o]at D;have q:=h.a u s e b (w K) D;rcases q with q|⟨C,J⟩
  .exact Aj q
  .refine Am ⟨C,Dj J ?_⟩;unfold Vu
   grind [GR]
theorem Inv.fT{M:Bk}(h:Inv M G){nm:List (List UInt8)}(a:Wf {G with e:=nm,f:=st}):Inv M {G with e:=nm,f:=st}:=⟨a,h.ws,h.bk,h.ln,h.fl,h.sn,h.lg,h.a,h.jb,h.lv⟩
theorem Inv.serve{M:Bk}(h:Inv M G)(w:Wf {G with a:=G.a++[⟨kind,true,[]⟩]}):Inv M {G with a:=G.a++[⟨kind,true,[]⟩]}:=by
 have n:Gr G.a (G.a++[⟨kind,true,[]⟩]):=⟨Ev,λu s b=>⟨s,by rw[A6 (GG b)];exact b,I,[],Ev⟩⟩;have j:∀(u:Nat) (g:Sv),(G.a++[⟨kind,true,[]⟩])[u]?=some g->G.a[u]?=some g\/g=⟨kind,true,[]⟩:=λu g b=>by
  grind
 have hk:∀d:Cd,R9 G.a d->Mj (G.a++[⟨kind,true,[]⟩]) d.c=Mj G.a d.c/\Jt (G.a++[⟨kind,true,[]⟩]) d.c=Jt G.a d.c:=λd hd=>by
  have hu:=hd.c;have:(d.c-1).toNat<G.a.length:=U;unfold Mj Jt;rw[A6 this];exact DN
 refine⟨w,h.ws,λk d hd=>⟨(h.bk k d hd).1.grow n,(h.bk k d hd).2⟩,λi c k l hc hl=>(h.ln i c k l hc hl).grow (Le.refl M) n (λ_ q=>q),λf t=>(h.fl f t).grow (Le.refl M) n,λi r v o=>?_,λu g b=>?_,λu g e b p m=>?_,h.jb,h.lv⟩
 .have⟨d,q⟩:=h.sn i r v o;have⟨x,k2⟩:=hk d (h.bk _ d q.Q).1;refine⟨d,q.Q,q.c,q.b,q.C,λb=>?_,λb=>?_⟩
  .have⟨y,z⟩:=q.open' b
   grind
  .have⟨e,m⟩:=q.h b;exact⟨e,m.grow n⟩
 .rcases j u g b with q|rfl
  .exact h.lg u g q
  .exact⟨Ev,Ev,by simp[Told]⟩
 .rcases j u g b with q|rfl
  .exact h.a u g e q p m
  .cases m
theorem aH(h:Wf G)(a:Gi G name=k):G.f.getD k 0∈G.f:=by
 have b:k<G.f.length:=by rw[h.st];exact((Bi.1 (Jp a)).1)
 grind
theorem Inv.export{M:Bk}(h:Inv M G)(name:Ac)kind:Inv M (E4 G name kind).2:=by
 have b:=h.wf.export name kind;unfold E4 at b ⊢;split
 .exact h
 .rename_i g;rw[Ao g]at b;split
  .exact h
  .rename_i i;rw[Ao i]at b;split
   .rename_i c;simp only[c]at b;split
    .exact h
    .rename_i j;rw[Ao j]at b;split
     .exact h
     .rename_i d;rw[Ao d]at b;have e:Wf {G with a:=G.a++[⟨kind,true,[]⟩]}:=h.wf.serve (nm:=G.e) (st:=G.f) U (by have:=h.wf.sv;omega) h.wf.nm h.wf.st h.wf.nd (λu hu=>by have:=h.wf.d u hu;omega);exact(h.serve e).fT b
   .rename_i k c;simp only[c]at b;split
    .exact h
    .rename_i d;rw[Ao d]at b;have f:=h.end (G.f.getD k 0) (h.wf.d _ (aH h.wf c)).1;have hl:(GR G (G.f.getD k 0)).a.length=G.a.length:=by simp[GR]
     exact(f.serve (f.wf.serve (kind:=kind) (nm:=G.e) (st:=G.f) U (by have:=h.wf.sv;rw[hl];omega) h.wf.nm h.wf.st h.wf.nd (λu hu=>by have:=h.wf.d u hu;rw[hl];omega))).fT b
theorem Inv.Iy{M:Bk}(h:Inv M G)(name:Ac):Inv M (Fb G name).2:=by
 have b:=h.wf.Iy name;unfold Fb at b ⊢;split
 .exact h
 .rename_i k a;simp only[a]at b;have c:=h.wf.d _ (aH h.wf a)
  grind [R.Inv.end,R.Inv.fT]
theorem Inv.imports{M:Bk}(h:Inv M G)b(name:Ac):Inv M (FV G b name).2:=by
 have g:=h.wf.imports b name;unfold FV at g ⊢;split
 .exact h
 .rename_i t;rw[Ao t]at g;split
  .exact h
  .rename_i k v;simp only[v]at g;have f:∀(j:Nat) (e:Cl),(G.b.modify b.toNat λc=>{c with d:=c.d++[G.f.getD k 0]})[j]?=some e->∃c,G.b[j]?=some c/\e.b=c.b/\e.a=c.a/\∀u∈c.d,u∈e.d:=λj e D=>by
    all_goals grind
   refine⟨g,h.ws,λq d w=>?_,λi e n l hc hl=>?_,h.fl,h.sn,h.lg,h.a,h.jb,λi e hc=>?_⟩
   .have⟨g1,a,m,n,x,y,E,z,F,A,H,B,C,J⟩:=h.bk q d w;refine⟨g1,a,(if b.toNat=a then {m with d:=m.d++[G.f.getD k 0]} else m),n,x,y,?_,z,?_,A,?_,B,C,?_⟩;all_goals grind
   .have⟨c,o,p,r,s⟩:=f i e hc;rw[r]at hl;rw[p];exact(h.ln i c n l o hl).grow (Le.refl M) (Gr.refl _) s
   .have⟨c,o,p,r,s⟩:=f i e hc;rw[p];exact h.lv i c o
theorem Inv.erase{M:Bk}(h:Inv M G)(k:Nat):Inv M {G with D:=G.D.eraseIdx k}:=by
 refine h.X ⟨h.wf.cf,h.wf.a,λj c hc=>⟨(h.wf.cl j c hc).a,(h.wf.cl j c hc).b,(h.wf.cl j c hc).d,(h.wf.cl j c hc).H⟩,?_,λf a=>h.wf.b f (Cj a),h.wf.sv,h.wf.e,h.wf.nm,h.wf.st,h.wf.nd,h.wf.d⟩ (λf a=>h.fl f (Cj a));have:=List.length_eraseIdx_le (l:=G.D) (i:=k);have:=h.wf.X;simp only;omega
theorem Inv.drop{M:Bk}(h:Inv M G)i:Inv M (JM G i).2:=by grind [JM,R.Inv.erase]
theorem Inv.copy{M:Bk}(h:Inv M G)i:Inv M (JA G i).2:=by
 unfold JA;split
 .exact h
 .split
  .exact h
  .split
   .exact h
   .rename_i f b;refine h.X ⟨h.wf.cf,h.wf.a,λj c hc=>⟨(h.wf.cl j c hc).a,(h.wf.cl j c hc).b,(h.wf.cl j c hc).d,(h.wf.cl j c hc).H⟩,?_,λg a=>?_,h.wf.sv,h.wf.e,h.wf.nm,h.wf.st,h.wf.nd,h.wf.d⟩ (λg a=>?_)
    .grind
    .rcases Bj.1 a with q|q
     .exact h.wf.b g q
     .rw[Bg.1 q];exact h.wf.b f (Ap b)
    .grind [Inv]
theorem aef(a:UInt8){n:Int}(h:1<=n/\n<=255):a ^^^ b8 n≠a:=λe=>by
 have b:b8 n=0:=by
  have:=CG (λx=>a ^^^ x) e;simpa [<-UInt8.xor_assoc] using this
 have:=FP (n:=n) U h.2;rw[b]at this;simp at this;omega
theorem Inv.Sf{M:Bk}(h:Inv M G)(i at' b:Int):Inv M (Jz G i at' b).2:=by
 unfold Jz;split
 .exact h
 .split
  .exact h
  .rename_i f m;have e:=Ap m;split
   .exact h
   .rename_i s;split
    .exact h
    .rename_i l;have a:=h.fl f e;unfold Sc at a;rw[Ao l]at a;have⟨p,n,o,r⟩:=a;have k:at'.toNat<f.s.length:=U;refine h.X ⟨h.wf.cf,h.wf.a,λj c hc=>⟨(h.wf.cl j c hc).a,(h.wf.cl j c hc).b,(h.wf.cl j c hc).d,(h.wf.cl j c hc).H⟩,?_,λg d=>?_,h.wf.sv,h.wf.e,h.wf.nm,h.wf.st,h.wf.nd,h.wf.d⟩ (λg d=>?_)
     .rw[BG];exact h.wf.X
     .rcases BJ d with q|q
      .exact h.wf.b g q
      .rw[q];simpa using h.wf.b f e
     grind [Inv,Sc,ag,aef]
structure At(G:Wd)(i k:Nat)(c:Cl)(l:Ln):Prop where
 cl:G.b[i]?=some c
 ln:c.a[k]?=some l
theorem Oz(G:Wd)to(p:Pk):(E9 G to p).b=G.b:=by unfold E9;split<;>rfl
theorem KX(G:Wd)to(p:Pk):(E9 G to p).J=G.J:=by unfold E9;split<;>rfl
theorem OA(G:Wd)to(p:Pk):(E9 G to p).C=G.C:=by unfold E9;split<;>rfl
theorem Mb(G:Wd)to(p:Pk):(E9 G to p).c=G.c:=by unfold E9;split<;>rfl
theorem At.send(h:At G i k c l)to(p:Pk):At (E9 G to p) i k c l:=by grind [At,Pk,E9,Oz]
theorem At.set(h:At G i k c l)(l':Ln):At (Eh G i k l') i k {c with a:=c.a.set k l'} l':=by grind [Ln,At,Eh,Ft]
theorem At.H(h:At G i k c l):Ia G i k=l:=FH h.cl h.ln
theorem JH.same{M:Bk}{sv:List Sv}(h:JH M sv i life bound k l)(e1:l'.a=l.a)(e2:l'.d=l.d)(e3:l'.c=l.c)(e4:l'.b=l.b)(e5:l'.to=l.to)(e6:l'.f=l.f)(b:l'.H=l.H)(a:l'.D=l.D):JH M sv i life bound k l':=by
 refine⟨by rw[e1,e2];exact h.idle,by rw[e1];exact h.Q,by rw[e1,e2,e3,e4,e5,e6,b];exact h.H,by rw[e1,e2,a];exact h.done,by rw[e2,a];exact h.none⟩
theorem JH.over{M:Bk}{sv:List Sv}(h:JH M sv i life bound k l)(b:l.d=1)(e1:l'.a=l.a)(e2:3<=l'.d)(a:l'.D=l.D):JH M sv i life bound k l':=by
 refine⟨?_,by rw[e1];exact h.Q,λq=>by omega,λq=>by omega,λ_=>by rw[a];exact h.none U⟩;rw[e1];have:=h.idle
 grind
theorem O0.over(h:O0 l)(e1:l'.a=l.a)(e2:l'.d≠1):O0 l':=by grind [O0]
theorem Inv.H{M:Bk}(h:Inv M G)(a:At G i k c l)(b:l.d=1):∃d,M ⟨i,c.b,k,l.a⟩=some d/\l.c=d.c/\l.b=d.h:=by
 have⟨d,e,f,g,_⟩:=(h.ln i c k l a.cl a.ln).H b;exact⟨d,e,f,g⟩
theorem Inv.piece{M:Bk}(h:Inv M G)(a:At G i k c l)(b:l.d=1)(e:l.X<DL l.b)(Ga:Bool):Inv M (EG G i k Ga):=by
 rw[MK a.H];refine h.J (Pv h.wf a.cl a.ln b e Ga) ?_;have⟨d,f,g,j⟩:=h.H a b;refine⟨d,?_,g,Aj ⟨I,I,?_,?_⟩⟩
 .simp only[Ns,JD,GH a.cl];exact f
 all_goals grind [Ns]
theorem Inv.jY{M:Bk}(h:Inv M G)(a:At G i k c l)(b:l.d=1):Inv M (Lq G i k):=by
 rw[V4 a.H];refine h.J (Ow h.wf a.cl a.ln b) ?_;have⟨d,e,f,g⟩:=h.H a b;refine⟨d,?_,f,Am (Am (Aj ⟨I,I⟩))⟩;simp only[Mx,JD,GH a.cl];exact e
def L5(G:Wd)(l:Ln)(d:Cd):Ln:=⟨l.a+1,1,[],d.c,d.to,d.h,0,[],0,G.c.c,G.c.e⟩
inductive acH (G:Wd) (client line uid proc:Int) (arg:List It) (r:(Int×Int)×Wd):Prop
 |no (n:Int) (hn:n≠0) (h:r=((0,n),G))
 |N3 (i k:Nat) (c:Cl) (l:Ln) (d:Cd) (hi:client=i) (hk:line=k) (hat:At G i k c l) (h1:l.d≠1) (hs:l.a≠999) (hb:uid∈c.d) (hu:d.c=uid) (hp:d.g=proc) (ha:d.arg=arg) (hd:R9 G.a d) (h:r=((l.a+1,0),EG (Eh G i k (L5 G l d)) i k false))
theorem jm(h:Wf G)(a b uid c:Int)(arg:List It):acH G a b uid c arg (Gc G a b uid c arg):=by
 generalize hr:Gc G a b uid c arg=r;unfold Gc at hr;split at hr
 .exact .no 13 Em hr.symm
 .rename_i n;split at hr
  .exact .no 14 Em hr.symm
  .rename_i o;split at hr
   .exact .no 15 Em hr.symm
   .rename_i e;split at hr
    .exact .no 16 Em hr.symm
    .rename_i d to f;split at hr
     .exact .no 4 Em hr.symm
     .rename_i bs g;simp only at hr;obtain⟨i,rfl⟩:∃i:Nat,a=(i:Int):=⟨a.toNat,U⟩;obtain⟨k,rfl⟩:∃k:Nat,b=(k:Int):=⟨b.toNat,U⟩;have hi:i<G.b.length:=U;have hc:=Ah hi;have m:=(h.cl i _ hc).a;have hk:k<G.b[i].a.length:=U;have hl:=Ah hk;rw[FH hc hl]at hr;split at hr
      .exact .no 17 Em hr.symm
      .rename_i j;split at hr
       .exact .no 11 Em hr.symm
       .rename_i l;rw[AY,hc]at e;simp only[Ce,Bw,Decidable.not_not]at e;exact .N3 i k G.b[i] G.b[i].a[k] ⟨uid,c,arg,d,to,bs⟩ I I ⟨hc,hl⟩ j l e I I I ⟨((h.cl i _ hc).d uid e),f,g⟩ hr.symm
def upd(M:Bk)(k:Key)(d:Cd):Bk:=λq=>if q=k then d else M q
theorem Inv.called{M:Bk}(h:Inv M G)(b:At G i k c l)(E:l.a≠999)(v:d.c∈c.d)(hd:R9 G.a d):Inv (upd M ⟨i,c.b,k,l.a+1⟩ d) (EG (R.Eh G i k (L5 G l d)) i k false)/\M ⟨i,c.b,k,l.a+1⟩=none:=by
 have f:M ⟨i,c.b,k,l.a+1⟩=none:=by
  cases g:M ⟨i,c.b,k,l.a+1⟩ with
  |none=>rfl
  |some d'=>
   have⟨_,a,C,n,x,z,t,A,B,F,H,J,K,L⟩:=h.bk _ d' g;obtain rfl:i=a:=by simp only at z;omega
   obtain rfl:k=n:=by simp only at A;omega
   rw[b.cl]at t;cases t;rw[b.ln]at B;all_goals grind
 refine⟨?_,f⟩;have D:=SX hd;have m:=h.wf.cf;unfold GA at m;have y:=((h.wf.cl i c b.cl).H k l b.ln).a;have hu:=hd.c;have s:=h.wf.sv;have w:1<=DL d.h:=ID U;have r:O0 (L5 G l d):=⟨by simp only[L5];omega,λ_=>⟨by simp only[L5];omega,by simp only[L5];omega,by simp only[L5];omega,by simp only[L5];omega,by simp only[L5];omega,by simp only[L5];omega⟩⟩;have j:upd M ⟨i,c.b,k,l.a+1⟩ d ⟨i,c.b,k,l.a+1⟩=some d:=by simp[upd]
 have p:JH (upd M ⟨i,c.b,k,l.a+1⟩ d) G.a i c.b c.d k (L5 G l d):=by
  refine⟨?_,λ_=>⟨d,j⟩,λ_=>⟨d,j,I,I,I,v,?_,?_⟩,?_,λ_=>rfl⟩;all_goals grind [L5]
 have o:Le M (upd M ⟨i,c.b,k,l.a+1⟩ d):=λq x g=>by
  all_goals grind [upd]
 have u:=h.aB (N:=upd M ⟨i,c.b,k,l.a+1⟩ d) b.cl b.ln r (by simp only[L5];omega) o (λq x g=>by
  unfold upd at g;split at g
  .rename_i e;cases g;exact Am ⟨e,hd,by simp only[L5];omega⟩
  .exact Aj g) p
 exact u.piece (b.set _) I (by simp only[L5];omega) false
theorem Inv.call{M:Bk}(h:Inv M G)(a b uid f:Int)(arg:List It):∃N,Le M N/\Inv N (Gc G a b uid f arg).2:=by
 rcases jm h.wf a b uid f arg with ⟨n,hn,e⟩|⟨i,k,c,l,d,hi,hk,g,p,m,j,hu,s,r,hd,e⟩
 .rw[e];exact⟨M,Le.refl M,h⟩
 .rw[e];have⟨o,u⟩:=h.called g m (hu ▸ j) hd;refine⟨_,λq x t=>?_,o⟩;unfold upd
  grind
theorem Inv.EM{M:Bk}(h:Inv M G)(a:At G i k c l):Inv M (EM G i k):=by
 unfold R.EM;simp only;rw[a.H];have b:=(h.wf.cl i c a.cl).H k l a.ln;have d:=h.ln i c k l a.cl a.ln;split
 .exact h
 .rename_i f;have f:l.d=1:=Decidable.not_not.1 f;obtain⟨m,n,o,p,u,s⟩:=b.one f;have g:=h.wf.cf;unfold GA at g;split
  .rename_i q;exact h.h a.cl a.ln ⟨b.a,λ_=>⟨m,n,o,p,by simp only;omega,s⟩⟩ (BK _) (d.same I I I I I I I I)
  .split
   .exact h.h a.cl a.ln (b.over I Ev) (BK _) (d.over f I Ev I)
   .rename_i q t;have j:=h.h (l':={l with C:=G.c.c,e:=l.e-1}) a.cl a.ln ⟨b.a,λ_=>⟨m,n,o,p,by simp only;omega,by simp only;omega⟩⟩ (BK _) (d.same I I I I I I I I);split
    .rename_i r;exact j.piece (a.set _) f (LF.1 r) true
    .exact j.jY (a.set _) f
theorem Inv.rest{M:Bk}(h:Inv M G)(a:At G i k c l):Inv M (JS G i k):=by
 unfold JS;rw[a.H];have b:=(h.wf.cl i c a.cl).H k l a.ln;have d:=h.wf.cf;unfold GA at d;refine h.h a.cl a.ln ⟨b.a,λe=>?_⟩ (BK _) ((h.ln i c k l a.cl a.ln).same I I I I I I I I);have⟨f,g,j,m,n,o⟩:=b.one e
 grind
theorem Inv.got{M:Bk}(h:Inv M G)(a:At G i k c l)(f:l.d=1)(m:EC p)(hk:p.H=k):Inv M (LP G i p):=by
 unfold LP;simp only;rw[hk,a.H,GH a.cl];have⟨d,n,o,u⟩:=h.H a f;have hi:=GG a.cl;have g:=GG a.ln;have b:=h.wf.cl i c a.cl;have⟨C,s,D,E,F,H⟩:=(b.H k l a.ln).one f;have t:=(b.H k l a.ln).a;have hn:=h.wf.a;have e:=h.wf.cf;have j:=b.a;unfold GA at e;have⟨v,w,x,y,z,A,q,r,B⟩:=m;refine h.J ⟨Ev,by simp only;omega,b.b,by simp only;omega,by simp only;omega,s,q,r,by simp[Ju]⟩ ⟨d,n,o,Am (Am (Am (Am (Am (Aj ⟨I,I⟩)))))⟩
theorem Md(a:Ac)(n:Nat):a.take (8*n)++EY a n=a.take (8*(n+1)):=by grind [EY]
theorem L6(h:n=DL rb):rb.take (8*n)=rb:=by grind [List.take_of_length_le,DL]
theorem RO(h:n<DL rb):8*n<rb:=by unfold DL at h;omega
theorem Inv.D{M:Bk}(h:Inv M G){c:Cl}{l:Ln}(b:At G i k c l)(u:l.d=1)(w:EC p)(hk:p.H=k){e:En}(hd:M ⟨i,c.b,k,l.a⟩=d)(r:Kz G.a ⟨i,c.b,k,l.a⟩ d e rb)(D:p.off=DL rb)(B:p.d=EY rb p.Ez):Inv M (IL G i p):=by
 have s:=(h.wf.cl i c b.cl).H k l b.ln;have g:=h.ln i c k l b.cl b.ln;have⟨K,L,z,z4,N,O⟩:=s.one u;have⟨P,x,E,F,y,J,T,W⟩:=g.H u;rw[hd]at x;cases x;unfold IL;simp only;rw[hk,b.H];split
 .exact h
 .rename_i S;split
  .rename_i C;obtain⟨n,hn⟩:∃n:Nat,l.f=(n:Int):=⟨l.f.toNat,U⟩;have q:l.H=rb.take (8*n):=by all_goals grind [List.length_eq_zero_iff,R.Inv.unique,Int.toNat_natCast]
   have t:l.H++p.d=rb.take (8*(n+1)):=by rw[q,B,C,hn,Md]
   split
   .rename_i m;have j:l.H++p.d=rb:=by rw[t,L6 (by rw[<-D,<-m,hn];rfl)]
    refine h.h b.cl b.ln (s.over I Ev) (BK _) ⟨?_,g.Q,Ev,λ_=>⟨d,e,rb,hd,r,?_⟩,Ev⟩
    .have:=g.idle;simp only;omega
    .simp only;rw[j,y,Kq r.bytes]
   .rename_i m;have v:((n+1:Nat):Int)<DL rb:=by
     have:=w.2.2.2.2.2.2.2.1;omega
    have Q:=RO v;have A:=h.h (l':={l with H:=l.H++p.d,f:=l.f+1,X:=DL l.b}) b.cl b.ln ⟨s.a,λ_=>⟨K,L,z,by have:=ID z.1;simp only;omega,N,O⟩⟩ (BK _) ⟨g.idle,g.Q,λ_=>⟨d,hd,E,F,y,J,?_,λ_=>⟨e,rb,r,?_,?_⟩⟩,g.done,g.none⟩
    .have o:=b.set {l with H:=l.H++p.d,f:=l.f+1,X:=DL l.b};refine(A.got o u w hk).rest (c:={c with a:=c.a.set k {l with H:=l.H++p.d,f:=l.f+1,X:=DL l.b}}) (l:={l with H:=l.H++p.d,f:=l.f+1,X:=DL l.b}) ?_;unfold LP;exact o.send _ _
    all_goals grind
  .exact h.got b u w hk
theorem Inv.heard{M:Bk}(h:Inv M G)(B:EC p){to:Int}(C:to≠-1)(A:Tj M G.a to p):Inv M (Kl G to p):=by
 have⟨d,hd,hu,hk⟩:=A;have⟨w,i,c,k,l,s,D,q,E,F,H,J,K,L⟩:=h.bk _ d hd;simp only[JD]at s q F H J K L;have b:At G i k c l:=⟨D,E⟩;have o:to=(i:Int):=by grind
 subst o;unfold Kl;simp only;rw[q,b.H,GH b.cl];split
 .exact h
 .rename_i hx;obtain⟨m,u,v⟩:l.d=1/\p.b=c.b/\p.a=l.a:=by
   refine⟨?_,?_,?_⟩<;>omega
  have f:JD p=⟨i,c.b,k,l.a⟩:=by simp[JD,s,u,q,v]
  rw[f]at hd hk;have j:=(h.wf.cl i c b.cl).H k l b.ln;have g:=h.ln i c k l b.cl b.ln;have⟨O,P,Q,z4,S,T⟩:=j.one m;have⟨W,t,w2,N,w4,w5,w6,w7⟩:=g.H m;rw[hd]at t;cases t;split
  .rename_i x;split
   .rename_i ha;have z:p.off=DL d.h:=by grind
    have n:=B.2.2.2.2.2.2.2.1;rw[<-N]at z;have r:=h.h (l':={l with X:=l.X+1}) b.cl b.ln ⟨j.a,λ_=>⟨O,P,Q,by simp only;omega,S,T⟩⟩ (BK _) (g.same I I I I I I I I);have e:=b.set {l with X:=l.X+1};split
    .rename_i y;refine(r.piece e m y false).rest (c:={c with a:=c.a.set k {l with X:=l.X+1}}) (l:={l with X:=l.X+1}) ?_;unfold EG;exact e.send _ _
    .exact r.rest e
   .exact h
  grind [EC,R.Inv.h,R.Inv.rest,R.Inv.D,R.O0.over,R.JH.over]
theorem F7(h:G.J[i]?=r):EZ G i=r:=by simp[EZ,h]
theorem Inv.A{M:Bk}(h:Inv M G)(hi:i<9):G.J[i]?=EZ G i:=by
 have hl:i<G.J.length:=by rw[h.ws.sl];exact hi
 grind [F7]
theorem Inv.XH{M:Bk}(h:Inv M G)(c:EC p)(hd:M (JD p)=d)(hu:p.c=d.c){k:Int}(hk:1<=kind/\kind<=7)(a:1<=of'/\of'<=9)(l:0<=k/\k<of')(b:(kind=2/\of'=DL d.h)\/kind=4\/(kind=7/\of'=2)):Inv M (G8 G p kind k of'):=by
 have⟨m,e,f,g,i,j,n,o,q⟩:=c;unfold G8;refine h.J ⟨hk,e,f,g,i,j,a,by simp only;omega,?_⟩ ⟨d,hd,hu,?_⟩;all_goals grind [Ju]
theorem Uv{k:Int}:8*k+8<s↔k<DL s-1:=by unfold DL;omega
theorem Inv.Jg{M:Bk}(h:Inv M G)(hi:i<9)(g:G.J[i]?=r)(b:r.d=3):
  EC ⟨5,((i / 3:Nat):Int),(G.C[i / 3]?).getD 0,((i % 3:Nat):Int),r.a,r.c,r.at',DL r.D,false,EY r.D r.at'⟩:=by
 have a:=h.ws.sn i r g;have c:r.a≠0:=λe=>by
  rw[a.zero e]at b;cases b
 have⟨a1,a2,a3⟩:=a.some c;have⟨j,k,d,l⟩:=a.h b;have m:=a.a;have f:=h.ws.lv;have:=NB (s:=r.D) d
 grind [EC,List.getElem_mem,List.getElem?_eq_getElem,ID,IV,Ju]
theorem Inv.JU{M:Bk}(h:Inv M G)(hi:i<9)(b:G.J[i]?=r)(a:r.d=3):Inv M (Ex G i):=by
 have f:=h.Jg hi b a;have k:=h.ws.sn i r b;have c:r.a≠0:=λe=>by
  rw[k.zero e]at a;cases a
 unfold Ex;simp only;rw[F7 b];refine h.J f ?_;have⟨d,q⟩:=h.sn i r b c;have⟨e,g⟩:=q.h a;have j:=q.Q;rw[Bu]at j g;exact⟨d,j,q.c,Am (Am (Am (Am (Aj ⟨I,I,e,r.D,g,I,I⟩))))⟩
theorem LK.same{M:Bk}{sv:List Sv}{k:Key}(h:LK M sv k r d)(e1:r'.c=r.c)(e2:r'.d=r.d)(e3:r'.b=r.b)(e4:r'.f=r.f)(e5:r'.D=r.D):LK M sv k r' d:=by grind [LK]
theorem Inv.tell{M:Bk}(h:Inv M G)(hi:i<9)(k:G.J[i]?=r)(c:r.d=3):Inv M (JF G i):=by
 have l:=h.JU hi k c;have b:=h.ws.sn i r k;have a:(Ex G i).J[i]?=some r:=by unfold Ex;rw[KX];exact k
 have m:(Ex G i).c=G.c:=by unfold Ex;rw[Mb]
 have g:(Ex G i).C=G.C:=by unfold Ex;rw[OA]
 unfold JF;simp only;rw[F7 a];have f:=h.wf.cf;unfold GA at f;refine l.T a (BK _) ?_ (λj=>?_)
 .rw[g];refine⟨λe=>?_,b.a,b.some,b.b,b.C,b.h,λ_=>⟨c,by simp only;omega,by simp only;omega⟩⟩;have:=b.zero e;rw[this]at c;cases c
 .have⟨d,q⟩:=l.sn i r a j;exact⟨d,q.same I I I I I⟩
theorem Inv.EH{M:Bk}(h:Inv M G)(hi:i<9):Inv M (EH G i):=by
 have b:=h.A hi;unfold R.EH;simp only;generalize EZ G i=r at b ⊢;have a:=h.ws.sn i r b;have g:=h.wf.cf;unfold GA at g;split
 .exact h
 .rename_i j;have j:r.g=true:=by simpa using j
  obtain⟨f,o,m⟩:=a.g j;have c:r.a≠0:=λe=>by
   rw[a.zero e]at f;cases f
  have z:∀{r':Sn},r'.a=r.a->(r'.a=0->r'=Ic):=λe q=>absurd (e ▸ q) c
  obtain⟨d,q⟩:=h.sn i r b c;split
  .rename_i k;exact h.T b (BK _) ⟨z I,a.a,a.some,a.b,a.C,a.h,λ_=>⟨f,by simp only;omega,m⟩⟩ (λ_=>⟨d,q.same I I I I I⟩)
  .split
   .exact h.T b (BK _) ⟨z I,a.a,a.some,a.b,a.C,a.h,Ev⟩ (λ_=>⟨d,q.same I I I I I⟩)
   .rename_i k n;have l:=h.T (r':={r with C:=G.c.c,e:=r.e-1}) b (BK _) ⟨z I,a.a,a.some,a.b,a.C,a.h,λ_=>⟨f,by simp only;omega,by simp only;omega⟩⟩ (λ_=>⟨d,q.same I I I I I⟩);exact l.JU hi (r:={r with C:=G.c.c,e:=r.e-1}) (by simp[R.EA,(GG b)]) f
theorem U1{i k:Int}:(EM G i k).c=G.c/\(EM G i k).b=G.b.length:=by grind [EM,EG,Lq,Mb,Oz,Eh]
theorem Inv.tick{M:Bk}(h:Inv M G):Inv M (Ni G):=by
 have a:∀(i:Nat) (G:Wd),Inv M G->i<G.b.length->∀n:Nat,(n:Int)<=G.c.a->Inv M ((List.range n).foldl (λw (k:Nat)=>R.EM w (i:Int) (k:Int)) G)/\((List.range n).foldl (λw (k:Nat)=>R.EM w (i:Int) (k:Int)) G).c=G.c/\((List.range n).foldl (λw (k:Nat)=>R.EM w (i:Int) (k:Int)) G).b.length=G.b.length:=by
  intro i G h hi n;induction n with
  |zero=>exact λ_=>⟨h,rfl,rfl⟩
  |succ n ih=>
   intro hn;have⟨b,c,g⟩:=ih U;rw[Cu,CV];simp only[C9,List.foldl_nil];generalize (List.range n).foldl (λw (k:Nat)=>R.EM w (i:Int) (k:Int)) G=K at b c g ⊢;have e:i<K.b.length:=U;have hc:=Ah e;have hl:=(b.wf.cl i _ hc).a;have f:n<K.b[i].a.length:=by rw[c]at hl;omega
   obtain⟨s1,s2⟩:=U1;exact⟨b.EM ⟨hc,Ah f⟩,s1.trans c,s2.trans g⟩
 have d:∀n,n<=G.b.length->Inv M ((List.range n).foldl (λw (i:Nat)=>(List.range w.c.a.toNat).foldl (λw (k:Nat)=>R.EM w (i:Int) (k:Int)) w) G)/\((List.range n).foldl (λw (i:Nat)=>(List.range w.c.a.toNat).foldl (λw (k:Nat)=>R.EM w (i:Int) (k:Int)) w) G).b.length=G.b.length:=by
  intro n;induction n with
  |zero=>exact λ_=>⟨h,rfl⟩
  |succ n ih=>
   intro hn;have⟨b,c⟩:=ih U;rw[Cu,CV]
   grind
 have j:=(d _ (Ar _)).1;have l:∀n,n<=9->Inv M ((List.range n).foldl R.EH (Nh G)):=by
  intro n;induction n with
  |zero=>exact λ_=>j
  |succ n ih=>
   intro hn;rw[Cu,CV];exact(ih U).EH U
 exact l 9 (Ar _)
theorem Inv.C{M:Bk}(h:Inv M G)(W:EC p)(hd:M (JD p)=d):Inv M (Ib G p):=by
 unfold Ib;split
 .rename_i z;have⟨_,i,c,k,l,J,r2,r3,r4,r5,r6,r7,r8,r9⟩:=h.bk _ d hd;simp only[JD]at J r5 r6;have⟨_,p2,p3,_⟩:=W;have Q:i<3:=U;rw[J,AY]at z ⊢;have y:=h.ws.ll;have A:=h.ws.sl;have o:∀j,(G.C.set i p.b).getD j 0=if j=i then p.b else G.C.getD j 0:=λj=>by
   all_goals grind
  have H:∀(l:List Sn) (m j:Nat) (r:Sn),(l.set m Ic)[j]?=some r->(m=j/\r=Ic)\/(m≠j/\l[j]?=some r):=λl m j r b=>by
   all_goals grind
  have g:∀(j:Nat) (r:Sn),(((G.J.set (3*i) Ic).set (3*i+1) Ic).set (3*i+2) Ic)[j]?=some r->(j / 3=i/\r=Ic)\/(j / 3≠i/\G.J[j]?=some r):=λj r b=>by
   all_goals grind
  refine⟨⟨h.wf.cf,h.wf.a,λj c hc=>⟨(h.wf.cl j c hc).a,(h.wf.cl j c hc).b,(h.wf.cl j c hc).d,(h.wf.cl j c hc).H⟩,h.wf.X,h.wf.b,h.wf.sv,h.wf.e,h.wf.nm,h.wf.st,h.wf.nd,h.wf.d⟩,⟨by simpa using y,λx hx=>?_,by simpa using A,λj r b=>?_,h.ws.jl,h.ws.jb⟩,h.bk,h.ln,h.fl,λj r b f=>?_,h.lg,λu s e F O D=>?_,h.jb,λj K b=>?_⟩
  .rcases BJ hx with q|q
   .exact h.ws.lv x q
   .rw[q];omega
  .rcases g j r b with ⟨_,rfl⟩|⟨B,C⟩
   .exact vM _
   .rw[o,Ao B];exact h.ws.sn j r C
  .rcases g j r b with ⟨_,rfl⟩|⟨B,C⟩
   .exact absurd I f
   .rw[o,Ao B];exact h.sn j r C f
  .have w:=(h.lg u s F).each e D;have⟨N,_,v,_⟩:=w.some;have⟨_,a,L,n,x,s1,s2,s3,s4,_⟩:=h.bk _ N v;simp only[Oc]at s1 s3;have X:=h.wf.cl a L s2;have S:=GG s4;have t:=h.wf.cf;unfold GA at t;have T:=X.a;unfold Vy;rw[s1,AY];simp only;rw[o];have E:=h.a u s e F O D;unfold Vy at E;rw[s1,AY]at E;by_cases P:a=i;all_goals grind [Vu]
  .rw[o];split
   .all_goals grind
   .exact h.lv j K b
 .exact h
theorem Inv.QZ{M:Bk}(h:Inv M G){js:List Jb}(hl:js<=G.c.d)(a:∀j∈js,((0<=j.f/\j.f<=2)/\(0<=j.H/\j.H<=2))/\∃d,M ⟨j.f,j.b,j.H,j.a⟩=some d/\j.c=d.c):Inv M {G with d:=js}:=
 ⟨⟨h.wf.cf,h.wf.a,λj c hc=>⟨(h.wf.cl j c hc).a,(h.wf.cl j c hc).b,(h.wf.cl j c hc).d,(h.wf.cl j c hc).H⟩,h.wf.X,h.wf.b,h.wf.sv,h.wf.e,h.wf.nm,h.wf.st,h.wf.nd,h.wf.d⟩,⟨h.ws.ll,h.ws.lv,h.ws.sl,h.ws.sn,hl,λj q=>(a j q).1⟩,h.bk,h.ln,h.fl,h.sn,h.lg,h.a,λj q=>(a j q).2,h.lv⟩
structure Lm(M:Bk)(G:Wd)(p:Pk)(d:Cd)(i:Nat):Prop where
 right:EC p
 Q:M (JD p)=some d
 c:p.c=d.c
 b:p.b=G.C.getD (i / 3) 0
 i:i=3*p.f.toNat+p.H.toNat
theorem Lm.key{M:Bk}(h:Lm M G p d i):JD p=⟨((i / 3:Nat):Int),G.C.getD (i / 3) 0,((i % 3:Nat):Int),p.a⟩:=by
 have⟨_,a,_,b,_⟩:=h.right;have:=h.i;simp only[JD,Key.mk.injEq];exact⟨U,h.b,U,BR⟩
theorem Lm.lt{M:Bk}(h:Lm M G p d i):i<9:=by
 have⟨_,a,_,b,_⟩:=h.right;have:=h.i;omega
theorem Lm.yE{M:Bk}(h:Lm M G p d i)(e:G'.C=G.C):Lm M G' p d i:=⟨h.right,h.Q,h.c,by rw[e];exact h.b,h.i⟩
theorem Inv.D6{M:Bk}(h:Inv M G)(a:Lm M G p d i)(b:p.off=DL d.h):Inv M (Mi G p):=by
 have⟨e,f,g,j,k,l,c,m,n⟩:=a.right;unfold Mi;split
 .exact h.XH a.right a.Q a.c Em c U (Aj ⟨I,b⟩)
 .exact h
theorem Inv.gather{M:Bk}(h:Inv M G)(g:Lm M G p d i)(v:p.off=DL d.h)(C:p.d=EY d.h p.Ez)(u:G.J[i]?=r)(K:r.a=p.a)(w:r.d=1):Inv M (Gy G i p):=by
 have a:=h.ws.sn i r u;have⟨_,_,_,_,J,_,F,H,_⟩:=g.right;have s:r.a≠0:=U;have⟨m,q⟩:=h.sn i r u s;have l:=g.key;rw[<-K]at l;have y:m=d:=by
  have:=q.Q;rw[<-l,g.Q]at this;exact(Option.some.inj this).symm
 subst y;have⟨g1,g2⟩:=q.b w;have⟨g3,g4,g5⟩:=a.b w;have E:=SX (h.bk _ _ q.Q).1;obtain⟨n,hn⟩:∃n:Nat,r.f=(n:Int):=⟨r.f.toNat,U⟩;rw[hn,AY]at g1;have hi:=g.lt;unfold Gy;simp only;rw[F7 u];split
 .rename_i D;have c:r.b++p.d=m.h.take (8*(n+1)):=by rw[g1,C,D,hn,Md]
  split
  .rename_i o;have k:r.b++p.d=m.h:=by rw[c,L6 (by rw[<-v];omega)]
   split
   .exact h
   .rename_i A;have x:=h.T (r':={r with d:=2,b:=r.b++p.d,f:=r.f+1}) u (BK _) ⟨λe=>absurd e s,a.a,λe=>⟨(a.some e).1,(a.some e).2.1,Ev⟩,Ev,by simp only[k];omega,Ev,λL=>by have:=(a.g L).1;omega⟩ (λ_=>⟨m,q.Q,q.c,Ev,λ_=>k,λ_=>q.open' (Aj w),Ev⟩);have B:=x.QZ (js:=G.d++[⟨p.f,p.H,p.b,p.a,p.c⟩]) (by simp only[AJ,CP];show _<=G.c.d;omega) (λj t=>by
     rcases Bj.1 t with t|t
     .exact⟨h.ws.jb j t,h.jb j t⟩
     .rw[Bg.1 t];have⟨_,N,_,O,_⟩:=g.right;exact⟨⟨N,O⟩,m,g.Q,g.c⟩)
    exact B.D6 (g.yE I) v
  .rename_i o;have z:((n+1:Nat):Int)<DL m.h:=U;have P:=RO z;have x:=h.T (r':={r with b:=r.b++p.d,f:=r.f+1}) u (BK _) ⟨λe=>absurd e s,a.a,a.some,λ_=>?_,λe=>by simp only at e;omega,a.h,a.g⟩ (λ_=>⟨m,q.Q,q.c,λ_=>⟨?_,?_⟩,λe=>by simp only at e;omega,q.open',q.h⟩)
   .exact x.D6 (g.yE I) v
   .simp only;rw[c,Bv,Ct U];omega
   .simp only;rw[c,hn];congr 1
   .simp only;omega
 .exact h.D6 g v
theorem Inv.known{M:Bk}(h:Inv M G)(a:Lm M G p d i)(hk:(p.J=1/\p.off=DL d.h/\p.d=EY d.h p.Ez)\/p.J=3)(b:G.J[i]?=r)(e:r.a=p.a):Inv M (Hl G i p):=by
 have⟨f,g,j,k,l,m,n,o,q⟩:=a.right;unfold Hl;simp only;rw[F7 b];split
 .grind [R.Inv.gather]
 .split
  .exact abS
  .split
   .exact h
   .split
    .rename_i c;exact h.tell a.lt b c
    exact abS
theorem Yi{sv:List Sv}(h:Jt sv u=true):∃(n:Nat) (s:Sv),u=n+1/\sv[n]?=s/\s.T=true:=by
 unfold Jt at h;rw[Dk,Db]at h;cases ha:sv[(u-1).toNat]? with
 |none=>rw[ha]at h;simp at h
 |some s=>
  rw[ha]at h;exact⟨(u-1).toNat,s,U,ha,by simpa using h.2⟩
theorem Inv.ask{M:Bk}(h:Inv M G)(ha:Lm M G p d i)(hk:(p.J=1/\p.off=DL d.h/\p.d=EY d.h p.Ez)\/p.J=3\/p.J=6):Inv M (N0 G i p):=by
 have f:=h.A ha.lt;unfold N0;simp only;generalize EZ G i=r at f ⊢;have b:=h.ws.sn i r f;have⟨_,_,_,_,C,_,A,B,_⟩:=ha.right;split
 .split
  .rename_i D;have⟨x1,x2,x3,x4,K⟩:=D;have⟨v,w,E,F⟩:=b.h x2;have j:r.a≠0:=U;have⟨x,q⟩:=h.sn i r f j;have k:=h.T (r':={r with at':=r.at'+1}) f (BK _) ⟨λe=>absurd e j,b.a,b.some,b.b,b.C,λ_=>⟨v,w,by simp only;omega,by simp only;omega⟩,b.g⟩ (λ_=>⟨x,q.same I I I I I⟩);exact k.tell ha.lt (r:={r with at':=r.at'+1}) (by simp[R.EA,(GG f)]) x2
  .exact h
 .rename_i H;have m:(p.J=1/\p.off=DL d.h/\p.d=EY d.h p.Ez)\/p.J=3:=by grind
  split
  .grind [R.Inv.known]
  .split
   .exact h
   .split
    .exact acB
    .rename_i J y hal;have hal:Jt G.a p.c=true:=by simpa [Js,Jt] using hal
     split
     .exact h
     .split
      .exact acB
      .have g:=ha.key;have l:=(h.bk _ d ha.Q).1;have z:=SX l;have u:=h.wf.sv;have⟨_,_,o,_,_,t,_⟩:=ha.right;have k:=h.T (r':={Ic with a:=p.a,c:=p.c,d:=1}) f (by simp only;omega) ⟨λe=>by simp only at e;omega,by simp only;omega,λ_=>⟨by rw[<-ha.b];exact o.1,t,Ev⟩,by simp[Ic],Ev,Ev,by simp[Ic]⟩ (λ_=>⟨d,by rw[<-g];exact ha.Q,ha.c,λ_=>⟨by simp[Ic],by simp only[Ic];omega⟩,Ev,λ_=>?_,Ev⟩)
       .exact k.known (ha.yE I) m (r:={Ic with a:=p.a,c:=p.c,d:=1}) (by simp[R.EA,(GG f)]) I
       exact afN
theorem Ze(h:¬p.b<G.C.getD p.f.toNat 0)(hl:p.f.toNat<G.C):(Ib G p).C.getD p.f.toNat 0=p.b:=by grind [Ib]
theorem Inv.Q{M:Bk}(h:Inv M G)(c:EC p)(g:Tj M G.a (-1) p):Inv M (KB G p):=by
 have⟨d,hd,hu,hk⟩:=g;have⟨_,j,_,k,_⟩:=id c;have f:(-1:Int)≠p.f:=U;have b:(p.J=1/\p.off=DL d.h/\p.d=EY d.h p.Ez)\/p.J=3\/p.J=6:=by grind
 unfold KB;split
 .exact h
 .rename_i i;have e:=h.C c hd;refine e.ask (d:=d) ⟨c,hd,hu,?_,I⟩ b;have a:(3*p.f.toNat+p.H.toNat) / 3=p.f.toNat:=U;rw[a,Ze i (by rw[h.ws.ll];omega)]
theorem Inv.Ki{M:Bk}(h:Inv M G)i:Inv M (Fv G i).2:=by
 unfold Fv;split
 .exact h
 .split
  .exact h
  .rename_i f b;have c:=h.erase i.toNat;have a:=h.fl f (Ap b);unfold Sc at a
   grind [L8,R.Inv.Q,R.Inv.heard]
end R
end Go.Proofs.YtblomippkddgiabGreatDoor
