import Derived.Test.YtblomippkddgiaaGreatDoorJ17
set_option maxRecDepth 100000
set_option maxHeartbeats 4000000
namespace Go.Proofs.YtblomippkddgiaaGreatDoor
open Go.Proofs.Tryz
open Go.RowKit
variable {F:D9}{host:Int}{fl:List R.Fl}{xs:List Value}{B b i k m n s size:Nat}{a:Option Addr}{p:Pl}{c:R.Cl}{l:R.Ln}{G:R.Wd}{e:TypeId}{K:Value}{w w':World}
def Yf(B:Nat)(a b:Aa):Prop:=a.heap.size<=b.heap.size/\∀x,B<=x->x<a.heap.size->b.heap[x]?=a.heap[x]?
abbrev bx(P:Pk):Array Value:=#[Z P.Dz,Z P.DJ,Z P.DR,Z P.DZ,Z P.D4,Z P.D5,Z P.Ez,Z P.off,.bool P.Fs,.string (str P.Ef)]
theorem Yf.box{o:Obj}(h:Yf w.heap.size (w.alloc o) w'):w'.heap[w.heap.size]?=some o:=by
 rw[h.2 (zz w) (Ar _) Ev];exact AF w o
theorem YX{P:Pk}{Gn:Ac}{n:Int}(A h:World->Prop)(h6:EB w b 6 (.string (str Gn)))
  (g:Hid (∀w,D7 187 #[.string (str Gn)] w (Z n) λw'=>w'=w))
  (HF:Hid (n<P.Ez->∀D,DY w D->h D))
  (HA:Hid (P.Ez=n->∀D,DY w D->ET 258 #[pt s,pt b,pv P] D λe w'=>(e=.returned (.bool false)/\h w')\/(e=.returned (.bool true)/\A w'/\Yf w.heap.size D w')))
  (HL:Hid (P.Ez<n->∀D,DY w D->A D))
  (HS:Hid (P.Fs=true->∀w',A w'->D7 237 #[pt s,pv P] w' Ep λak=>h ak))
  (HN:Hid (P.Fs=false->∀w',A w'->h w')):
  D7 236 #[pt s,pt b,pv P] w Ep λw'=>h w':=by
 have T:Hid (∀o,DY w (w.alloc o)):=λo=>F9
 have hl:=Gv h6;obtain⟨kd,cl,li,ln,aa,u,pa,o,pl,Ef⟩:=P;dsimp only[pv]at *;generalize str Ef=SB at *;generalize str Gn=SA at *;rcases Int.lt_trichotomy pa n with hc|hc|hc
 ·have e1:¬n<pa:=U;have e2:(pa==n)=false:=Fy;have O:=Dx (HL hc);clear hc HF HA;cases pl with
  |true=>
   have Q:=Dx (HS rfl);go_enter func236,ntmps236;go_wp2_with (first|(go_at_call 187;refine cs (g _) ?_)|(go_at_call 237;refine cm (Q _ (O _ (T _))) λy f=>?_))
   go_returns;exact⟨rfl,f⟩
  |false=>
   have M:=Dx (HN rfl);go_enter func236,ntmps236;go_wp2_with (first|(go_at_call 187;refine cs (g _) ?_))
   go_returns;exact⟨rfl,M _ (O _ (T _))⟩
 ·have e1:¬n<pa:=U;have e2:(pa==n)=true:=Fy;have O:=Dx (HA hc);clear hc HF HL HA;have HX:Hid (∀y:World,Yf (zz w) (w.alloc (.cells #[Z kd,Z cl,Z li,Z ln,Z aa,Z u,Z pa,Z o,.bool pl,.string SB] 41)) y->y.heap[(zz w)]?=some (.cells #[Z kd,Z cl,Z li,Z ln,Z aa,Z u,Z pa,Z o,.bool pl,.string SB] 41)):=λy h3=>h3.box
  cases pl with
  |true=>
   have Q:=Dx (HS rfl);go_enter func236,ntmps236;go_wp2_with (first|(go_at_call 187;refine cs (g _) ?_)|(go_at_call 258;refine(O _ (T _)).mono ?_))
   rintro e y (⟨rfl,f⟩|⟨rfl,f,j⟩)
   ·go_wp2;go_returns;exact⟨rfl,f⟩
   ·have X:=HX y j;obtain⟨k0,k1,k2,k3,k4,k5,k6,k7,k8,k9⟩:=Yy X;have HC:=Dx (Q y f);clear f j X;go_wp2_with (first|(go_at_call 237;refine cm HC λw4 ah=>?_))
    go_returns;exact⟨rfl,ah⟩
  |false=>
   have M:=Dx (HN rfl);go_enter func236,ntmps236;go_wp2_with (first|(go_at_call 187;refine cs (g _) ?_)|(go_at_call 258;refine(O _ (T _)).mono ?_))
   rintro e y (⟨rfl,f⟩|⟨rfl,f,j⟩)
   ·go_wp2;go_returns;exact⟨rfl,f⟩
   ·have X:=HX y j;have k8:=EI X 8;have HC:=Dx (M y f);clear f j X;go_wp2;go_returns;exact⟨rfl,HC⟩
 ·have O:=Dx (HF hc);clear HL HA;go_enter func236,ntmps236;go_wp2_with (first|(go_at_call 187;refine cs (g _) ?_))
  go_returns;exact⟨rfl,O _ (T _)⟩
theorem Uj(w:Aa)(s m:Nat)(a:Af)(cap:Nat)(u:Int)(h:EB w s 6 (.slice a m cap)):D7 131 #[pt s,Z u] w (.bool (decide (1<=u/\u<=(m:Int)))) λw'=>w'=w:=by
 by_cases f:1<=u
 ·by_cases g:u<=(m:Int)
  ·rw[show decide (1<=u/\u<=(m:Int))=true by simp[f,g]];have e1:decide (u ≥ 1)=true:=by simpa using f
   have e2:decide (u<=(m:Int))=true:=by simpa using g
   exact wY
  ·rw[show decide (1<=u/\u<=(m:Int))=false by simp[g]];have e1:decide (u ≥ 1)=true:=by simpa using f
   have e2:decide (u<=(m:Int))=false:=by simpa using g
   exact wY
 ·rw[show decide (1<=u/\u<=(m:Int))=false by simp[f]];have e1:decide (u ≥ 1)=false:=Fy;exact wY
theorem FG{ops:Array Oper}{o:Oper}{a:Act}{K:Act->World->Prop}{Q:Exit->Act->World->Prop}{E:Prop}
  (hgd:o.guard=none) (f:Nat) (xs:Array Operand) (ts:Array TypeId) (ho:o.op=.call {callee:=.value (.func f),args:=xs,argTypes:=ts}) (hcf:∀args w,(callFunc f args).run prog w=.ok (.enter f args) w)
  (vs:Array Value) (hv0:xs.toList.map a.eval=vs.toList) (R:Ending->World->Prop) (hC:ET f vs w R) (hR:∀e w',R e w'->∃v,e=.returned v/\K (a.put o.dst v) w'):
  if Region.wanted o (yielded ops a.tmps)=true then Oper.wp prog o a w K Q else E:=by
 exact afo
theorem agc:∀args w,(callFunc 212 args).run prog w=.ok (.enter 212 args) w:=λ_ _=>rfl
theorem Mg{a b:Aa}(h:DY a.drew b):DY a b:=⟨h.os,h.tape,h.output,h.size,h.block⟩
theorem dY:(prog.info? 122).map (λi=>(i.zero,i.size,i.bytes))=some (some (.agg #[Z 0,.string ⟨#[]⟩,.bool false]),3,32):=EL
structure Kh(w:Aa)(n:Nat)(K:Ad)(fl:List R.Fl)(w':Aa):Prop where
 cell:∃K',w'.heap[n]?=some (.cells #[K'] 113 (0,0))/\w'.ownsRow 0 122 3 K' fl.length (tab Gp fl)/\(K'.ownBlock=K.ownBlock\/∃j,K'.ownBlock=some j/\w.heap.size<=j)
 E0:DF (λk=>k=n\/K.ownBlock=some k) w w'
theorem Qd(w:Aa)(n:Nat)(a:Af)(m c:Nat)(h:w.heap[n]?=some (.cells #[.slice a m c] 113 (0,0))):
  D7 251 #[ptr n] w (.bool (decide (m=40))) λw'=>w'=w:=by
 have c0:w.cell? (Y n 0)=some (.slice a m c):=by simp[World.cell?,h]
 go_enter func251,ntmps251;go_wp2
 go_ret
 exact⟨by rw[show (decide (m=40))=((m:Int)==40) by rw[BH];simp;omega];rfl,rfl⟩
theorem oD{c:Nat}{p:Pk}(h:w.heap[n]?=some (.cells #[.slice a 40 c] 113 (0,0))):
  D7 230 #[ptr n,Z host,pv p] w Ep λw'=>DY w w':=by
 have⟨k,cl,j,ln,D,u,pa,o,y,Ef⟩:=p;have HF:=Dx (λw h=>Qd w n a 40 c h);have hl:=Dv h;have f:=Dx ((AA w.heap.size w).alloc (Ar _) (.cells #[Z k,Z cl,Z j,Z ln,Z D,Z u,Z pa,Z o,.bool y,.string (str Ef)] 41));have g:=Dx ((f.block n hl).trans h);clear h;go_enter func230,ntmps230;go_wp2_with fail
 refine cs (HF _ g) ?_;go_wp2;go_returns;exact⟨rfl,f⟩
theorem bB(p:Pk)(g:EC p)(w:Aa):D7 212 #[pv p] w (.string (str (Gq p))) λw'=>DY w w':=by
 refine(Ru p w).mono ?_;rintro e w' ⟨f,⟨_,rfl⟩|⟨hn,_⟩⟩;all_goals grind
theorem fi(w:Aa)(host:Int)(S:Ab)(j:Nat)(u:Ad)(h:([Z host,.string S,.bool false]:Ae)[j]?=some u):(w.alloc (.cells #[Z host,.string S,.bool false] 122)).cell? (((EN w 0):Addr).add j)=some u:=by grind [Addr.add_lit,World.cell?_alloc_new]
theorem Jl{v:Ad}(h:w.ownsRow B e size v n xs)(hk:∀g,v.ownBlock=some g->w'.heap[g]?=w.heap[g]?):w'.ownsRow B e size v n xs:=by
 exact abq
theorem tT{BX T O:Aa}{va0 y u c:Nat}{f:Af}{TF:Ae}{X:Ab}(hl:n<w.heap.size)(h:w.heap[n]?=some (.cells #[.slice a m c] 113 (0,0)))(ah:(Value.slice a m c).ownBlock≠some n)(D:DY w BX)(M:DY BX T)(al:n<T.heap.size)
  (Q:O.ownsRow 0 122 3 (.slice f y u) (m+1) (TF++[Z host,.string X,.bool false])) (hg:(T.alloc (.cells #[Z host,.string X,.bool false] 122)).grownBy O (Value.slice a m c).ownBlock) (ab:O.heap[n]?=T.heap[n]?)
  (ak:(Value.slice f y u).ownBlock=(Value.slice a m c).ownBlock\/(Value.slice f y u).ownBlock=some va0) (an:T.heap.size+1=va0):
  (O.setCell (Y n 0) (.slice f y u)).ownsRow 0 122 3 (.slice f y u) (m+1) (TF++[Z host,.string X,.bool false])/\(O.setCell (Y n 0) (.slice f y u)).heap[n]?=some (.cells #[.slice f y u] 113 (0,0)) /\
  ((Value.slice f y u).ownBlock=(Value.slice a m c).ownBlock\/∃j,(Value.slice f y u).ownBlock=some j/\w.heap.size<=j)/\DF (λk=>k=n\/(Value.slice a m c).ownBlock=some k) w (O.setCell (Y n 0) (.slice f y u)):=by
 have s0:=D.size;have s1:=M.size;have am:(Value.slice f y u).ownBlock≠some n:=by grind
 have hK:=DF.D6 (F:=λk=>k=n\/(Value.slice a m c).ownBlock=some k) (D.trans (M.mono s0));have aa:=(hK.alloc (.cells #[Z host,.string X,.bool false] 122)).grown hg (λk hk=>Aj (Am hk));refine⟨Jl Q (λg hg=>?_),?_,?_,aa.setCell (p:=Y n 0) (Aj (Aj rfl)) _⟩
 ·grind [Below.heap_setCell]
 ·have:=Ek (cs:=[.slice a m c]) (off:=0) (ab.trans ((M.block n U).trans ((D.block n hl).trans h))) (.slice f y u);exact this
 grind
theorem oE{c:Nat}{p:Pk}(h:w.heap[n]?=some (.cells #[.slice a fl.length c] 113 (0,0)))(f:w.ownsRow 0 122 3 (.slice a fl.length c) fl.length (tab Gp fl))(bb:fl.length<40)(hr:EC p):
  D7 230 #[ptr n,Z host,pv p] w Ep λw'=>Kh w n (.slice a fl.length c) (fl++[⟨host,Gq p,false⟩]) w':=by
 have aa:=Dx (bB p hr);obtain⟨SB,al⟩:∃SB,SB=str (Gq p):=⟨_,rfl⟩;rw[<-al]at aa;have ah:Gp ⟨host,Gq p,false⟩=[Z host,.string SB,.bool false]:=by rw[al];rfl
 obtain⟨m,hm⟩:∃m,m=fl.length:=⟨_,rfl⟩;rw[<-hm]at h f bb ⊢;have aV:Hid (∀w,w.heap[n]?=some (.cells #[.slice a m c] 113 (0,0))->D7 251 #[ptr n] w (.bool false) λw'=>w'=w):=λw h=>by
  have:=Qd w n a m c h;rw[show decide (m=40)=false by simp;omega]at this;exact this
 have ae:Hid (∀w' K',w'.ownsRow 0 122 3 K' (m+1) (tab Gp fl++[Z host,.string SB,.bool false])->w'.heap[n]?=some (.cells #[K'] 113 (0,0))->(K'.ownBlock=(Value.slice a m c).ownBlock\/∃j,K'.ownBlock=some j/\w.heap.size<=j)->DF (λk=>k=n\/(Value.slice a m c).ownBlock=some k) w w'->Kh w n (.slice a m c) (fl++[⟨host,Gq p,false⟩]) w'):=λw' K' h1 h2 h3 h4=>by
  refine⟨⟨K',h2,?_,h3⟩,h4⟩;rw[Jn,ah,AJ,<-hm];exact h1
 clear ah al;obtain⟨TF,ar⟩:∃TF,TF=tab Gp fl:=⟨_,rfl⟩;rw[<-ar]at f ae;clear ar hm;generalize Kh w n (.slice a m c) (fl++[⟨host,Gq p,false⟩])=Post at *;clear hr;obtain⟨k,cl,li,ln,sq,u,pa,o,pl,Ef⟩:=p;show ET 230 #[ptr n,Z host,S9 k cl li ln sq u pa o pl (str Ef)] w _;have aa:Hid (∀w,D7 212 #[S9 k cl li ln sq u pa o pl (str Ef)] w (.string SB) λw'=>DY w w'):=aa;have hl:=Dv h;have T:=Ba f;have ak:(Value.slice a m c).ownBlock≠some n:=λe=>by
  rcases f.2 with ⟨hv,_⟩|⟨g,cap,bT,hv,_,hg,_⟩
  ·rw[hv]at e;cases e
  ·rw[hv]at e;cases e;exact ES hg h Em rfl
 obtain⟨X,O⟩:∃X,w.alloc (.cells #[Z k,Z cl,Z li,Z ln,Z sq,Z u,Z pa,Z o,.bool pl,.string (str Ef)] 41)=X:=⟨_,rfl⟩;have HB:Hid (DY w X):=by
  rw[<-O];exact ku
 have ca:X.heap.size=w.heap.size+1:=by rw[<-O];simp
 have am:X.heap[w.heap.size]?=some (.cells #[Z k,Z cl,Z li,Z ln,Z sq,Z u,Z pa,Z o,.bool pl,.string (str Ef)] 41 (0,0)):=by
  rw[<-O];exact AF w _
 obtain⟨H0,HH,b7⟩:=Ll h ((HB.block n hl).trans h) (ER f HB);have cn:EB X n 0 (.slice a m c):=EI HH 0;have zn:X.frozen? (Y n 0)=false:=Eb (Dw HH);generalize str Ef=SY at *;obtain⟨c0,c1,c2,c3,c4,c5,c6,c7,c8,c9⟩:=Yy am;obtain⟨aS,bL,bS⟩:=Ll O am T;have b2:Hid (∀(M wz:Aa) (ad:w.heap.size<M.heap.size),(M.alloc (.cells #[Z host,.string SB,.bool false] 122)).grownBy wz (Value.slice a m c).ownBlock->wz.heap[n]?=M.heap[n]?/\wz.heap[w.heap.size]?=M.heap[w.heap.size]?):=by
  intro M wz ad hg;have q1:((M.alloc (.cells #[Z host,.string SB,.bool false] 122)).heap.size)=M.heap.size+1:=Ev;refine⟨(hg.block n U (λe=>ak e.symm)).trans (AL _ _ _ U),(hg.block w.heap.size U (λe=>?_)).trans (AL _ _ _ ad)⟩;have:=(T _ e.symm).2;omega
 have b5:=Dx ak;have an:n<X.heap.size:=U;have bp:w.heap.size<X.heap.size:=U;obtain⟨i0,hi,bq,br,bt⟩:=A1 dY;clear h f am O T ak;go_enter func230,ntmps230;go_wp2_with fail
 rw[Dw aS];refine cs (aV _ HH) ?_;go_wp2;go_region_law (first
  |(refine FG rfl 212 #[.tmp 14] #[41] rfl agc #[S9 k cl li ln sq u pa o pl SY] rfl _ (aa _) ?_;rintro e M ⟨rfl,Q⟩;have aw:=Q.size;have bg:n<M.heap.size:=Ai an aw;have aq:=Dx (Mg Q);have bz:M.frozen? (Y n 0)=false:=(Q.frozen (p:=Y n 0) an).trans zn;have b9:EB M n 0 (.slice a m c):=(Q.cell (p:=Y n 0) an).trans cn;have ad:w.heap.size<M.heap.size:=Ai bp aw;clear Q;refine⟨_,rfl,?_⟩)
  |(refine FM rfl (.tmp 12) (.tmp 17) 111 rfl 0 122 i0 (.agg #[Z 0,.string ⟨#[]⟩,.bool false]) 3 32 underlying111 hi bq br bt rfl Em (.slice a m c) m TF rfl (by exact(ER b7 aq).alloc _) (EN M 0) 1 1 [Z host,.string SB,.bool false] rfl rfl (by exact fi M host SB) Vd JG U U ?_;intro v' wz D y av;obtain⟨va,vn,vc,bj⟩:=Ei D;subst bj;have be:=b2 _ _ ad y;obtain⟨ac,bf⟩:=be;have gz:wz.frozen? (Y n 0)=false:=(A8 ac).trans bz;have gn:EB wz n 0 (.slice a m c):=(AR ac).trans b9;have b6:=Dx D;have b3:=Dx y;have aN:=Dx av;have b1:=Dx ac;clear D y av ac bf))
 all_goals
  have ba:=tT hl H0 b5 HB aq bg b6 b3 b1 aN Ev;obtain⟨d1,d2,d3,d4⟩:=ba;have HD:=Dx (ae _ _ d1 d2 d3 d4);clear d1 d2 d3 d4;go_wp2;go_returns;exact⟨rfl,HD⟩
theorem K5(h:w.ownsRow B e size K n xs){M:Array Value}{t:Ag}{f:Nat×Nat}(y:w.heap[b]?=some (.cells M t f))(j:e≠t):K.ownBlock≠some b:=λq=>by
 rcases h.2 with ⟨rfl,_⟩|⟨g,cap,u,rfl,_,D,_⟩
 ·cases q
 ·cases q;exact ES D y j rfl
theorem MA(h:w.ownsRow B e size K n xs){j:Array MapEntry}{cl:Nat}(u:w.heap[b]?=some (.map j cl)):K.ownBlock≠some b:=λq=>by
 rcases h.2 with ⟨rfl,_⟩|⟨g,cap,f,rfl,_,y,_⟩
 ·cases q
 ·cases q;exact On y u rfl
theorem LW.net(h:LW p F G w)(X:w.heap[p.n]?=some (.cells #[K] 113 (0,0)))(hr:w.ownsRow 0 122 3 K G.Ej.length (tab Gp G.Ej))(hn:Kh w p.n K fl w')(hf:∀j,K.ownBlock=some j->F j)(ah:R.Wf {G with Ej:=fl}):
  ∃F',LW p F' {G with Ej:=fl} w'/\D8 F F' w w':=by
 have⟨hx,T,aa,ad⟩:=h.Fw;have⟨⟨K',k1,k2,k3⟩,hk⟩:=hn;have sz:=hk.size;have at':∀{b:Nat} {ys:Array Value} {t:Ag} {f:Nat×Nat},w.heap[b]?=some (.cells ys t f)->t≠113->t≠122->w'.heap[b]?=some (.cells ys t f):=λu M O=>hk.at u (by
  rintro (e|e)
  ·exact ES u X M e
  ·exact K5 hr u (λq=>O q.symm) e)
 have y:∀{α:Type} {k:Ag} {b:Nat} {lit:α->Lit} {g:α->Option Int} {n:Nat},Mp w k b lit g n->Mp w' k b lit g n:=λhm=>by
  have⟨es,q,hq⟩:=hm.block;refine hm.keep hk ?_;rintro (e|e)
  ·exact(On X hq) e.symm
  ·exact MA hr hq e
 have Q:Ip w F (λk=>k=p.n\/K.ownBlock=some k):=Ip.iw (λb u=>by
  rcases u with rfl|u
  ·exact Aj ⟨_,_,_,X,Em⟩
  ·rcases hr.2 with ⟨rfl,_⟩|⟨g,cap,D,rfl,_,hg,_⟩
   ·cases u
   ·cases u;exact Aj ⟨_,_,_,hg,Em⟩)
 refine⟨λk=>F k\/K'.ownBlock=some k,⟨ah,h.GQ,at' h.bx Em Em,?_,⟨K',k1,k2,λj hj=>Am hj⟩,?_,y h.Eu,λi c hc=>at' (h.cl i c hc) Em Em,λi c hc=>?_,λi c hc=>y (h.Ee i c hc),⟨Aj hx,Aj T,Aj aa,Aj ad⟩,λi hi=>?_,h.inj,λk ac=>?_⟩,?_⟩
 ·have⟨D,M,O⟩:=h.bcs;exact⟨D,at' M Em Em,O⟩
 ·exact h.Hd.keep hk Q (λ_ q=>Aj q)
 ·have⟨xs,M,O,h3⟩:=h.ln i c hc;exact⟨xs,at' M Em Em,O,h3.KC hk Q.sv (λ_ q=>Aj q)⟩
 ·have⟨a1,a2,a3,a4⟩:=h.Gs i hi;exact⟨Aj a1,Aj a2,Aj a3,a4⟩
 ·rcases ac with q|q
  ·exact Ai (h.lt k q) sz
  ·exact(Ba k2 k q).2
 ·refine⟨hk.mono (λk _ q=>?_),λk q=>?_⟩
  ·rcases q with rfl|q
   ·exact T
   ·exact hf k q
  ·rcases q with q|q
   ·exact Aj q
   ·rcases k3 with e|⟨j,e,hj⟩
    ·exact Aj (hf k (e ▸ q))
    ·rw[e]at q;cases q;exact Am hj
theorem Fa(h:w.ownsRow B e size K n xs):∃a c,K=.slice a n c:=by
 rcases h.2 with ⟨rfl,rfl⟩|⟨g,cap,f,rfl,_⟩;all_goals grind
theorem LW.send(h:LW p F G w)(to:Int)(y:Pk)(O:EC y):
  D7 230 #[ptr p.n,Z to,pv y] w Ep λw'=>∃D,LW p D (R.E9 G to y) w'/\D8 F D w w':=by
 have⟨K,u,f,T⟩:=h.bn;have Q:=h.wf.JC;have g:=h.wf.E9 (to:=to) O;obtain⟨a,c,rfl⟩:=Fa f;unfold R.E9 at g ⊢;by_cases hl:G.Ej.length<40
 ·rw[Ay hl]at g ⊢;refine cm (oE u f hl O) λw' hn=>?_
  grind [LW.net]
 ·rw[Ao hl];have j:G.Ej.length=40:=U;rw[j]at u;refine cm (oD u) λw' M=>?_
  exact⟨rfl,F,h.DG M,D8.D6 F M⟩
theorem LW.Ej(h:LW p F G w):D7 17 #[ptr p.x] w (Z (G.Ej.length:Int)) λw'=>w'=w:=by
 have⟨K,g,f,_⟩:=h.bn;obtain⟨a,c,rfl⟩:=Fa f;have j:=h.bx;have c0:=EI j 0;have c1:=EI g 0;clear j g f h;generalize G.Ej.length=m at *;go_enter func17,ntmps17;go_wp2_with (first|(go_at_call 40;go_in))
 go_returns;exact⟨rfl,rfl⟩
theorem aap{x cs cn cap:Nat}{g:Nat}{c:Nat}{v0:Int}{v1:Ab}(h:w.heap[x]?=some (.cells #[ptr n,ptr s,EJ cs cn cap] 84 (0,0)))(f:w.heap[n]?=some (.cells #[EJ g m c] 113 (0,0)))(hi:i<m)(j:w.cell? (Y g (i*3))=some (Z v0))(u:w.cell? (Y g (i*3+1))=some (.string v1)):
  D7 13 #[ptr x,Z i] w (.tuple #[Z v0,.string v1,Z 0]) λw'=>DY w w':=by
 have c0:=EI h 0;have c1:=EI f 0;clear h f;have y:0<=(i:Int):=U;have D:((i:Int)<m):=U;go_enter func13,ntmps13;go_wp2_with (first|(go_at_call 32;go_in)|(go_at_call 65;go_in))
 exact afM
theorem LW.adF(h:LW p F G w){f:R.Fl}(M:G.Ej[i]?=some f):D7 13 #[ptr p.x,Z i] w (.tuple #[Z f.to,.string (str f.s),Z 0]) λw'=>DY w w':=by
 have⟨K,O,u,_⟩:=h.bn;have hi:=GG M;rcases u.2 with ⟨_,X⟩|⟨g,cap,y,rfl,_,hg,_,_,Q,D⟩
 ·omega
 ·have q:∀j,j<3->y[i*3+j]?=(Gp f)[j]?:=λj T=>by
   rw[<-Jh JN G.Ej i j f M T,<-D,BI,Ay U];simp
  refine aap h.bx O hi ?_ ?_
  ·have:=q 0 U
   grind [World.cell?,Gp]
  grind [World.cell?,Gp]
theorem ZC(s:Ac):R.DL s=((s.length:Int)+7) / 8:=by
 unfold R.DL;omega
theorem IC(s:Ac)(w:Aa)(f:s.length<=1000):D7 187 #[.string (str s)] w (Z (R.DL s)) λw'=>w'=w:=by
 have hz:=Er s;rw[ZC];generalize str s=S at *;generalize s.length=n at *;have e1:IntKind.i64.wrap ((n:Int)+8)=(n:Int)+8:=Iz;have e2:IntKind.i64.wrap ((n:Int)+8-1)=(n:Int)+7:=Iz;have e3:IntKind.i64.wrap (((n:Int)+7).tdiv 8)=((n:Int)+7) / 8:=by
  rw[CM U,BS];omega
 go_enter func187,ntmps187;go_wp2;go_returns;exact⟨rfl,rfl⟩
theorem V2(s:Ac)(k:Nat)(w:Aa)(j:s.length<=1000)(hk:8*k<s.length):D7 189 #[.string (str s),Z k] w (.string (str (R.EY s (k:Int)))) λw'=>w'=w:=by
 have hz:=Er s;have f:Hid ((str s).extract (k*8) (min (k*8+8) s.length)=str (R.EY s (k:Int))):=by
  show _=_;rw[Ho];congr 1;unfold R.EY;rw[AY,BZ 8 k];apply BF;intro i;simp only[BI,Cn];by_cases g:i<8
  ·rw[Ay g];by_cases h:i<min (k*8+8) s.length-k*8
   ·rw[Ay h]
   ·rw[Ao h,BM];omega
  ·rw[Ao g,Ao];omega
 generalize str (R.EY s (k:Int))=T at *;generalize str s=S at *;generalize s.length=n at *;have e1:IntKind.i64.wrap ((k:Int)*8)=((k*8:Nat):Int):=Iz;have e2:IntKind.i64.wrap (((k*8:Nat):Int)+8)=((k*8+8:Nat):Int):=Iz;go_enter func189,ntmps189;go_wp2
 ·go_returns;refine⟨?_,rfl⟩;have:=Dw f;rw[Nat.min_eq_right U]at this;rw[<-this];rfl
 ·go_returns;refine⟨?_,rfl⟩;have:=Dw f;rw[Ct U]at this;rw[<-this];show Ending.returned (Value.string (S.extract (k*8) ((k:Int)*8+8).toNat))=_;rw[show ((k:Int)*8+8).toNat=k*8+8 by omega]
structure acK(w:Aa)(b k:Nat)(x:J7):Prop where
 a0:w.cell? (Y b (k*10))=some (Z x.DK)
 a1:w.cell? (Y b (k*10+1))=some (Z x.D4)
 a2:w.cell? (Y b (k*10+2))=some x.rv
 a3:w.cell? (Y b (k*10+3))=some (Z x.D5)
 a4:w.cell? (Y b (k*10+4))=some (Z x.Eo)
 a5:w.cell? (Y b (k*10+5))=some (.string (str x.J9))
 a6:w.cell? (Y b (k*10+6))=some (Z x.Ea)
 a7:w.cell? (Y b (k*10+7))=some (.string (str x.EK))
 a8:w.cell? (Y b (k*10+8))=some (Z x.El)
 a9:w.cell? (Y b (k*10+9))=some (Z x.DW)
theorem sU{xs:List J7}{x:J7}(h:w.heap[b]?=some (.cells (tab J7.cells xs).toArray 139 (0,0)))(u:xs[k]?=some x):acK w b k x:=by
 have q:∀j v,j<10->x.cells[j]?=some v->EB w b (k*10+j) v:=λj v f g=>E7 h (by rw[Jh J7.len xs k j x u f];exact g)
 exact⟨q 0 _ U rfl,q 1 _ U rfl,q 2 _ U rfl,q 3 _ U rfl,q 4 _ U rfl,q 5 _ U rfl,q 6 _ U rfl,q 7 _ U rfl,q 8 _ U rfl,q 9 _ U rfl⟩
theorem Lc{V:Ad}{l:List R.It}(h:Gg w F V l):∃a n c,V=.slice a n c:=by grind [Gg]
structure af1(w:Aa)(p:Pl)(G:R.Wd)(i:Nat)(c:R.Cl):Prop where
 a0:w.cell? ⟨p.cb i,0,none⟩=some (Z i)
 a1:w.cell? ⟨p.cb i,1,none⟩=some (Z c.DR)
 a2:w.cell? ⟨p.cb i,2,none⟩=some (.map (some (p.bm i)))
 a3:w.cell? ⟨p.cb i,3,none⟩=some (.slice (some ⟨p.lb i,0,none⟩) c.DV.length c.DV.length)
 a4:w.cell? ⟨p.cb i,4,none⟩=some (Z G.c.Ew)
 a5:w.cell? ⟨p.cb i,5,none⟩=some (Z G.c.DW)
 a6:w.cell? ⟨p.cb i,6,none⟩=some (ptr p.n)
theorem P4(h:LW p F G w)(hc:G.DI[i]?=some c):af1 w p G i c:=by
 have f:=h.cl i c hc;exact⟨EI f 0,EI f 1,EI f 2,EI f 3,EI f 4,EI f 5,EI f 6⟩
theorem LW.DZ(h:LW p F G w)(hc:G.DI[i]?=some c)(hl:c.DV[k]?=some l):∃xs x,w.heap[p.lb i]?=some (.cells (tab J7.cells xs).toArray 139 (0,0))/\MG c.DV xs/\xs[k]?=some x/\VA l x/\acK w (p.lb i) k x/\Iq w F c.DV xs/\Gg w F x.rv l.DU:=by grind [LW,Iq,MG.get,sU]
theorem aez:∀args w,(callFunc 230 args).run prog w=.ok (.enter 230 args) w:=λ_ _=>rfl
theorem LW.vx(h:LW p F G w)(hc:G.DI[i]?=some c)(hl:c.DV[k]?=some l)(h1:l.DK=1)(j pa o:Int)(y:Bool)(Ef:Ac)(hr:EC ⟨j,i,c.DR,k,l.D4,l.D5,pa,o,y,Ef⟩):
  D7 188 #[ptr (p.cb i),Z k,S9 j 0 0 0 0 0 pa o y (str Ef)] w Ep λw'=>∃F',LW p F' (R.E9 G (-1) ⟨j,i,c.DR,k,l.D4,l.D5,pa,o,y,Ef⟩) w'/\D8 F F' w w':=by
 obtain⟨xs,x,hL,hR,hx,D,ab,_,aa⟩:=h.DZ hc hl;obtain⟨ra,rn,rc,ac⟩:=Lc aa;have X:=P4 h hc;have hk:=GG hl;obtain⟨ae,av⟩:=KM X.a0 ab.a0;obtain⟨f,hPost⟩:∃f:World->Prop,∀w'',f w''↔∃F',LW p F' (R.E9 G (-1) ⟨j,i,c.DR,k,l.D4,l.D5,pa,o,y,Ef⟩) w''/\D8 F F' w w'':=⟨_,λ_=>Iff.rfl⟩;suffices hq:D7 188 #[ptr (p.cb i),Z k,S9 j 0 0 0 0 0 pa o y (str Ef)] w Ep λw'=>f w' from hq.mono (λe w' h=>⟨h.1,(hPost w').1 h.2⟩)
 have HS:Hid (∀w',LW p F G w'->DY w w'->D7 230 #[ptr p.n,Z (-1),S9 j i c.DR k l.D4 l.D5 pa o y (str Ef)] w' Ep λw''=>f w''):=λw' h' hb=>by
  refine cm (h'.send (-1) ⟨j,i,c.DR,k,l.D4,l.D5,pa,o,y,Ef⟩ hr) ?_;exact wB
 clear hPost;have O:Hid (∀w',DY w w'->LW p F G w'):=λw' hb=>h.DG hb
 have eu:=(D.one h1).1;have eq:=D.D4;obtain⟨a0,a1,a2,a3,a4,a5,a6,a7,a8,a9⟩:=ab;rw[ac]at a2;obtain⟨b0,b1,b2,b3,b4,b5,b6⟩:=X;rw[eu]at a3;rw[eq]at a1;generalize str Ef=SB at *;generalize c.DR=li at *;generalize l.D4=sq at *;generalize l.D5=u at *;generalize c.DV.length=nl at *;generalize p.cb i=cb at *;generalize p.lb i=lb at *;clear hr h hL hR hx D hc hl h1 eu eq aa ac;obtain⟨M,hBX⟩:∃M,(w.alloc (.cells #[Z j,Z i,Z li,Z k,Z sq,Z u,Z pa,Z o,.bool y,.string SB] 41)).alloc (.cells #[Z x.DK,Z sq,.slice ra rn rc,Z u,Z x.Eo,.string (str x.J9),Z x.Ea,.string (str x.EK),Z x.El,Z x.DW] 139)=M:=⟨_,rfl⟩;have HB:Hid (DY w M):=by
  exact acC
 have T:M.heap[w.heap.size]?=some (.cells #[Z j,Z i,Z li,Z k,Z sq,Z u,Z pa,Z o,.bool y,.string SB] 41 (0,0)):=by
  exact wQ
 have HC:=Dx (HS M.drew (O _ HB.drew) HB.drew);have d6:=(HB.cell (p:=Y cb 6) ae).trans b6;obtain⟨c0,c1,c2,c3,c4,c5,c6,c7,c8,c9⟩:=Yy T;have Q:=Dx hBX;clear T hBX HS O;go_enter func188,ntmps188;go_wp2;rw[Dw Q];clear Q a0 a1 a2 a3 a4 a5 a6 a7 a8 a9 b0 b1 b2 b3 b4 b5 b6;go_region_law (refine FG rfl 230 #[.tmp 36,.const (Z (-1)),.tmp 37] #[80,3,41] rfl aez #[ptr p.n,Z (-1),S9 j i li k sq u pa o y SB] rfl _ HC ?_;rintro e w1 ⟨rfl,g⟩;have HP:=Dx g;clear g;refine⟨_,rfl,?_⟩)
 all_goals
  go_wp2;go_returns;exact⟨rfl,HP⟩
theorem lq(hc:G.DI[i]?=some c)(Ga:Bool):R.Ns G i k l Ga=⟨1,i,c.DR,k,l.D4,l.D5,l.Ea,R.DL l.DC,Ga || decide (l.Ea<R.DL l.DC-1),R.EY l.DC l.Ea⟩:=by grind [R.Ns,R.GH]
theorem Uw(hc:G.DI[i]?=some c):R.Mx G i k l=⟨3,i,c.DR,k,l.D4,l.D5,0,1,true,[]⟩:=by grind [R.Mx,R.GH]
theorem LW.piece(h:LW p F G w)(hc:G.DI[i]?=some c)(hl:c.DV[k]?=some l)(X:l.DK=1)(Q:l.Ea<R.DL l.DC)(Ga:Bool):
  D7 112 #[ptr (p.cb i),Z k,.bool Ga] w Ep λw'=>∃F',LW p F' (R.EG G i k Ga) w'/\D8 F F' w w':=by
 obtain⟨xs,x,hL,hR,hx,al,ae,_,ad⟩:=h.DZ hc hl;obtain⟨ra,rn,rc,ak⟩:=Lc ad;have ac:=P4 h hc;have hk:=GG hl;obtain⟨aN,aS⟩:=KM ac.a0 ae.a0;have M:=R.Pv h.wf hc hl X Q Ga;obtain⟨z1,z2,T,aq,z3⟩:=(((h.wf.cl i c hc).DZ k l hl)).one X;rw[R.MK (R.FH hc hl)];rw[lq hc]at M ⊢;obtain⟨a,aa⟩:∃a:Nat,l.Ea=(a:Int):=⟨l.Ea.toNat,U⟩;obtain⟨z4,em,ea,z5⟩:=al.one X;have ah:8*a<l.DC.length:=by have:=R.LF.2 Q;omega
 rw[aa]at M ea Q ⊢;obtain⟨f,hPost⟩:∃f:World->Prop,∀w'',f w''↔∃F',LW p F' (R.E9 G (-1) ⟨1,i,c.DR,k,l.D4,l.D5,(a:Int),R.DL l.DC,Ga || decide ((a:Int)<R.DL l.DC-1),R.EY l.DC (a:Int)⟩) w''/\D8 F F' w w'':=⟨_,λ_=>Iff.rfl⟩;suffices hq:D7 112 #[ptr (p.cb i),Z k,.bool Ga] w Ep λw'=>f w' from hq.mono (λe w' h=>⟨h.1,(hPost w').1 h.2⟩)
 have HS:Hid (∀w',DY w w'->D7 188 #[ptr (p.cb i),Z k,S9 1 0 0 0 0 0 (a:Int) (R.DL l.DC) (Ga || decide ((a:Int)<R.DL l.DC-1)) (str (R.EY l.DC (a:Int)))] w' Ep λw''=>f w''):=λw' hb=>by
  refine cm ((h.DG hb).vx hc hl X 1 (a:Int) (R.DL l.DC) _ _ M) ?_;exact wB
 obtain⟨HP,HC⟩:=FU (λw=>IC l.DC w U) (λw=>V2 l.DC a w U ah);clear hPost M;obtain⟨a0,a1,a2,a3,a4,a5,a6,a7,a8,a9⟩:=ae;obtain⟨b0,b1,b2,b3,b4,b5,b6⟩:=ac;rw[ak]at a2;rw[em]at a5;rw[ea]at a6;generalize str (R.EY l.DC (a:Int))=SB at *;generalize str l.DC=SM at *;have aV:1<=R.DL l.DC/\R.DL l.DC<=9:=⟨R.ID T.1,R.IV T.2⟩;generalize R.DL l.DC=P at *;generalize c.DV.length=nl at *;generalize p.cb i=cb at *;generalize p.lb i=lb at *;obtain⟨an,am,b7,O,j,aw,ar,g,y,u⟩:=x;simp only at a0 a1 a3 a4 a7 a8 a9;have av:IntKind.i64.wrap (P-1)=P-1:=Iz;clear h hL hR hx al hc hl X em ea aa aq T ah z1 z2 z3 z4 z5 ad ak;obtain⟨LX,D⟩:∃LX,w.alloc (.cells #[Z an,Z am,.slice ra rn rc,Z O,Z j,.string SM,Z a,.string (str g),Z y,Z u] 139)=LX:=⟨_,rfl⟩;have HB:Hid (DY w LX):=by
  rw[<-D];exact ku
 have ab:LX.heap[w.heap.size]?=some (.cells #[Z an,Z am,.slice ra rn rc,Z O,Z j,.string SM,Z a,.string (str g),Z y,Z u] 139 (0,0)):=by
  rw[<-D];exact AF w _
 obtain⟨c4,c5⟩:=VL ab 5 6;have HLX:=Dx D;clear D ab;by_cases hlast:(a:Int)=P-1
 ·have e1:decide ((a:Int)<P-1)=false:=Fy;rw[e1]at HS;have e2:(((a:Int))==P-1)=true:=by simpa using hlast
  exact afr
 ·have e1:decide ((a:Int)<P-1)=true:=Fy;rw[e1]at HS;have e2:(((a:Int))==P-1)=false:=by simpa using hlast
  exact afr
end Go.Proofs.YtblomippkddgiaaGreatDoor
