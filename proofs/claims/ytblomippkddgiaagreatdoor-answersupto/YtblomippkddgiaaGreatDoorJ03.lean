import Derived.Test.YtblomippkddgiaaGreatDoorJ02
set_option maxRecDepth 100000
set_option maxHeartbeats 4000000
namespace Go.Proofs.YtblomippkddgiaaGreatDoor.V
open Go.Proofs.Tryz
open Go.RowKit
variable {s:ByteArray}{ks:List Nat}{xs:List Value}{B D M b c f j k n p:Nat}{g:Nat→Nat}{S:Nat→Prop}{a0 a1 a2 c0 c1 d0 d1 d2 v v':Value}{w w' w1 w2 w3 wr:World}
theorem Dx{p:Prop}(h:p):Hid p:=h
theorem Dw{p:Prop}(h:Hid p):p:=h
def Kids(w:Aa)(S:Nat->Prop)(g:Nat->Nat)(f:Nat)(ks:List Nat)(v:Ad):Prop:=∃xs:List Value,Ve w S v ks.length xs /\
   ∀(i q:Nat),ks[i]?=some q->∃d0 d1 d2,xs[3*i]?=some d0/\xs[3*i+1]?=some d1/\xs[3*i+2]?=some d2/\NP w S g f q d0 d1 d2
theorem uX(e:c0=.int .u8 (g p))(h:c1=Z (Gl g p))(hk:Kids w S g f (Pt.EW g f p) v):NP w S g (f+1) p c0 c1 v:=⟨e,h,hk⟩
theorem eO(h:Kids w S g f ks v)(hk:Hq S w w'):Kids w' S g f ks v:=by
 have⟨xs,e,hi⟩:=h;refine⟨xs,PI e hk,λi q m=>?_⟩
 grind [GM]
theorem mq{S':Nat->Prop}(h:Kids w S g f ks v)(e:∀k,S k->k<w.heap.size->S' k):Kids w S' g f ks v:=by
 have⟨xs,m,hi⟩:=h;refine⟨xs,QY m e,λi q u=>?_⟩
 grind [Ke]
theorem sI{q:Nat}(e:Ve w S v 1 [d0,d1,d2])(h:NP w S g f q d0 d1 d2):Kids w S g f [q] v:=by grind [Kids]
theorem uv(m:c=101/\k=1\/c=97/\k=1\/c=113/\k=0)(h:At w b s p)(hp:p<s.size)(O:s.size<=40)(Q:nx s p=c)(hd:¬(48+k<=nx s (p+1)/\nx s (p+1)<=57)):
  ET 128 #[.pointer (some (Y b 0))] w λe w'=>e=Ji (p+1)/\DF b w w':=by
 have y:=M4 b p s (w.alloc IZ) c (h.alloc _) U O Q U;have T:=Dx hd;clear Q h hd;rcases m with ⟨rfl,rfl⟩|⟨rfl,rfl⟩|⟨rfl,rfl⟩;all_goals
  go_enter func128,ntmps128;go_wp2_with fail
  refine cm y ?_;rintro w1 ⟨hk,X⟩;clear y;go_wp2_with fail
  refine cm (rA b (p+1) s _ _ _ (X.alloc _) U O rfl T.out) λw2 u=>?_
  go_wp2;exact⟨rfl,rfl,(((DF.refl b w).alloc IZ).trans hk).trans (((DF.refl b w1).alloc _).trans u)⟩
theorem adt(ao:c=97/\k=1\/c=113/\k=0)(h:At w b s p)(hp:p<s.size)(hs:s.size<=40)(hx:nx s p=c)(hd:48+k<=nx s (p+1)/\nx s (p+1)<=57)(e1:Pt.ty (nx s) (f+1) p=Pt.ty (nx s) f (p+2))
  (ae:∀w,At w b s (p+2)->ET 128 #[.pointer (some (Y b 0))] w (Ja b s f (p+2) w)):
  ET 128 #[.pointer (some (Y b 0))] w (Ja b s (f+1) p w):=by
 have aN:=h.lt;have HL:=M4 b p s (w.alloc IZ) c (h.alloc _) U hs hx U;have X:=Dx hx;have O:¬w.heap.size=b:=U;have⟨HD,HC,HE⟩:=Ll hd ae e1;clear h hx hd ae e1;rcases ao with ⟨rfl,rfl⟩|⟨rfl,rfl⟩;all_goals
  go_enter func128,ntmps128;go_wp2_with fail
  refine cm HL ?_;rintro w1 ⟨hk,ha⟩;have T:=(NZ.new w (.int .u8 0) (Z 0) (.slice none 0 0)).E0 hk O;have hz:=T.lt;have u:¬w1.heap.size=b:=by have:=ha.lt;omega
  have aS:¬w.heap.size=w1.heap.size:=U;clear HL;go_wp2_with fail
  refine cm (YE b (p+1) s _ _ _ (ha.alloc _) U hs rfl HD.out) ?_;rintro w2 ⟨y,ad⟩;have T1:=(NZ.new w1 _ _ _).E0 y u;have T2:=(T.alloc _).E0 y O;have ah:=(((DF.refl b w).alloc IZ).trans hk).trans (((DF.refl b w1).alloc _).trans y);obtain⟨c2,aa⟩:∃c2:Int,c2=(nx s (p+1):Int)-48:=⟨_,rfl⟩;rw[<-aa];have ak:=Dx aa;clear aa;have⟨x0,x1,x2,y0,y1,y2⟩:=T1.facts;have aV:=T1.lt;clear T hk y ha;go_wp2_with fail
  refine(HC _ (ad.other (by simpa using u) _)).mono ?_;intro e w3 Q;unfold Ja at Q;split at Q
  ·rename_i hT;obtain⟨d0,d1,d2,rfl,m,an,ab⟩:=Q;have HT:=Dx hT;clear hT;have T3:=((T1.set1 (Z c2)).E0 m u).alloc (.cells #[d0,d1,d2] 153);have T4:=((T2.other (a:=EN w1 1) Fy (Z c2)).E0 m O).alloc (.cells #[d0,d1,d2] 153);have b1:w2.heap.size<=w3.heap.size:=by have:=m.size;simpa using this
   have⟨x0,x1,x2,y0,y1,y2⟩:=T3.facts;have⟨u0,u1,u2,v0,v1,v2⟩:=T4.facts;have aq:=(ah.setCell (p:=EN w1 1) Fy (Z c2)).trans m;clear T1 T2 T3 T4 m ad;go_wp2;have ab:NP w3 (λk=>w2.heap.size<=k) (nx s) f (p+2) d0 d1 d2:=by simpa using ab
   refine Bm (v:=.agg #[_,Z c2,EJ w3.heap.size 1 1]) (by simp[results,results128,go_sem,u0,u1,u2];rfl) rfl ?_;unfold Ja;rw[HE.out,Ay HT.out];refine⟨_,_,_,rfl,?_,?_,?_⟩
   ·repeat (first|exact aq|refine DF.setCell ?_ sto _|refine DF.alloc ?_ _)
   ·repeat (first|exact an|refine At.other ?_ (by first|simpa using O|simpa using u) _|refine At.alloc ?_ _)
   ·refine uX (by rw[X.out];rfl) (by rw[ak.out];unfold Gl;rw[Ay (by rw[X.out];omega)]) ?_;have ar:Pt.EW (nx s) f p=[p+2]:=by simp[Pt.EW,X.out]
    rw[ar];refine sI (QY (PI (Zz w3 rfl) ?_) (λk hk _=>by omega)) (Ke (λk hk _=>by omega) (GM ?_ ab));all_goals repeat (first|exact Hq.refl _ _|refine Hq.setCell ?_ sto _|refine Hq.alloc ?_ _)
  ·rename_i hT;have HT:=Dx hT;clear hT;obtain⟨rfl,m⟩:=Q;go_wp2;refine⟨rfl,?_⟩;unfold Ja;rw[HE.out,Ao HT.out];exact⟨rfl,(ah.setCell Fy _).trans m⟩
theorem ads{q:Nat}{t:Bool}(hc:c=114\/c=117)(h:At w b s p)(hp:p<s.size)(hs:s.size<=40)(hx:nx s p=c)(e1:Pt.ty (nx s) (f+1) p=(t,q))
  (X:∀w,At w b s (p+1)->ET 196 #[.pointer (some (Y b 0))] w λe w'=>if t then ∃v,e=.returned v/\DF b w w'/\At w' b s q/\Kids w' (λk=>w.heap.size<=k) (nx s) f (Pt.EW (nx s) f p) v else e=Ji q/\DF b w w'):
  ET 128 #[.pointer (some (Y b 0))] w (Ja b s (f+1) p w):=by
 have ao:=h.lt;have HL:=M4 b p s (w.alloc IZ) c (h.alloc _) U hs hx U;have O:=Dx hx;have y:¬w.heap.size=b:=U;have⟨HC,HE⟩:=FU X e1;clear h hx X e1;rcases hc with rfl|rfl;all_goals
  go_enter func128,ntmps128;go_wp2_with fail
  refine cm HL ?_;rintro w1 ⟨hk,ha⟩;have T:=(NZ.new w (.int .u8 0) (Z 0) (.slice none 0 0)).E0 hk y;have hz:=T.lt;have Q:¬w1.heap.size=b:=by have:=ha.lt;omega
  have aq:¬w.heap.size=w1.heap.size:=U;clear HL;go_wp2_with fail
  refine(HC _ (ha.alloc _)).mono ?_;intro e w3 aa;cases t
  ·obtain⟨rfl,m⟩:=aa;go_wp2;refine⟨rfl,?_⟩;unfold Ja;rw[HE.out];exact⟨rfl,(((DF.refl b w).alloc IZ).trans hk).trans (((DF.refl b w1).alloc _).trans m)⟩
  obtain⟨v,rfl,m,ad,u⟩:=aa;obtain⟨va,vn,vc,hv⟩:∃a n c,v=.slice a n c:=by
   have⟨xs,⟨⟨_,ho⟩,_⟩,_⟩:=u;rcases ho with ⟨rfl,_⟩|⟨g,cap,an,rfl,_⟩<;>exact⟨_,_,_,rfl⟩
  subst hv;have T1:=(NZ.new w1 _ _ _).E0 m Q;have T2:=(T.alloc _).E0 m y;have ae:=(((DF.refl b w).alloc IZ).trans hk).trans (((DF.refl b w1).alloc _).trans m);have av:=T1.lt;have⟨x0,x1,x2,y0,y1,y2⟩:=T1.facts;have⟨u0,u1,u2,v0,v1,v2⟩:=T2.facts;clear T T1 T2 hk m ha;go_wp2;have u:Kids w3 (λk=>w1.heap.size+1<=k) (nx s) f (Pt.EW (nx s) f p) (.slice va vn vc):=by simpa using u
  refine Bm (v:=.agg #[_,Z 0,.slice va vn vc]) (by simp[results,results128,go_sem,u0,u1,u2];rfl) rfl ?_;unfold Ja;rw[HE.out];refine⟨_,_,_,rfl,?_,?_,?_⟩
  ·repeat (first|exact ae|refine DF.setCell ?_ sto _)
  ·repeat (first|exact ad|refine At.other ?_ (by first|simpa using y|simpa using Q) _)
  ·refine uX (by rw[O.out];rfl) (by unfold Gl;rw[Ao (by rw[O.out];omega)]) ?_;refine mq (eO u ?_) (λk hk _=>by omega);repeat (first|exact Hq.refl _ _|refine Hq.setCell ?_ sto _)
theorem ac4:(prog.info? 293).map (λi=>(i.zero,i.size,i.bytes))=some (some (.agg #[Z 0,Z 0,Z 0]),3,24):=EL
def Tw(w:Aa)(k:Nat)(a0 a1 a2:Ad):Prop:=w.heap[k]?=some (.cells #[a0,a1,a2] 293 (0,0))
theorem Tw.facts(h:Tw w k a0 a1 a2):
  w.cell? (Y k 0)=some a0/\w.cell? (Y k 1)=some a1/\w.cell? (Y k 2)=some a2/\w.frozen? (Y k 0)=false/\w.frozen? (Y k 1)=false/\w.frozen? (Y k 2)=false:=by
 unfold Tw at h;simp[World.cell?,World.frozen?,h]
theorem Tw.new(w:Aa)(a0 a1 a2:Ad):Tw (w.alloc (.cells #[a0,a1,a2] 293)) w.heap.size a0 a1 a2:=by
 show (w.heap.push _)[(zz w)]?=_;rw[Bz]
def Ti(S:List Want)(c:Nat)(w:Aa)(e:Ending)(w':Aa):Prop:=
 ∃v,e=.returned (.tuple #[v,.bool (Pt.FW S c).isSome])/\Below w.heap.size w w'/\∀S',Pt.FW S c=some S'->SG w' w.heap.size v S'
theorem Qx{x:Want}{R:List Want}(h:SG w B v (x :: R)):∃y cap,v=EJ y (R.length+1) cap/\R.length+1<=cap/\y<w.heap.size/\(∀j u,(GV R)[j]?=some u->w.cell? (((Y y 0):Addr).add j)=some u) /\
  w.cell? (Y y (R.length*3))=some (Z x.1)/\w.cell? (Y y (R.length*3+1))=some (Z x.2.1)/\w.cell? (Y y (R.length*3+2))=some (Z x.2.2):=by
 have m:=λg=>h.cells (g:=g)
 have⟨_,h⟩:=h;rcases h with ⟨_,X⟩|⟨y,cap,T,Q,hg,hh,hc,_⟩
 ·simp at X
 ·have m:=m y (by rw[Q];rfl);have e:GV (x :: R)=GV R++wc x:=by grind [GV]
  rw[e]at m;have O:∀o,((Y y 0):Addr).add o=(Y y o):=λo=>by simp[Addr.add];omega
  have hl:=KY R;refine⟨y,cap,Q,hc,Dv hh,λj u hj=>m j u ?_,?_,?_,?_⟩
  ·grind
  ·rw[<-O];refine m _ _ ?_;rw[Bq U,hl,CZ];rfl
  ·rw[<-O];refine m _ _ ?_;rw[Bq U,hl,show R.length*3+1-R.length*3=1 by omega];rfl
  ·rw[<-O];refine m _ _ ?_;rw[Bq U,hl,show R.length*3+2-R.length*3=2 by omega];rfl
theorem below_grown(h:(w.alloc (.cells #[a0,a1,a2] 293)).grownBy w1 none):DY w w1:=
 ((AA _ _).alloc (Ar _) (.cells #[a0,a1,a2] 293)).trans ⟨h.os,h.tape,h.output,h.size,λk hk=>h.block k Fy Ev⟩
theorem add_block(a:Addr)(j:Nat):(a.add j).block=a.block:=by
 unfold Addr.add;split<;>rfl
theorem own_below(h:w.ownsRow B 293 3 v n xs)(hb:DY w w'):w'.ownsRow B 293 3 v n xs:=by
 exact aaC
theorem NA{B':Nat}(h:w.ownsRow B 293 3 v n xs)(m:B'<=B):w.ownsRow B' 293 3 v n xs:=by
 have⟨hl,h⟩:=h;refine⟨hl,?_⟩;rcases h with h|⟨g,cap,e,y,u,r⟩
 ·exact Aj h
 ·exact Am ⟨g,cap,e,y,Br m u,r⟩
theorem zM{o:Nat}{x:Ad}(h:w.ownsRow B 293 3 v n xs)(hk:k<B):(w.setCell (Y k o) x).ownsRow B 293 3 v n xs:=by
 exact abo
theorem aeb{x:Want}{X:Aa}{m:Nat}{a1:Int}(y:X.heap.size=m)(h:a1=(x.2.1:Int)):∀j u,(wc x)[j]?=some u->(X.alloc (.cells #[Z x.1,Z a1,Z x.2.2] 293)).cell? (((Y m 0):Addr).add j)=some u:=by
 subst y;subst h;have⟨O,Q,T,_⟩:=(Tw.new X (Z x.1) (Z x.2.1) (Z x.2.2)).facts;intro j u e;match j,e with
 |0,e=>simp[wc]at e;subst e;exact O
 |1,e=>simp[wc]at e;subst e;exact Q
 |2,e=>simp[wc]at e;subst e;exact T
theorem aec{x:Want}:∀u∈wc x,u.oneCell'=true:=by
 intro u hu;simp[wc]at hu;rcases hu with rfl|rfl|rfl<;>rfl
theorem rX(hv:SG w 0 v []):ET 205 #[v,.int .u8 c] w (Ti [] c w):=by
 obtain⟨a,cap,rfl⟩:∃a cap,v=.slice a 0 cap:=by
  have⟨_,h⟩:=hv;exact wD
 clear hv;unfold Ti;go_enter func205,ntmps205;go_wp2
 go_ret2
 exact⟨_,rfl,AA _ _,λe h=>by cases h⟩
theorem YZ(S:List Want)(v:Ad)(c:Nat)(w:Aa)(hv:SG w 0 v S)(hS:S.length<=1000)(hw:∀x∈S,1<=x.1/\x.1<=5/\x.2.1<=6/\x.2.2<=1000):
  ET 205 #[v,.int .u8 c] w (Ti S c w):=by
 match S,hv,hS,hw with
 |[],hv,_,_=>exact rX hv
 |(h,k,L) :: R,hv,hS,hw=>
  obtain⟨gb,cap,rfl,br,bL,bt,f0,f1,f2⟩:=Qx hv;have⟨h1,h5,hk,hL⟩:=hw (h,k,L) Ev;simp only at h1 h5 hk hL f0 f1 f2;simp only[A4]at hS;have bi:=Dx λw=>Nn c L w hL
  have hl:((Pt.EX c L).getD []).length<=2:=by
   unfold Pt.EX;repeat' split
   all_goals simp
  have bj:=Dx hl;obtain⟨r,hr⟩:∃r,R.length=r:=⟨_,rfl⟩;have b3:=Dx hr;obtain⟨Q,hQ⟩:∃Q,Ti ((h,k,L) :: R) c w=Q:=⟨_,rfl⟩;have HQ:Hid (∀e w',Ti ((h,k,L) :: R) c w e w'->Q e w'):=λe w' q=>by rw[<-hQ];exact q
  have bb:Hid (h=1\/h=2\/h=3\/h=4\/h=5):=by show _\/_;omega
  have HN:Hid (∀(o:Obj) (j:Nat) (u:Ad),(GV R)[j]?=some u->(w.alloc o).cell? (((Y gb 0):Addr).add j)=some u):=λo j u hj=>(AR (w:=w) (AL _ _ _ (by rw[add_block];exact bL))).trans (bt j u hj)
  rw[hr]at hS br f0 f1 f2 ⊢;rw[hQ];clear bt hr hl hw hv hQ h1 h5;have⟨i0,hi,b5,b6,b7⟩:=A1 ac4;go_enter func205,ntmps205;go_wp2_with (at_builtin;refine AQ _ rfl (.tmp 19) (.tmp 24) 294 rfl (w.heap.size+1) 293 i0 (.agg #[Z 0,Z 0,Z 0]) 3 24 underlying294 hi b5 b6 b7 rfl Em _ 0 [] rfl (AZ _ _ _ _) (Y gb 0) r cap (GV R) rfl (by rw[<-Dw b3];exact KY R) (Dw HN _) (PO) JG U Ev ?_)
  intro v1 w1 ak m _ _;have⟨t0,t1,t2,y0,y1,y2⟩:=(Tw.new w (Z h) (Z k) (Z L)).facts;have b0:=m.cell t0 sow;have b1:=m.cell t1 sow;have b2:=m.cell t2 sow;have bq:DY w w1:=below_grown m;have s1:w.heap.size+1<=w1.heap.size:=by have:=m.size;simpa using this
  have ak:w1.ownsRow (w.heap.size+1) 293 3 v1 r (GV R):=by simpa using ak
  have z1:w1.frozen? (EN w 1)=false:=(A8 (w:=w.alloc (.cells #[Z h,Z k,Z L] 293)) (m.block w.heap.size Ev sow)).trans y1;have ar:=Dx ak;have bz:Hid (SG w1 w.heap.size v1 R):=by unfold SG;rw[Dw b3];exact NA ak U
  have aV:=Dx bq;clear t0 t1 t2 y0 y1 y2 f0 f1 f2 ak m HN bq;have fin:Hid (∀t,Pt.FW ((h,k,L) :: R) c=(if t=true then some R else none)->Q (.returned (.tuple #[v1,.bool t])) w1):=λt hg=>HQ _ _ (by
   refine⟨v1,?_,aV,?_⟩
   ·rw[hg];cases t<;>rfl
   ·rw[hg];cases t with
    |false=>intro S' q;cases q
    |true=>intro S' q;cases q;exact Dw bz)
  rcases Dw bb with rfl|rfl|rfl|rfl|rfl;rotate_left
  ·by_cases hc:(49:Int)<=c
   ·go_wp2;exact fin _ (by grind [Pt.FW])
   ·go_wp2;exact fin _ (by grind [Pt.FW])
  ·by_cases hc:(48:Int)<=c
   ·go_wp2;exact fin _ (by grind [Pt.FW])
   ·go_wp2;exact fin _ (by grind [Pt.FW])
  ·go_wp2;exact fin _ (by grind [Pt.FW])
  ·by_cases hx:c=41/\0<k
   ·obtain⟨rfl,bS⟩:=hx;have ce:0<(k:Int):=U;go_wp2;exact fin _ (by grind [Pt.FW])
   by_cases hy:c≠41/\k=6
   ·have cc:((c:Int)==41)=false:=Fy;have bT:((k:Int)==6)=true:=Fy;go_wp2;exact HQ _ _ ⟨_,by simp[Pt.FW,hy];rfl,aV,by simp[Pt.FW,hy]⟩
   have bT:((k:Int)==6)=false:=Fy;have hg:Hid (Pt.FW ((5,k,L) :: R) c=(Pt.EX c L).map (·++((5,k+1,L) :: R))):=by
    show _=_;by_cases q:c=41
    ·have q0:k=0:=U;subst q q0;cases hb:Pt.EX 41 L<;>simp[Pt.FW,hb]
    ·have q6:¬k=6:=U;cases hb:Pt.EX c L<;>simp[Pt.FW,q,q6,hb]
   have hz:((c:Int)==41)=false\/(((c:Int)==41)=true/\¬0<(k:Int)):=by
    by_cases q:c=41
    ·exact Am ⟨by simp[q],U⟩
    ·exact Aj Fy
   clear hx hy;obtain⟨Ra,ac⟩:∃Ra,(5,k+1,L) :: R=Ra:=⟨_,rfl⟩;have av:Hid (Ra.length=r+1):=by show _=_;rw[<-ac,A4,Dw b3]
   rw[ac]at hg;rcases hz with hc|⟨hc,bS⟩;all_goals
    go_wp2_with (at_builtin;refine AQ _ rfl (.tmp 68) (.tmp 70) 294 rfl (w.heap.size+1) 293 i0 (.agg #[Z 0,Z 0,Z 0]) 3 24 underlying294 hi b5 b6 b7 rfl Em _ r (GV R) rfl (by exact(zM ar U).alloc _) (EN w1 0) 1 1 (wc (5,k+1,L)) rfl rfl (by exact aeb Ev Ev) (by exact aec) JG U Fy ?_)
    intro vA wA aS T _ _;have am:∀k',v1.ownBlock=some k'->w.heap.size+1<=k':=λk' al=>(ar.lt k' al).1
    have bW:w.heap.size<w1.heap.size:=U;have q2:((w1.setCell {block:=w.heap.size,off:=1} (Value.int IntKind.i64 (↑k+1))).alloc (Obj.cells #[Value.int IntKind.i64 5,Value.int IntKind.i64 (↑k+1),Value.int IntKind.i64 ↑L] 293)).cell? (EN w 2)=some (Z L):=by simp[go_sem,b2,bW]
    have c2:=T.cell q2 (λe=>by have:=am _ e.symm;simp at this;omega);have b9:Hid (DY w wA):=((aV.setCell Ev _).alloc Fy _).grown T Fy (λk' al=>by have:=am k' al;omega);have sA:w.heap.size+1<=wA.heap.size:=by have:=T.size;simp at this;omega
    have HO:Hid (wA.ownsRow (w.heap.size+1) 293 3 vA (r+1) (GV Ra)):=by
     have e:GV [(5,k+1,L)]=wc (5,k+1,L):=by simp[GV]
     rw[<-ac,show ((5,k+1,L) :: R)=[(5,k+1,L)]++R from rfl,MQ,e];exact aS
    clear aS T am q2 b0 b1 b2 z1 ac;go_wp2_with fail
    refine(bi _).mono ?_;unfold Ge;rintro e w2 ⟨v2,rfl,X,ae⟩;have ad:=own_below HO X;have s2:=X.size;have ah:=b9.trans (X.mono U);have aa:=λg=>ae.cells (g:=g)
    have hl:=Dw bj;have aN:∀V w',DY w w'->SG w' w.heap.size V ((Pt.EX c L).getD []++Ra)->Q (.returned (.tuple #[V,.bool (Pt.EX c L).isSome])) w':=λV w' p q=>HQ _ _ (by
     refine⟨V,by rw[Dw hg,Option.isSome_map],p,λS' e=>?_⟩;rw[Dw hg]at e;cases hb:Pt.EX c L with
     |none=>rw[hb]at e;cases e
     |some y=>rw[hb]at e q;cases e;exact q)
    have aq:=Dx aN;clear aN;generalize (Pt.EX c L).isSome=t at *;generalize (Pt.EX c L).getD []=l at *;rcases ae.2 with ⟨rfl,h0⟩|⟨g2,aw,bp,rfl,_,be,_⟩
    ·obtain rfl:l=[]:=BA h0;clear ae aa X;go_wp2_with (at_builtin;refine wpList_append_own_none rfl (.tmp 79) (.tmp 80) 294 rfl (w.heap.size+1) 293 i0 3 underlying294 hi _ _ _ rfl ad rfl ?_)
     refine aq _ _ ah ?_;unfold SG;rw[Cc,Dw av];exact NA ad U
    ·have ao:=Dx (aa g2 rfl);clear ae aa X be;go_wp2_with (at_builtin;refine AQ _ rfl (.tmp 79) (.tmp 80) 294 rfl (w.heap.size+1) 293 i0 (.agg #[Z 0,Z 0,Z 0]) 3 24 underlying294 hi b5 b6 b7 rfl Em _ _ _ rfl ad (Y g2 0) l.length aw (GV l) rfl (KY l) ao (PO) JG U U ?_)
     intro v3 w3 ab O _ _;have az:=ah.grown O U (λk' al=>by have:=(ad.lt k' al).1;omega);have ba:Hid (SG w3 w.heap.size v3 (l++Ra)):=by
      unfold SG;rw[MQ,AJ,av,Nat.add_comm];exact NA ab U
     clear ab O;go_wp2;exact aq _ _ az (Dw ba)
  ·obtain⟨Ra,ac⟩:∃Ra,Ra=R:=⟨_,rfl⟩;have hg:Hid (Pt.FW ((1,k,L) :: R) c=(Pt.EX c L).map (·++Ra)):=by
    show _=_;rw[ac];cases hb:Pt.EX c L<;>simp[Pt.FW,hb]
   have HO:Hid (w1.ownsRow (w.heap.size+1) 293 3 v1 r (GV Ra)):=by rw[ac];exact ar
   have b9:=aV;have av:Hid (Ra.length=r):=by rw[ac];exact b3
   clear ac;go_wp2_with fail
   refine(bi _).mono ?_;unfold Ge;rintro e w2 ⟨v2,rfl,X,ae⟩;have ad:=own_below HO X;have s2:=X.size;have ah:=b9.trans (X.mono U);have aa:=λg=>ae.cells (g:=g)
   have hl:=Dw bj;have aN:∀V w',DY w w'->SG w' w.heap.size V ((Pt.EX c L).getD []++Ra)->Q (.returned (.tuple #[V,.bool (Pt.EX c L).isSome])) w':=λV w' p q=>HQ _ _ (by
    refine⟨V,by rw[Dw hg,Option.isSome_map],p,λS' e=>?_⟩;rw[Dw hg]at e;cases hb:Pt.EX c L with
    |none=>rw[hb]at e;cases e
    |some y=>rw[hb]at e q;cases e;exact q)
   have aq:=Dx aN;clear aN;generalize (Pt.EX c L).isSome=t at *;generalize (Pt.EX c L).getD []=l at *;rcases ae.2 with ⟨rfl,h0⟩|⟨g2,aw,bp,rfl,_,be,_⟩
   ·obtain rfl:l=[]:=BA h0;clear ae aa X;go_wp2_with (at_builtin;refine wpList_append_own_none rfl (.tmp 79) (.tmp 80) 294 rfl (w.heap.size+1) 293 i0 3 underlying294 hi _ _ _ rfl ad rfl ?_)
    refine aq _ _ ah ?_;unfold SG;rw[Cc,Dw av];exact NA ad U
   ·have ao:=Dx (aa g2 rfl);clear ae aa X be;go_wp2_with (at_builtin;refine AQ _ rfl (.tmp 79) (.tmp 80) 294 rfl (w.heap.size+1) 293 i0 (.agg #[Z 0,Z 0,Z 0]) 3 24 underlying294 hi b5 b6 b7 rfl Em _ _ _ rfl ad (Y g2 0) l.length aw (GV l) rfl (KY l) ao (PO) JG U U ?_)
    intro v3 w3 ab O _ _;have az:=ah.grown O U (λk' al=>by have:=(ad.lt k' al).1;omega);have ba:Hid (SG w3 w.heap.size v3 (l++Ra)):=by
     unfold SG;rw[MQ,AJ,av,Nat.add_comm];exact NA ab U
    clear ab O;go_wp2;exact aq _ _ az (Dw ba)
def okW(M:Nat)(x:Want):Prop:=1<=x.1/\x.1<=5/\x.2.1<=6/\x.2.2<=M
theorem WL{L:Nat}(e:L<=M):∀l,Pt.EX c L=some l->l.length<=2/\∀x∈l,okW (M+1) x:=by
 intro l hl;unfold Pt.EX at hl
 grind [okW]
theorem T7{S S':List Want}(h:∀x∈S,okW M x)(e:Pt.FW S c=some S'):S'.length<=S.length+2/\∀x∈S',okW (M+1) x:=by
 match S,h,e with
 |(a,k,L) :: R,h,e=>
  have m:=h (a,k,L) Ev;have y:∀x∈R,okW (M+1) x:=λx O=>by
   all_goals grind [okW]
  unfold okW at m;simp only at m;have u:some R=some S'->S'.length<=((a,k,L) :: R).length+2/\∀x∈S',okW (M+1) x:=by all_goals grind
  simp only[Pt.FW]at e;split at e;all_goals grind [Option.map_eq_some_iff,WL,okW]
theorem aeW{S:List Want}(h:∀x∈S,okW M x)(e:D<=M):Pt.nd S c D<=M:=by
 match S,h with
 |[],_=>simpa [Pt.nd] using e
 |(a,k,L) :: R,h=>
  have m:=h (a,k,L) Ev;unfold okW at m
  grind [Pt.nd]
structure yg(s:Ab)(w:Aa)(Kw:Nat×Nat)(p D:Nat)(S:List Want)(v:Ad)(wr:Aa):Prop where
 le:p<=s.size
 stk:SG wr w.heap.size v S
 len:S.length<=2*p+1
 all:∀x∈S,okW (p+1) x
 deep:D<=p+1
 DG:Below w.heap.size w wr
 run:Pt.run (nx s) s.size (s.size-p) S D p=Kw
theorem lZ(s:Ab)(w:Aa):yg s w (Pt.run (nx s) s.size s.size [(1,0,1)] 0 0) 0 0 [(1,0,1)] (EJ w.heap.size 1 1) (w.alloc (.cells #[Z 1,Z 0,Z 1] 293)):=by
 refine⟨AV _,XV w _ rfl (Ar _) rfl (by simp[GV,wc]) U,Ev,?_,U,F9,rfl⟩;intro x e
 grind [okW]
theorem Oj{Kw:Nat×Nat}{S S':List Want}(I:yg s w Kw p D S v wr)(y:p<s.size)(u:Pt.FW S (nx s p)=some S')(e:DY wr w2)(T:SG w2 wr.heap.size v' S')(h:DY w2 w3):
  yg s w Kw (p+1) (Pt.nd S (nx s p) D) S' v' w3:=by
 have⟨X,Q⟩:=T7 I.all u;have m:=I.DG.size;have O:=e.size;have hl:=I.len;refine⟨y,own_below (NA T m) h,U,Q,?_,(I.DG.trans (e.mono m)).trans (h.mono U),?_⟩
 ·have:=aeW (c:=nx s p) I.all I.deep;omega
 ·rw[<-Pt.Kf y u];exact I.run
theorem uU(s:Ab)(w:Aa)(e:¬s.size<=40):
  D7 147 #[.string s] w (.tuple #[Z 1,Z 0]) λw'=>DY w w':=by
 have h:(40:Int)<(s.size:Int):=U;clear e;go_enter func147,ntmps147;go_wp2
 go_ret2
 exact⟨rfl,AA _ _⟩
theorem nM(s:Ab)(w:Aa)(hs:s.size<=40):
  D7 147 #[.string s] w (.tuple #[Z (Pt.run (nx s) s.size s.size [(1,0,1)] 0 0).1,Z (Pt.run (nx s) s.size s.size [(1,0,1)] 0 0).2]) λw'=>DY w w':=by
 have I0:=Dx (lZ s w);generalize Pt.run (nx s) s.size s.size [(1,0,1)] 0 0=Kw at *;have az:¬(40:Int)<(s.size:Int):=U;go_enter func147,ntmps147;go_wp2;go_loopw [4,5,6] (λv dp i wr=>∃(p D:Nat) (S:List Want),i=Z p/\dp=Z D/\yg s w Kw p D S v wr) (λ_ _ i _=>s.size-(intOf i).toNat)
 case atStart=>exact⟨0,0,_,rfl,rfl,Dw I0⟩
 case round=>
  obtain⟨p,D,S,rfl,rfl,I⟩:=hrel;clear I0;have aV:=I.le;have hD:=I.deep;have aS:=I.len;have aa:∀x∈S,1<=x.1/\x.1<=5/\x.2.1<=6/\x.2.2<=1000:=λx hx=>by
   have:=I.all x hx;unfold okW at this;omega
  by_cases hlt:p<s.size
  ·have hc:=Gd hlt;have HC:=Dx hc;clear hc;have an:=I.DG.size;have HI:=Dx I;have HG:=Dx (YZ S u4 (s[p]).toNat wr (NA I.stk (AV _)) U aa);clear aa;cases hg:Pt.FW S (s[p]).toNat with
   |none=>
    have u:Kw=(2,p):=by
     rw[<-I.run];exact Pt.Lh hlt (by rw[Dw HC];exact hg)
    subst u;clear I;have HGG:Hid (ET 205 #[u4,.int .u8 (s[p]).toNat] wr λe w'=>∃v,e=.returned (.tuple #[v,.bool false])/\DY wr w'):=by
     refine(Dw HG).mono ?_;rintro e w' ⟨v',rfl,hb,_⟩;rw[hg];exact⟨v',rfl,hb⟩
    clear HG hg;go_wp2_with fail
    refine(Dw HGG).mono ?_;rintro e w2 ⟨v2,rfl,hb2⟩;go_wp2
    go_ret2
    exact⟨rfl,(Dw HI).DG.trans (hb2.mono an)⟩
   |some S'=>
    have HGG:Hid (ET 205 #[u4,.int .u8 (s[p]).toNat] wr λe w'=>∃v,e=.returned (.tuple #[v,.bool true])/\DY wr w'/\SG w' wr.heap.size v S'):=by
     refine(Dw HG).mono ?_;rintro e w' ⟨v',rfl,hb,hst⟩;rw[hg];exact⟨v',rfl,hb,hst S' hg⟩
    have HS:Hid (Pt.FW S (nx s p)=some S'):=by rw[Dw HC];exact hg
    clear HG;match S,hg,I,HI,HS with
    |[],hg,_,_,_=>simp[Pt.FW]at hg
    |(h,k,L) :: R,hg,I,HI,HS=>
     have hx:=I.all (h,k,L) Ev;unfold okW at hx;simp only at hx;have⟨ao,aq,b1,b2⟩:=hx;obtain⟨gb,cap,rfl,ab,hgl,_,f0,f1,f2⟩:=Qx I.stk;simp only at f0 f1 f2;have aN:R.length<=100:=by have:=I.len;simp at this;omega
     generalize hrr:R.length=r at *;have av:=Dx hrr;clear hrr hg I;have ak:h=1\/h=2\/h=3\/h=4\/h=5:=U;clear ao aq;rcases ak with rfl|rfl|rfl|rfl|rfl
     ·by_cases O:D<L
      ·have m:Pt.nd ((1,k,L) :: R) (nx s p) D=L:=by
        simp[Pt.nd,O]
       have HND:=Dx m;clear m;have X:(D:Int)<L:=U;exact afm
      ·have m:Pt.nd ((1,k,L) :: R) (nx s p) D=D:=by
        simp[Pt.nd,O]
       have HND:=Dx m;clear m;have X:¬(D:Int)<L:=U;exact afm
     ·have m:Pt.nd ((2,k,L) :: R) (nx s p) D=D:=by
       simp[Pt.nd]
      have HND:=Dx m;clear m;go_wp2_with fail
      refine(Dw HGG).mono ?_;rintro e w2 ⟨v2,rfl,hb2,hst⟩;have g0:=(hb2.cell (p:=(Y gb (r*3))) hgl).trans f0;have g1:=(hb2.cell (p:=(Y gb (r*3+1))) hgl).trans f1;have g2:=(hb2.cell (p:=(Y gb (r*3+2))) hgl).trans f2;have⟨HST,HB2⟩:=FU hst hb2;clear f0 f1 f2 hst hb2;go_wp2;go_roundw
      case rel=>
       have J:=Oj (Dw HI) hlt (Dw HS) (Dw HB2) (Dw HST) ((AA _ _).alloc (Ar _) (.cells #[Z 2,Z k,Z L] 293));exact adO
      case measure=>exact Kt
     ·have m:Pt.nd ((3,k,L) :: R) (nx s p) D=D:=by
       simp[Pt.nd]
      have HND:=Dx m;clear m;go_wp2_with fail
      refine(Dw HGG).mono ?_;rintro e w2 ⟨v2,rfl,hb2,hst⟩;have g0:=(hb2.cell (p:=(Y gb (r*3))) hgl).trans f0;have g1:=(hb2.cell (p:=(Y gb (r*3+1))) hgl).trans f1;have g2:=(hb2.cell (p:=(Y gb (r*3+2))) hgl).trans f2;have⟨HST,HB2⟩:=FU hst hb2;clear f0 f1 f2 hst hb2;go_wp2;go_roundw
      case rel=>
       have J:=Oj (Dw HI) hlt (Dw HS) (Dw HB2) (Dw HST) ((AA _ _).alloc (Ar _) (.cells #[Z 3,Z k,Z L] 293));exact adO
      case measure=>exact Kt
     ·have m:Pt.nd ((4,k,L) :: R) (nx s p) D=D:=by
       simp[Pt.nd]
      have HND:=Dx m;clear m;go_wp2_with fail
      refine(Dw HGG).mono ?_;rintro e w2 ⟨v2,rfl,hb2,hst⟩;have g0:=(hb2.cell (p:=(Y gb (r*3))) hgl).trans f0;have g1:=(hb2.cell (p:=(Y gb (r*3+1))) hgl).trans f1;have g2:=(hb2.cell (p:=(Y gb (r*3+2))) hgl).trans f2;have⟨HST,HB2⟩:=FU hst hb2;clear f0 f1 f2 hst hb2;go_wp2;go_roundw
      case rel=>
       have J:=Oj (Dw HI) hlt (Dw HS) (Dw HB2) (Dw HST) ((AA _ _).alloc (Ar _) (.cells #[Z 4,Z k,Z L] 293));exact adO
      case measure=>exact Kt
     ·by_cases y:nx s p=41
      ·have Q:=Dx y;have al:((((s[p]).toNat:Nat):Int) != 41)=false:=by rw[<-Dw HC,y];rfl
       clear y;have m:Pt.nd ((5,k,L) :: R) (nx s p) D=D:=by
        simp[Pt.nd,Dw Q]
       have HND:=Dx m;clear m;exact adK
      ·have Q:=Dx y;have al:((((s[p]).toNat:Nat):Int) != 41)=true:=by rw[<-Dw HC];simp;omega
       clear y;by_cases O:D<L
       ·have m:Pt.nd ((5,k,L) :: R) (nx s p) D=L:=by
         simp[Pt.nd,Dw Q,O]
        have HND:=Dx m;clear m;have X:(D:Int)<L:=U;exact adK
       ·have m:Pt.nd ((5,k,L) :: R) (nx s p) D=D:=by
         simp[Pt.nd,Dw Q,O]
        have HND:=Dx m;clear m;have X:¬(D:Int)<L:=U;exact adK
  ·have am:p=s.size:=U;have u:Kw=Pt.fin s.size S D:=by
    rw[<-I.run,am,CZ];rfl
   have T:=I.DG;have hst:=I.stk;clear I;match S,hst,u with
   |[],hst,u=>
    obtain⟨a,cap,rfl⟩:∃a cap,u4=.slice a 0 cap:=by
     have⟨_,h⟩:=hst;exact wD
    clear hst;by_cases h4:4<D
    ·have u:Kw=(3,0):=by rw[u];simp[Pt.fin,h4]
     subst u;have ah:(4:Int)<D:=U;go_wp2
     go_ret2
     exact⟨rfl,T⟩
    ·have u:Kw=(0,0):=by rw[u];simp[Pt.fin,h4]
     subst u;have ah:¬(4:Int)<D:=U;go_wp2
     go_ret2
     exact⟨rfl,T⟩
   |x :: R,hst,u=>
    obtain⟨gb,cap,rfl,ab,hgl,_,f0,f1,f2⟩:=Qx hst;clear hst f0 f1 f2;have u:Kw=(2,s.size):=by rw[u];simp[Pt.fin]
    subst u;go_wp2
    go_ret2
    exact⟨rfl,T⟩
theorem ac1:(prog.info? 153).map (λi=>(i.zero,i.size,i.bytes))=some (some (.agg #[.int .u8 0,Z 0,.slice none 0 0]),3,40):=EL
def Sz(b:Nat)(s:Ab)(f:Nat):Prop:=∀(p:Nat) (w:Aa),At w b s p->p<=s.size->s.size-p<f->Calls prog 128 #[.pointer (some (Y b 0))] w (Ja b s f p w)
def acJ(w:Aa)(B:Nat)(s:Ab)(f:Nat)(ks:List Nat)(v:Ad)(xs:Ae):Prop:=
 ∀(i q:Nat),ks[i]?=some q->∃d0 d1 d2,xs[3*i]?=some d0/\xs[3*i+1]?=some d1/\xs[3*i+2]?=some d2/\NP w (λk=>B<=k/\v.ownBlock≠some k) (nx s) f q d0 d1 d2
structure WI(b f p:Nat)(s:Ab)(w:Aa)(j k q:Nat)(ks:List Nat)(v:Ad)(xs:Ae)(wr:Aa):Prop where
 sum:k+j=6
 some:1<=k
 len:ks.length=k
 le:q<=s.size
 fuel:s.size-q<f
 Jw:At wr b s q
 E0:DF b w wr
 owns:wr.ownsRow w.heap.size 153 3 v k xs
 inside:acJ wr w.heap.size s f ks v xs
 rest:Pt.LV (Pt.ty (nx s) f) (nx s) 5 (Pt.ty (nx s) f (p+1)).2=Pt.LV (Pt.ty (nx s) f) (nx s) j q
 EW:(p+1) :: Pt.I7 (Pt.ty (nx s) f) (nx s) 5 (Pt.ty (nx s) f (p+1)).2=ks++Pt.I7 (Pt.ty (nx s) f) (nx s) j q
def lenOf:Value->Nat|.slice _ n _=>n|_=>0
theorem GN{c2:Ad}(h:NP w S g f p c0 c1 c2):(∃x,c0=.int .u8 x)/\(∃x,c1=Z x)/\(∃a n c,c2=.slice a n c):=by
 cases f with
 |zero=>exact h.elim
 |succ f=>
  have⟨e,m,xs,⟨⟨_,u⟩,_⟩,_⟩:=h
  grind
theorem OO(h:w.ownsRow B 153 3 v n xs)(hn:1<=n):∃g cap,v=EJ g n cap/\B<=g/\g<w.heap.size:=by
 have⟨_,h⟩:=h
 grind
theorem Uu(h:w.ownsRow B 153 3 v n xs)(hk:DF b w w')(O:b<B):w'.ownsRow B 153 3 v n xs:=by
 have⟨hl,h⟩:=h;refine⟨hl,?_⟩;rcases h with h|⟨g,cap,e,y,u,m,r⟩
 ·exact Aj h
 ·refine Am ⟨g,cap,e,y,u,?_,r⟩;rw[hk.block g (Dv m) U];exact m
theorem mf{u:Nat}(h:DF b w w1)(m:DF b w1 w2)(X:At w2 b s u)(Q:(Pt.ty (nx s) f (p+1)).2=u)(O:u<=s.size)(hf:s.size-u<f)
  (hr:NP w2 (λk=>w1.heap.size<=k) (nx s) f (p+1) d0 d1 d2):
  WI b f p s w 5 1 u [p+1] (EJ w2.heap.size 1 1) [d0,d1,d2] (w2.alloc (.cells #[d0,d1,d2] 153)):=by
 have ad:=h.size;have ae:=m.size;refine⟨rfl,Ar _,rfl,O,hf,X.alloc _,(h.trans m).alloc _,?_,?_,by rw[Q],by rw[Q];rfl⟩
 ·have⟨⟨hl,ho⟩,hS⟩:=Zz (d0:=d0) (d1:=d1) (d2:=d2) w2 rfl;refine⟨hl,?_⟩;rcases ho with ⟨T,_⟩|⟨g,cap,y,hv,hg,r⟩
  ·cases T
  ·cases hv;exact Am ⟨_,_,y,rfl,U,r⟩
 ·intro i q e;match i,e with
  |0,e=>
   simp at e;subst e;refine⟨d0,d1,d2,rfl,rfl,rfl,GM ((Hq.refl _ _).alloc _) (Ke (λk hk aa=>⟨U,?_⟩) hr)⟩
   grind [Value.ownBlock]
theorem sC{q:Nat}(aN:b<w.heap.size)(I:WI b f p s w (j+1) k q ks v xs wr)(hk:DF b wr w2)
  (ha:At w2 b s (Pt.ty (nx s) f q).2) (hT:(Pt.ty (nx s) f q).1=true) (hb:Pt.Agree (nx s) s.size f) (hc:¬nx s q=41) (hr:NP w2 (λk=>wr.heap.size<=k) (nx s) f q d0 d1 d2)
  (ad:w3.ownsRow w.heap.size 153 3 v' (k+1) (xs++[d0,d1,d2])) (hg:(w2.alloc (.cells #[d0,d1,d2] 153)).grownBy w3 v.ownBlock) (az:v'.ownBlock=v.ownBlock\/v'.ownBlock=some (w2.alloc (.cells #[d0,d1,d2] 153)).heap.size):
  WI b f p s w j (k+1) (Pt.ty (nx s) f q).2 (ks++[q]) v' (xs++[d0,d1,d2]) w3:=by
 have⟨aq,X,ac,am,T,b1,y,how,ak,ao,al⟩:=I;have⟨g,cap,hv,av,aS⟩:=OO how X;have aa:v.ownBlock=some g:=by rw[hv];rfl
 have⟨_,ae,_⟩:=hb q 0 1 0 [] am T;have⟨q1,q2⟩:=ae hT;have b2:=y.size;have b3:=hk.size;have b5:xs.length=3*k:=by have:=how.1;omega
 have aV:(w2.alloc (.cells #[d0,d1,d2] 153)).heap.size=w2.heap.size+1:=Ev;have ar:w2.heap.size+1<=w3.heap.size:=by have:=hg.size;omega
 have Q:∀u,u<w2.heap.size->¬u=g->w3.heap[u]?=w2.heap[u]?:=by
  intro u hl hn;rw[hg.block u U (by rw[aa];intro e;cases e;exact hn rfl)];exact AL _ _ _ hl
 refine⟨U,U,by simp[ac],q2,U,?_,?_,ad,?_,?_,?_⟩
 ·all_goals grind [At]
 ·refine⟨?_,?_,?_,U,?_⟩
  ·exact hg.os.trans (hk.os.trans y.os)
  ·exact hg.tape.trans (hk.tape.trans y.tape)
  ·exact hg.output.trans (hk.output.trans y.output)
  ·intro u hl hn;rw[Q u U U,hk.block u U hn,y.block u hl hn]
 ·have ab:∀(S:Nat->Prop),¬S g->Hq S w2 w3:=λS hS=>⟨U,λu m hl=>Q u hl (λe=>hS (e ▸ m))⟩
  have fresh:∀u,u<w2.heap.size->¬u=g->v'.ownBlock≠some u:=by all_goals grind
  intro i q' O;by_cases hi:i<ks.length
  ·rw[A6 hi]at O;have⟨e0,e1,e2,a0,a1,a2,an⟩:=ak i q' O;refine⟨e0,e1,e2,?_,?_,?_,?_⟩
   ·all_goals grind
   ·all_goals grind
   ·all_goals grind
   ·have h1:=GM (hk.above (S:=λk=>w.heap.size<=k/\v.ownBlock≠some k) U) an;have h2:=Ke (S':=λk=>w.heap.size<=k/\v.ownBlock≠some k/\v'.ownBlock≠some k) (λu m hl=>⟨m.1,m.2,fresh u hl (λe=>m.2 (by rw[e];exact aa))⟩) h1;exact Ke (λu m _=>⟨m.1,m.2.2⟩) (GM (ab _ (λh=>h.2.1 aa)) h2)
  ·have ah:i=ks.length:=by all_goals grind
   subst ah;rw[Bq (Ar _)]at O;simp at O;subst O;refine⟨d0,d1,d2,?_,?_,?_,?_⟩
   ·all_goals grind
   ·all_goals grind
   ·all_goals grind
   ·have h2:=Ke (S':=λk=>w.heap.size<=k/\¬k=g/\v'.ownBlock≠some k) (λu m hl=>⟨U,U,fresh u hl U⟩) hr;exact Ke (λu m _=>⟨m.1,m.2.2⟩) (GM (ab _ (λh=>h.2.1 rfl)) h2)
 all_goals grind [Pt.LV,Pt.I7]
def JW(b:Nat)(s:Ab)(f p:Nat)(w:Aa)(e:Ending)(w':Aa):Prop:=
 if (Pt.LV (Pt.ty (nx s) f) (nx s) 5 (Pt.ty (nx s) f (p+1)).2).1 then ∃v,e=.returned v/\DF b w w'/\At w' b s (Pt.LV (Pt.ty (nx s) f) (nx s) 5 (Pt.ty (nx s) f (p+1)).2).2/\Kids w' (λk=>w.heap.size<=k) (nx s) f ((p+1) :: Pt.I7 (Pt.ty (nx s) f) (nx s) 5 (Pt.ty (nx s) f (p+1)).2) v
 else e=Ji (Pt.LV (Pt.ty (nx s) f) (nx s) 5 (Pt.ty (nx s) f (p+1)).2).2/\DF b w w'
theorem T9{q:Nat}(u:b<w.heap.size)(I:WI b f p s w j k q ks v xs wr)(O:nx s q=41)(hk:DF b wr w')(Q:At w' b s (q+1)):
  JW b s f p w (.returned v) w':=by
 have e1:Pt.LV (Pt.ty (nx s) f) (nx s) j q=(true,q+1):=by cases j<;>simp[Pt.LV,O]
 have e2:Pt.I7 (Pt.ty (nx s) f) (nx s) j q=[]:=by cases j<;>simp[Pt.I7,O]
 unfold JW;rw[I.rest,e1,I.EW,e2,Cb,Ay rfl];refine⟨v,rfl,I.E0.trans hk,Q,xs,⟨?_,?_⟩,?_⟩
 ·have⟨hl,h⟩:=Uu I.owns hk u;rw[I.len];refine⟨hl,?_⟩
  grind
 ·intro k' e;have⟨g,cap,hv,m,T⟩:=OO I.owns I.some;rw[hv]at e;cases e;exact m
 ·intro i q' y;have⟨d0,d1,d2,a0,a1,a2,X⟩:=I.inside i q' y;refine⟨d0,d1,d2,a0,a1,a2,Ke (λk' e _=>e.1) (GM (hk.above ?_) X)⟩;intro h;have:=h.1;omega
theorem ei{q:Nat}(I:WI b f p s w 0 k q ks v xs wr)(e:¬nx s q=41)(hk:DF b wr w'):
  JW b s f p w (Ji q) w':=by grind [WI,DF,JW,Pt.LV]
theorem zq{q:Nat}(I:WI b f p s w (j+1) k q ks v xs wr)(h:¬nx s q=41)(e:(Pt.ty (nx s) f q).1=false)(hk:DF b wr w'):
  JW b s f p w (Ji (Pt.ty (nx s) f q).2) w':=by grind [WI,DF,JW,Pt.LV]
end Go.Proofs.YtblomippkddgiaaGreatDoor.V
