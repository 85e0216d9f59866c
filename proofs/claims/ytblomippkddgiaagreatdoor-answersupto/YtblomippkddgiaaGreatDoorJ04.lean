import Derived.Test.YtblomippkddgiaaGreatDoorJ03
set_option maxRecDepth 100000
set_option maxHeartbeats 2000000
namespace Go.Proofs.YtblomippkddgiaaGreatDoor.V
open Go.Proofs.Tryz
open Go.RowKit
variable {s:ByteArray}{b f p:Nat}{w:World}
theorem fu(b p:Nat)(s:Ab)(w:Aa)(h:At w b s p)(j:p<=s.size)(m:s.size<=40)(hc:¬nx s p=40):
  ET 196 #[.pointer (some (Y b 0))] w λe u=>e=Ji p/\DF b w u:=by
 have g:=TA h j m rfl hc;clear hc h;go_enter func196,ntmps196;go_wp2_with fail
 refine cm g λy hk=>?_
 go_wp2;exact⟨rfl,rfl,hk⟩
theorem ZB(h:At w b s p)(T:p<s.size)(Q:s.size<=40)(O:s.size-(p+1)<f)(hc:nx s p=40)(H:Sz b s f)(D:(Pt.ty (nx s) f (p+1)).1=false):
  ET 196 #[.pointer (some (Y b 0))] w λe j=>e=Ji (Pt.ty (nx s) f (p+1)).2/\DF b w j:=by
 have B:=Np h U Q hc;have m:∀w,At w b s (p+1)->ET 128 #[.pointer (some (Y b 0))] w λe j=>e=Ji (Pt.ty (nx s) f (p+1)).2/\DF b w j:=by
  intro M u;refine(H (p+1) M u U O).mono ?_;intro e j g;unfold Ja at g;rw[D,Ao Ev]at g;exact g
 have m:=Dx m;clear hc h H D;go_enter func196,ntmps196;go_wp2_with fail
 refine cm B ?_;rintro M ⟨hk,u⟩;clear B;go_wp2_with fail
 refine cm (m _ u) λX y=>?_
 go_wp2;exact⟨rfl,rfl,hk.trans y⟩
theorem fw(h:At w b s p)(hp:p<s.size)(hs:s.size<=40)(hf:s.size-(p+1)<f)(hc:nx s p=40)(H:Sz b s f)(hA:Pt.Agree (nx s) s.size f)(hT:(Pt.ty (nx s) f (p+1)).1=true):
  ET 196 #[.pointer (some (Y b 0))] w (JW b s f p w):=by
 have ad:=h.lt;have HB:=Np h U hs hc;have⟨HA,HT,HO⟩:=Ll hA hT H;clear hc h H hT hA;have⟨i0,hi,b2,b3,b4⟩:=A1 ac1;go_enter func196,ntmps196;go_wp2_with fail
 refine cm HB ?_;rintro w1 ⟨hk,ha⟩;clear HB;go_wp2_with fail
 refine(HO (p+1) _ ha U hf).mono ?_;intro e w2 D;unfold Ja at D;rw[Dw HT,Ay rfl]at D;obtain⟨d0,d1,d2,rfl,aw,aq,az⟩:=D;have⟨_,ae,_⟩:=HA (p+1) 0 1 0 [] U hf;have⟨q1,q2⟩:=ae (Dw HT);have I:=mf hk aw aq rfl q2 U az;have I0:=Dx I;clear I ae hk aw ha aq az;go_wp2;go_loopw [3] (λv wr=>∃(j k q:Nat) (ks:List Nat) (xs:Ae),WI b f p s w j k q ks v xs wr) (λv _=>6-lenOf v)
 case atStart=>exact⟨_,_,_,_,_,I0⟩
 case round=>
  have⟨j,k,q,ks,xs,I⟩:=hrel;clear I0;have⟨g,cap,hv,bz,bS⟩:=OO I.owns I.some;subst hv;have HI:=Dx I;have bp:=I.sum;have aV:=I.some;have aa:=I.Jw;have X:=I.le;have ak:=I.fuel;clear I;by_cases h6:k=6
  ·subst h6;obtain rfl:j=0:=U;by_cases y:nx s q=41
   ·have m:=Dx y;clear y;go_wp2_with fail
    refine cm (Np aa X hs m) ?_;rintro w3 ⟨B,Q⟩;go_wp2
    go_ret
    exact T9 ad HI m B Q
   ·have m:=Dx y;clear y;go_wp2_with fail
    refine cm (TA aa X hs rfl m) λw3 B=>?_
    go_wp2;exact⟨rfl,ei HI m B⟩
  ·obtain⟨j',rfl⟩:∃j',j=j'+1:=⟨j-1,U⟩;have bU:(k:Int)<6:=U;by_cases y:nx s q=41
   ·have m:=Dx y;have HN:=Ld b q s wr aa X hs;rw[y]at HN;clear y;go_wp2_with fail
    refine cm HN ?_;rintro w3 ⟨B,Q⟩;clear HN;go_wp2_with fail
    refine cm (Np Q X hs m) ?_;rintro w4 ⟨T,ac⟩;go_wp2
    go_ret
    exact T9 ad HI m (B.trans T) ac
   ·have m:=Dx y;have HN:=Ld b q s wr aa X hs;obtain⟨c,av⟩:∃c,c=nx s q:=⟨_,rfl⟩;rw[<-av]at HN;have aS:((c:Int) != 41)=true:=Fy;clear y av;go_wp2_with fail
    refine cm HN ?_;rintro w3 ⟨B,Q⟩;clear HN;go_wp2_with fail
    refine(HO q _ Q X ak).mono ?_;intro e w4 D;unfold Ja at D;cases hTq:(Pt.ty (nx s) f q).1 with
    |false=>
     rw[hTq,Ao Ev]at D;obtain⟨rfl,T⟩:=D;have ah:=Dx hTq;clear hTq;go_wp2;exact⟨rfl,zq HI m ah (B.trans T)⟩
    |true=>
     rw[hTq,Ay rfl]at D;obtain⟨e0,e1,e2,rfl,T,ac,am⟩:=D;have ah:=Dx hTq;clear hTq;obtain⟨⟨x0,rfl⟩,⟨x1,rfl⟩,⟨ea,en,ec,rfl⟩⟩:=GN am;have O:=B.trans T;have how:=Uu HI.owns O ad;have bV:=HI.E0.size;have bq:=O.size;have⟨HR,aN,ao⟩:=Ll am ac O;have bL:=B.size;clear am ac O B T Q aa;go_wp2_with (at_builtin;refine AQ _ rfl _ _ 151 rfl w.heap.size 153 i0 (.agg #[.int .u8 0,Z 0,.slice none 0 0]) 3 40 underlying151 hi b2 b3 b4 rfl Em _ k xs rfl (how.alloc _) (EN w4 0) 1 1 [.int .u8 x0,Z x1,.slice ea en ec] rfl rfl ?c1 ?c2 ?c3 ?c4 ?c5 ?_)
     case c1=>
      intro i u hu;have⟨t0,t1,t2,_⟩:=(NZ.new w4 (.int .u8 x0) (Z x1) (.slice ea en ec)).facts;match i,hu with
      |0,hu=>simp at hu;subst hu;exact t0
      |1,hu=>simp at hu;subst hu;exact t1
      |2,hu=>simp at hu;subst hu;exact t2
     case c2=>
      intro u hu;simp at hu;rcases hu with rfl|rfl|rfl<;>rfl
     case c3=>unfold maxLen;omega
     case c4=>omega
     case c5=>simp;omega
     intro v' w5 M ab _ ar;have R:=sC ad HI ao aN ah HA m (Ke (λk' bT _=>by omega) HR) M ab (by simpa using ar);have al:lenOf v'=k+1:=by
      have⟨g',be,b1,_⟩:=OO M U;rw[b1];rfl
     have⟨R,al⟩:=FU R al;clear M ab ar how;go_wp2;go_roundw
     case rel=>exact⟨_,_,_,_,_,R⟩
     case measure=>rw[Dw al];simp only[lenOf];omega
theorem mQ(h:At w b s p)(B:p<=s.size)(u:s.size<=40)(m:p<s.size->s.size-(p+1)<f)(H:Sz b s f)(y:Pt.Agree (nx s) s.size f):
  ET 196 #[.pointer (some (Y b 0))] w λe j=>
   if nx s p=40 then (if (Pt.ty (nx s) f (p+1)).1 then JW b s f p w e j else e=Ji (Pt.ty (nx s) f (p+1)).2/\DF b w j) else e=Ji p/\DF b w j:=by
 by_cases hc:nx s p=40
 ·have g:p<s.size:=by grind [Ot]
  simp only[hc,CQ];cases hT:(Pt.ty (nx s) f (p+1)).1 with
  |false=>simpa using ZB h g u (m g) hc H hT
  |true=>simpa using fw h g u (m g) hc H y hT
 grind [fu]
theorem QW{c:Nat}(h:nx s p=c)(hc:c≠0):p<s.size:=by grind [Ot]
theorem jX(b:Nat)(s:Ab)(m:s.size<=40):∀f,Sz b s f:=by
 have hA:=λf=>Pt.agree (g:=nx s) (n:=s.size) (λp B=>Ot B) f
 intro f;induction f with
 |zero=>intro p w _ _ hf;omega
 |succ f ih=>
  intro p w h B hf;obtain⟨c,hc⟩:∃c,nx s p=c:=⟨_,rfl⟩;by_cases hl:c=98\/c=99\/c=105\/c=115
  ·have u:Pt.FI c=true:=by simp[Pt.FI];omega
   refine cm (uq h B m hc hl) ?_;rintro y ⟨hk,D⟩
   grind [Pt.ty,Ja,ZQ,Pt.EW,Gl]
  have u:Pt.FI c=false:=by simp[Pt.FI];omega
  by_cases he:c=101
  ·subst he;have j:=QW hc U;by_cases hd:48+1<=nx s (p+1)/\nx s (p+1)<=57
   ·refine cm (aeZ h j m hc hd) ?_;rintro y ⟨hk,D⟩
    grind [Pt.ty,Pt.Pe,Ja,ZQ,Pt.EW,Gl]
   ·refine cm (uv (.inl ⟨rfl,rfl⟩) h j m hc hd) λy hk=>?_
    grind [Pt.ty,Pt.Pe,Ja]
  by_cases O:c=97\/c=113
  ·obtain⟨k,hk⟩:∃k,c=97/\k=1\/c=113/\k=0:=by rcases O with h|h<;>simp[h]
   have j:=QW hc U;by_cases hd:48+k<=nx s (p+1)/\nx s (p+1)<=57
   ·have aa:=QW (s:=s) (p:=p+1) rfl U;have Q:Pt.Pe (nx s) k (p+1)=(true,p+2):=by unfold Pt.Pe;rw[Ay hd]
    exact adt hk h j m hc hd (by rcases hk with ⟨rfl,rfl⟩|⟨rfl,rfl⟩<;>simp[Pt.ty,hc,u,Q]) λy D=>ih (p+2) y D U U
   ·refine cm (uv (.inr hk) h j m hc hd) λy ae=>?_
    grind [Pt.Pe,Pt.ty,Ja]
  by_cases T:c=114\/c=117
  ·have j:=QW hc U;have M:¬c=97/\¬c=113:=U;have e1:Pt.ty (nx s) (f+1) p=(if nx s (p+1)=40 then (if (Pt.ty (nx s) f (p+2)).1 then Pt.LV (Pt.ty (nx s) f) (nx s) 5 (Pt.ty (nx s) f (p+2)).2 else (false,(Pt.ty (nx s) f (p+2)).2)) else (false,p+1)):=by
    simp[Pt.ty,hc,u,he,M,T]
   have ek:Pt.EW (nx s) f p=(p+2) :: Pt.I7 (Pt.ty (nx s) f) (nx s) 5 (Pt.ty (nx s) f (p+2)).2:=by simp[Pt.EW,hc,M,T]
   obtain⟨⟨t,q⟩,hX⟩:∃X,X=(if nx s (p+1)=40 then (if (Pt.ty (nx s) f (p+2)).1 then Pt.LV (Pt.ty (nx s) f) (nx s) 5 (Pt.ty (nx s) f (p+2)).2 else (false,(Pt.ty (nx s) f (p+2)).2)) else (false,p+1)):=⟨_,rfl⟩;rw[<-hX]at e1;refine ads T h j m hc e1 λy D=>(mQ D U m (λ_=>by omega) ih (hA f)).mono λe ah B=>?_
   unfold JW at B
   grind
  ·refine cm (zJ h B m hc U) λy hk=>?_
   grind [Pt.ty,Ja]
theorem xx{l:List Nat}{m:Nat}(h:∀x∈l,x<=m):Pt.top l<=m:=by
 induction l with
 |nil=>simp[Pt.top]
 |cons x l ih=>
  have e:=h x Ev
  grind [Pt.top]
theorem dA(g:Nat->Nat):∀f p,Pt.Lj g f p<=f:=by
 intro f;induction f with
 |zero=>intro p;simp[Pt.Lj]
 |succ f ih=>
  intro p;simp only[Pt.Lj];have:=xx (l:=(Pt.EW g f p).map (Pt.Lj g f)) (m:=f) (by intro x e;simp at e;obtain⟨a,_,rfl⟩:=e;exact ih a);omega
theorem xA(l:List Nat)(x:Nat):Pt.top (l++[x])=max (Pt.top l) x:=by
 induction l with
 |nil=>simp[Pt.top]
 |cons y l ih=>simp only[BB,Pt.top,ih];omega
theorem xB{e:List Nat}{d:Nat->Nat}{k q:Nat}(h:e[k]?=some q):Pt.top ((e.take (k+1)).map d)=max (Pt.top ((e.take k).map d)) (d q):=by grind [List.take_add_one,xA]
theorem mC(T:Nat->Bool×Nat)(g:Nat->Nat):∀j p,(Pt.I7 T g j p).length<=j:=by
 intro j;induction j with
 |zero=>intro p;simp[Pt.I7]
 |succ j ih=>grind [Pt.I7]
theorem Jj(g:Nat->Nat)(f p:Nat):(Pt.EW g f p).length<=6:=by grind [Pt.EW,mC]
def QG(g:Nat->Nat)(f:Nat):Prop:=∀(p:Nat) (S:Nat->Prop) (c0 c1 c2:Ad) (w:Aa),NP w S g f p c0 c1 c2->Calls prog 130 #[.agg #[c0,c1,c2]] w λe w'=>e=.returned (Z (Pt.Lj g f p))/\Below w.heap.size w w'
theorem dB(g:Nat->Nat)(hf:f<=41)(ih:QG g f):QG g (f+1):=by
 intro p S c0 c1 c2 w h;obtain⟨rfl,rfl,xs,ho,hi⟩:=h;obtain⟨va,vn,vc,rfl,O⟩:∃a n c,c2=.slice a n c/\n=(Pt.EW g f p).length:=by
  rcases ho.1.2 with ⟨rfl,h0⟩|⟨e,cap,ae,rfl,_⟩
  ·exact⟨_,_,_,rfl,h0.symm⟩
  ·exact⟨_,_,_,rfl,rfl⟩
 have HO:=(show Hid (Ve w S (.slice va vn vc) (Pt.EW g f p).length xs) from ho);have⟨HI,ab,HN⟩:=Ll hi ih O;have b1:vn<=6:=by rw[O];exact Jj g f p
 clear ho hi ih O;go_enter func130,ntmps130;go_wp2;go_loopw [3,9] (λgr i wr=>∃k:Nat,k<=vn/\i=Z k/\gr=Z (Pt.top (((Pt.EW g f p).take k).map (Pt.Lj g f)))/\DY w wr) (λ_ i _=>vn-(intOf i).toNat)
 case atStart=>exact⟨0,AV _,rfl,rfl,F9⟩
 case round=>
  obtain⟨k,hk,rfl,rfl,j⟩:=hrel;obtain⟨B,y⟩:∃B,B=Pt.top (((Pt.EW g f p).take k).map (Pt.Lj g f)):=⟨_,rfl⟩;have aV:B<=f:=by
   rw[y];exact xx (λx hx=>by
    obtain⟨a,_,rfl⟩:=Cy.1 hx;exact dA g f a)
  rw[<-y];have Q:=Dx y;clear y;by_cases aS:k<vn
  ·obtain⟨q,hq⟩:∃q,(Pt.EW g f p)[k]?=some q:=⟨_,Ah (by have:=Dw HN;omega)⟩;have⟨d0,d1,d2,a0,a1,a2,hr⟩:=HI k q hq;obtain⟨e,rfl,M⟩:∃e,va=some (Y e 0)/\e<w.heap.size:=by
    rcases HO.1.2 with ⟨hv,h0⟩|⟨e,cap,ae,hv,_,hh,_⟩
    ·have:=Dw HN;omega
    ·cases hv;exact⟨e,rfl,Dv hh⟩
   have m:=HO.1.cells (g:=e) rfl;have ad:∀o,((Y e 0):Addr).add o=(Y e o):=λo=>by simp[Addr.add];omega
   have f0:wr.cell? (Y e (k*3))=some d0:=by
    rw[j.cell (p:=(Y e (k*3))) M,<-ad,BZ];exact m _ _ a0
   have f1:wr.cell? (Y e (k*3+1))=some d1:=by
    rw[j.cell (p:=(Y e (k*3+1))) M,<-ad,BZ];exact m _ _ a1
   have f2:wr.cell? (Y e (k*3+2))=some d2:=by
    rw[j.cell (p:=(Y e (k*3+2))) M,<-ad,BZ];exact m _ _ a2
   obtain⟨⟨x0,rfl⟩,⟨x1,rfl⟩,⟨ea,en,ec,rfl⟩⟩:=GN hr;have X:∀o,NP (wr.alloc o) S g f q (.int .u8 x0) (Z x1) (.slice ea en ec):=λo=>GM ((show Hq S w wr from ⟨j.size,λk' _ hl=>j.block k' hl⟩).alloc o) hr
   have⟨HR,HQ⟩:=FU X hq;clear hq hr X a0 a1 a2 m ad;go_wp2_with fail
   refine cm (ab q S _ _ _ _ (Dw HR _)) λw2 T=>?_
   obtain⟨D,u⟩:∃D,D=Pt.Lj g f q:=⟨_,rfl⟩;have aN:D<=f:=by rw[u];exact dA g f q
   rw[<-u];have aa:=Dx u;have ah:=(j.alloc j.size _).trans (T.mono (by have:=j.size;simp;omega));clear u T j f0 f1 f2;go_wp2;go_roundw
   case rel=>
    refine⟨k+1,U,Kc,?_,ah⟩;rw[xB (Dw HQ),<-Dw Q,<-Dw aa];by_cases hx:B<D
    ·rw[Ay hx,show max B D=D by omega]
    ·rw[Ao hx,show max B D=B by omega]
   case measure=>exact Kt
  ·go_wp2
   go_ret
   refine⟨?_,j⟩;have e1:Pt.Lj g (f+1) p=B+1:=by
    rw[Dw Q,A7 (by have:=Dw HN;omega)];rfl
   rw[e1];rfl
theorem lJ(g:Nat->Nat):∀f,f<=42->QG g f:=by
 intro f;induction f with
 |zero=>intro _ p S c0 c1 c2 w h;exact h.elim
 |succ f ih=>intro e;exact dB g U (ih U)
end Go.Proofs.YtblomippkddgiaaGreatDoor.V
namespace Go.Proofs.YtblomippkddgiaaGreatDoor.V.Pt
open Go.Proofs.Tryz
variable {S:List (Nat×Nat×Nat)}{f n p:Nat}{g:Nat→Nat}
def bh(g:Nat->Nat):Nat->List (Nat×Nat×Nat)->Nat->Nat
 |0,_,p=>p
 |m+1,S,p=>match FW S (g p) with
  |none=>p
  |some S'=>bh g m S' (p+1)
def Lb(g:Nat->Nat)(n:Nat)(S:List (Nat×Nat×Nat))(r:Bool×Nat):Nat:=if r.1 then bh g (n-r.2) S r.2 else r.2
theorem KD{S':List (Nat×Nat×Nat)}(j:p<n)(h:FW S (g p)=some S'):bh g (n-p) S p=bh g (n-(p+1)) S' (p+1):=by
 obtain⟨m,e⟩:∃m,n-p=m+1:=⟨n-p-1,U⟩
 grind [bh]
theorem Ls(j:p<n)(h:FW S (g p)=none):bh g (n-p) S p=p:=by
 obtain⟨m,e⟩:∃m,n-p=m+1:=⟨n-p-1,U⟩;rw[e,bh,h]
theorem N6:bh g (n-n) S n=n:=by
 rw[CZ,bh]
theorem qN:bh g (n-p) [] p=p:=by
 cases h:n-p with
 |zero=>rfl
 |succ m=>rfl
theorem WN{h e:Nat}(j:∀p,n<=p->g p=0)(u:p<=n)(m:(h=2/\e=1)\/(h=3/\e=0)):
  bh g (n-p) ((h,0,0) :: S) p=Lb g n S (Pe g e p):=by
 by_cases hn:p=n
 ·subst hn
  grind [Pe,N6,Lb]
 grind [Pe,FW,KD,Lb,Ls]
theorem SK{k L:Nat}(m:p<=n)(h:k=0\/(g p≠41/\k≠6)):
  bh g (n-p) ((5,k,L) :: S) p=bh g (n-p) ((1,0,L) :: (5,k+1,L) :: S) p:=by
 by_cases hn:p=n
 ·subst hn;rw[N6,N6]
 ·have e:p<n:=U;have j:=VS (S:=S) (L:=L) h;cases hx:FW ((5,k,L) :: S) (g p) with
  |none=>rw[Ls e hx,Ls e (j ▸ hx)]
  |some S'=>rw[KD e hx,KD e (j ▸ hx)]
def bF(g:Nat->Nat)(n f:Nat):Prop:=∀(p k L:Nat) (S:List (Nat×Nat×Nat)),p<=n->n-p<f->bh g (n-p) ((1,k,L) :: S) p=Lb g n S (ty g f p)
theorem QV(B:∀p,n<=p->g p=0)(m:Agree g n f)(u:bF g n f):∀(j p k L:Nat) (S:List (Nat×Nat×Nat)),k+j=6->1<=k->p<=n->n-p<f ->
  bh g (n-p) ((5,k,L) :: S) p=Lb g n S (LV (ty g f) g j p):=by
 have close:∀(p k L:Nat) (S:List (Nat×Nat×Nat)),1<=k->p<=n->g p=41->bh g (n-p) ((5,k,L) :: S) p=Lb g n S (true,p+1):=by grind [FW,KD,Lb]
 intro j;induction j with
 |zero=>grind [LV,N6,Lb,Ls,FW]
 |succ j ih=>
  intro p k L S hk w e h;by_cases hc:g p=41
  ·grind [LV]
  ·rw[SK e (Am ⟨hc,U⟩),u p 0 L ((5,k+1,L) :: S) e h];have⟨_,y,_⟩:=m p 0 L 0 [] e h
   grind [LV,Lb]
theorem acN(y:∀p,n<=p->g p=0):∀f,bF g n f:=by
 intro f;induction f with
 |zero=>intro p k L S hp hf;omega
 |succ f ih=>
  intro p k L S hp hf;by_cases hn:p=n
  ·subst hn;have X:=y p (Ar _);have e:ty g (f+1) p=(false,p):=by simp[ty,X,FI]
   rw[e,N6];simp[Lb]
  have u:p<n:=U;cases hl:FI (g p) with
  |true=>grind [ty,Lb,IU,EX,KD,Pe,WN,Qt,LV,Nat.lt_or_ge,SK,agree,QV,Ls]
  |false=>
  by_cases O:g p=101
  ·have e:ty g (f+1) p=Pe g 1 (p+1):=by simp[ty,O,FI]
   have m:FW ((1,k,L) :: S) (g p)=some ((2,0,0) :: S):=by rw[IU];simp[EX,O,FI]
   rw[e,KD u m,WN y (show p+1<=n by omega) (Aj ⟨rfl,rfl⟩)]
  by_cases ha:g p=97\/g p=113
  ·obtain⟨h,j,T,m,w⟩:∃h j,((h=2/\j=1)\/(h=3/\j=0))/\FW ((1,k,L) :: S) (g p)=some ((h,0,0) :: (1,0,L+1) :: S)/\ty g (f+1) p=(if (Pe g j (p+1)).1 then ty g f (p+2) else (false,p+1)):=by
    exact afJ
   have⟨_,d2,d3⟩:=Qt (S:=S) (D:=0) y (show p+1<=n by omega) T;rw[KD u m,WN y (show p+1<=n by omega) T,w]
   grind [bF,ty,FI,N6,Lb,FW,IU,EX,KD,Pe,WN,Qt,LV,Nat.lt_or_ge,SK,agree,QV,Ls]
  by_cases hr:g p=114\/g p=117
  ·have n1:¬g p=97:=U;have n2:¬g p=113:=U;have m:FW ((1,k,L) :: S) (g p)=some ((4,0,0) :: (5,0,L+1) :: S):=by grind [IU,EX]
   have w:ty g (f+1) p=(if g (p+1)=40 then (if (ty g f (p+2)).1 then LV (ty g f) g 5 (ty g f (p+2)).2 else (false,(ty g f (p+2)).2)) else (false,p+1)):=by
    simp[ty,hl,O,n1,n2,hr]
   rw[KD u m,w];by_cases M:g (p+1)=40
   ·have B:p+1<n:=by grind
    rw[Ay M,KD B (show FW ((4,0,0) :: (5,0,L+1) :: S) (g (p+1))=some ((5,0,L+1) :: S) by simp[FW,M]),show p+1+1=p+2 from rfl,SK U (Aj rfl),ih (p+2) 0 (L+1) _ U U];have⟨_,ib,_⟩:=agree y f (p+2) 0 1 0 [] U U
    grind [ty,Lb,QV,agree]
   ·rw[Ao M];by_cases Q:p+1=n
    ·rw[Q,N6];simp[Lb]
    grind [Ls,FW,Lb]
  grind [ty,FW,IU,EX,Ls,Lb]
theorem kU(h:∀p,n<=p->g p=0)(j:p<=n)(e:n-p<f):bh g (n-p) [(1,0,1)] p=(ty g f p).2:=by
 rw[acN h f p 0 1 [] j e];unfold Lb;split
 ·exact qN
 ·rfl
def chain(T:Nat->Bool×Nat)(g:Nat->Nat):Nat->List Nat->Nat->Prop
 |start,[],c=>start=c/\g c=41
 |start,k :: r,c=>start=k/\g k≠41/\(T k).1=true/\chain T g (T k).2 r c
theorem Yv{T:Nat->Bool×Nat}:∀(j p:Nat),(LV T g j p).1=true->chain T g p (I7 T g j p) ((LV T g j p).2-1)/\1<=(LV T g j p).2:=by
 intro j;induction j with
 |zero=>grind [LV,I7,chain]
 |succ j ih=>grind [LV,I7,chain]
end Go.Proofs.YtblomippkddgiaaGreatDoor.V.Pt
namespace Go.Proofs.YtblomippkddgiaaGreatDoor.V
open Go.Proofs.Tryz
open Go.RowKit
variable {s:ByteArray}{qs:List Nat}{f p:Nat}{w:World}
theorem TQ(s:Ab)(p:Nat)(w:Aa)(e:p<s.size)(hd:48<=nx s p):
  D7 260 #[.string s,Z p] w (Z ((nx s p:Int)-48)) λg=>g=w:=by
 have h:=jU s p;rw[Gd e]at *;go_enter func260,ntmps260;go_wp2
 go_ret
 exact⟨rfl,rfl⟩
structure BInv(s:Ab)(w:Aa)(Kw p:Nat)(S:List Want)(v:Ad)(wr:Aa):Prop where
 le:p<=s.size
 stk:SG wr w.heap.size v S
 len:S.length<=2*p+1
 all:∀x∈S,okW (p+1) x
 DG:Below w.heap.size w wr
 run:Pt.bh (nx s) (s.size-p) S p=Kw
theorem cH(s:Ab)(w:Aa)(p:Nat)(e:p<=s.size):BInv s w (Pt.bh (nx s) (s.size-p) [(1,0,1)] p) p [(1,0,1)] (EJ w.heap.size 1 1) (w.alloc (.cells #[Z 1,Z 0,Z 1] 293)):=by
 refine⟨e,XV w _ rfl (Ar _) rfl (by simp[GV,wc]) U,Ev,?_,F9,rfl⟩;intro x g
 grind [okW]
theorem kW{wr h:Aa}{Kw:Nat}{S S':List Want}{v u:Ad}(I:BInv s w Kw p S v wr)(m:p<s.size)(j:Pt.FW S (nx s p)=some S')(g:DY wr h)(B:SG h wr.heap.size u S'):
  BInv s w Kw (p+1) S' u h:=by
 have⟨D,y⟩:=T7 I.all j;have e:=I.DG.size;have hl:=I.len;refine⟨m,NA B e,U,y,I.DG.trans (g.mono e),?_⟩;rw[<-Pt.KD m j];exact I.run
theorem kT(s:Ab)(p:Nat)(w:Aa)(hp:p<=s.size)(hs:s.size<=40):
  D7 261 #[.string s,Z p] w (Z (Pt.bh (nx s) (s.size-p) [(1,0,1)] p)) λO=>DY w O:=by
 have I0:=Dx (cH s w p hp);generalize Pt.bh (nx s) (s.size-p) [(1,0,1)] p=Kw at *;go_enter func261,ntmps261;go_wp2;go_loopw [1,5] (λi v wr=>∃(p:Nat) (S:List Want),i=Z p/\BInv s w Kw p S v wr) (λi _ _=>s.size-(intOf i).toNat)
 case atStart=>exact⟨p,_,rfl,I0⟩
 case round=>
  obtain⟨p,S,rfl,I⟩:=hrel;clear I0 hp;have ak:=I.le;have y:=I.len;have D:=I.DG;have m:∀x∈S,1<=x.1/\x.1<=5/\x.2.1<=6/\x.2.2<=1000:=λx hx=>by
   have:=I.all x hx;unfold okW at this;omega
  have HI:=Dx I;have j:=I.stk;have g:=I.run;clear I;match S,HI,j,y,m,g with
  |[],HI,j,y,m,g=>
   obtain⟨a,cap,rfl⟩:∃a cap,u5=.slice a 0 cap:=by
    have⟨_,h⟩:=j;exact wD
   obtain rfl:p=Kw:=by rw[<-g,Pt.qN]
   clear j g y m;go_wp2
   go_ret
   exact⟨rfl,D⟩
  |x :: R,HI,j,y,m,g=>
   obtain⟨gb,cap,rfl,aa,ah,_,f0,f1,f2⟩:=Qx j;clear f0 f1 f2;simp only[A4]at y;by_cases T:p<s.size
   ·have hc:=Gd T;have HC:=Dx hc;have X:=Dx (YZ (x :: R) _ (s[p]).toNat wr (NA j (AV _)) Fy m);have u:=Dx g;clear hc j m g;cases hg:Pt.FW (x :: R) (s[p]).toNat with
    |none=>
     obtain rfl:p=Kw:=by rw[<-Dw u,Pt.Ls T (by rw[Dw HC];exact hg)]
     have Q:Hid (ET 205 #[EJ gb (R.length+1) cap,.int .u8 (s[p]).toNat] wr λe O=>∃v,e=.returned (.tuple #[v,.bool false])/\DY wr O):=by
      refine X.mono ?_;rintro e O ⟨v',rfl,hb,_⟩;rw[hg];exact⟨v',rfl,hb⟩
     clear X hg u;go_wp2_with fail
     refine Q.mono ?_;rintro e w2 ⟨v2,rfl,B⟩;go_wp2
     go_ret
     exact⟨rfl,D.trans (B.mono D.size)⟩
    |some S'=>
     have Q:Hid (ET 205 #[EJ gb (R.length+1) cap,.int .u8 (s[p]).toNat] wr λe O=>∃v,e=.returned (.tuple #[v,.bool true])/\DY wr O/\SG O wr.heap.size v S'):=by
      refine X.mono ?_;rintro e O ⟨v',rfl,hb,j⟩;rw[hg];exact⟨v',rfl,hb,j S' hg⟩
     have HS:Hid (Pt.FW (x :: R) (nx s p)=some S'):=by rw[Dw HC];exact hg
     clear X hg u;go_wp2_with fail
     refine Q.mono ?_;rintro e w2 ⟨v2,rfl,B,M⟩;have J:=Dx (kW HI T HS B M);clear B M;go_wp2;go_roundw
     case rel=>exact⟨p+1,_,Kc,J⟩
     case measure=>exact Kt
   ·obtain rfl:p=s.size:=U;obtain rfl:s.size=Kw:=by rw[<-g,Pt.N6]
    clear j g m;go_wp2
    go_ret
    exact⟨rfl,D⟩
theorem cF(s:Ab)(f p:Nat)(w:Aa)(e:p<=s.size)(g:s.size<=40)(m:s.size-p<f):
  D7 261 #[.string s,Z p] w (Z (Pt.ty (nx s) f p).2) λj=>DY w j:=by
 have h:=kT s p w e g
 grind [Pt.kU,Ot]
def Gj(ks:List Nat)(k:Int):Nat:=if 0<=k then (ks[k.toNat]?).getD ks.length else ks.length
structure N4(s:Ab)(f p:Nat):Prop where
 le:p<=s.size
 fuel:s.size-p<f
 ok:(Pt.ty (nx s) f p).1=true
theorem N4.ends(h:N4 s f p):p<(Pt.ty (nx s) f p).2/\(Pt.ty (nx s) f p).2<=s.size:=by
 have⟨_,e,_⟩:=Pt.agree (g:=nx s) (n:=s.size) (λp j=>Ot j) f p 0 1 0 [] h.le h.fuel;exact e h.ok
theorem N4.lt(h:N4 s f p):p<s.size:=by
 have:=h.ends;omega
theorem qW:∀(g:List Nat) (e c:Nat),Pt.chain (Pt.ty (nx s) f) (nx s) e g c->e<=s.size->s.size-e<f->∀k∈g,e<=k/\N4 s f k:=by
 intro g;induction g with
 |nil=>intro e c _ _ _ k hk;cases hk
 |cons a g ih=>grind [Pt.chain,N4,V.N4.ends]
structure WH(s:Ab)(f p:Nat):Prop where
 here:nx s p=114\/nx s p=117
 ok:N4 s (f+1) p
theorem WH.chain(h:WH s f p):p+2<=s.size/\s.size-(p+2)<f/\∃c,Pt.chain (Pt.ty (nx s) f) (nx s) (p+2) (Pt.EW (nx s) f p) c:=by
 have O:=h.ok.lt;have D:=h.ok.fuel;have n1:¬nx s p=97:=by have:=h.here;omega
 have n2:¬nx s p=113:=by have:=h.here;omega
 have n3:¬nx s p=101:=by have:=h.here;omega
 have n4:Pt.FI (nx s p)=false:=Pt.mj (by have:=h.here;omega);have e:=h.ok.ok;have u:Pt.ty (nx s) (f+1) p=(if nx s (p+1)=40 then (if (Pt.ty (nx s) f (p+2)).1 then Pt.LV (Pt.ty (nx s) f) (nx s) 5 (Pt.ty (nx s) f (p+2)).2 else (false,(Pt.ty (nx s) f (p+2)).2)) else (false,p+1)):=by grind [Pt.ty]
 rw[u]at e;have j:Pt.EW (nx s) f p=(p+2) :: Pt.I7 (Pt.ty (nx s) f) (nx s) 5 (Pt.ty (nx s) f (p+2)).2:=by simp[Pt.EW,n1,n2,h.here]
 by_cases g:nx s (p+1)=40
 ·have y:=QW g U;rw[Ay g]at e;cases hx:(Pt.ty (nx s) f (p+2)).1 with
  |false=>rw[hx]at e;simp at e
  |true=>
   rw[hx,Ay rfl]at e;have m:N4 s f (p+2):=⟨U,U,hx⟩;have M:=m.lt;refine⟨U,U,(Pt.LV (Pt.ty (nx s) f) (nx s) 5 (Pt.ty (nx s) f (p+2)).2).2-1,?_⟩;rw[j];refine⟨rfl,?_,hx,(Pt.Yv 5 _ e).1⟩;intro B;cases f with
   |zero=>omega
   |succ f=>grind [Pt.ty,Pt.FI]
 grind
theorem M7(s:Ab)(f p:Nat)(k:Int)(w:Aa)(h:WH s f p)(hs:s.size<=40)(az:-1<=k)(aN:k<=1000):
  D7 244 #[.string s,Z p,Z k] w (Z (Gj (Pt.EW (nx s) f p) k)) λw'=>DY w w':=by
 have⟨ah,ac,c,X⟩:=h.chain;have aS:=Jj (nx s) f p;generalize Pt.EW (nx s) f p=ks at *;have⟨D,M⟩:=FU X ac;clear X h ac;go_enter func244,ntmps244;go_wp2;go_loopw [1,7] (λa n wr=>∃(j g:Nat) (rest:List Nat),a=Z g/\n=Z j/\g<=s.size/\s.size-g<f/\j+rest.length=ks.length/\Hid (ks.drop j=rest/\Pt.chain (Pt.ty (nx s) f) (nx s) g rest c)/\¬(0<=k/\k<j)/\DY w wr) (λ_ n _=>7-(intOf n).toNat)
 case atStart=>exact⟨0,p+2,ks,Kc,rfl,ah,M,U,⟨rfl,D⟩,U,AA _ _⟩
 case round=>
  obtain⟨j,g,rest,rfl,rfl,ae,ad,m,B,aV,Q⟩:=hrel;clear D M ah;match rest,m,B with
  |[],m,B=>
   obtain⟨rfl,hc⟩:=B.2;have y:=QW hc U;have aq:((((s[g]).toNat:Nat):Int) != 41)=false:=by rw[<-Gd y,hc];rfl
   simp only[List.length_nil,Cz]at m;go_wp2
   go_ret
   have e:Gj ks k=j:=by
    unfold Gj;split
    ·rw[BM U];simpa using m.symm
    ·exact m.symm
   exact⟨by rw[e];rfl,Q⟩
  |q :: r,m,B=>
   obtain⟨hd,rfl,al,hT,hr⟩:=Dw B;have ho:N4 s f g:=⟨ae,ad,hT⟩;have y:=ho.lt;have an:=ho.ends;have aq:((((s[g]).toNat:Nat):Int) != 41)=true:=by rw[<-Gd y];simp;omega
   simp only[A4]at m;have hj:j<ks.length:=U;have aa:ks[j]?=some g:=by
    have h1:(ks.drop j)[0]?=some g:=by rw[hd];rfl
    rw[Cn]at h1;simpa using h1
   have ab:ks.drop (j+1)=r:=by
    rw[<-CF,hd];rfl
   have⟨HX,ak⟩:=FU (And.intro ab hr) aa;clear B hd hr hT al ab aa;by_cases u:(j:Int)=k
   ·have ao:((j:Int)==k)=true:=by simpa using u
    have O:=Dx u;clear u;go_wp2
    go_ret
    have e:Gj ks k=g:=by
     unfold Gj;rw[Ay (by have:=Dw O;omega),show k.toNat=j by have:=Dw O;omega,Dw ak];rfl
    exact⟨by rw[e];rfl,Q⟩
   ·have ao:((j:Int)==k)=false:=by simpa using u
    have HB:=Dx (λw=>cF s f g w ae hs ad);obtain⟨q,hq⟩:∃q,q=(Pt.ty (nx s) f g).2:=⟨_,rfl⟩;rw[<-hq]at HB an HX;clear hq;go_wp2_with fail
    refine cm (HB _) λw2 T=>?_
    have am:=Q.trans (T.mono Q.size);clear T Q;go_wp2;go_roundw
    case rel=>exact⟨j+1,q,r,rfl,Kc,U,U,U,HX,U,am⟩
    case measure=>exact Kt
theorem J2(h:N4 s (f+1) p):
  (nx s p=98\/nx s p=99\/nx s p=105\/nx s p=115)\/(nx s p=101/\p+1<s.size/\49<=nx s (p+1)/\nx s (p+1)<=57) \/
  (nx s p=97/\p+1<s.size/\49<=nx s (p+1)/\nx s (p+1)<=57/\N4 s f (p+2))\/(nx s p=113/\p+1<s.size/\48<=nx s (p+1)/\nx s (p+1)<=57/\N4 s f (p+2))\/WH s f p:=by
 have j:=h.lt;have e:=h.fuel;have m:=h.ok;by_cases hl:nx s p=98\/nx s p=99\/nx s p=105\/nx s p=115
 ·exact Aj hl
 have g:Pt.FI (nx s p)=false:=by simp[Pt.FI];omega
 by_cases y:nx s p=101
 ·all_goals grind [Pt.ty,nx,Pt.Pe]
 by_cases u:nx s p=97;all_goals grind [N4,nx,WH,Pt.ty,Pt.Pe]
theorem JQ(h:WH s f p):∀q∈Pt.EW (nx s) f p,p<q/\N4 s f q:=by
 have⟨e,g,c,hc⟩:=h.chain;intro q j;have:=qW _ _ _ hc e g q j;exact⟨U,this.2⟩
theorem G0{c:Nat}(e:p<s.size)(h:nx s p=c):((s[p]).toNat:Int)=(c:Int):=by rw[<-Gd e,h]
def FZ(c:Nat):Int:=if c=105 then -32768 else 0
def FD(g:Nat->Nat)(f p:Nat):Int:=
 if g p=98 then 1 else if g p=99 then 65535 else if g p=105 then 32767 else if g p=101 then (g (p+1):Int)-48-1 else if g p=113 then (g (p+1):Int)-48 else ((Pt.EW g f p).length:Int)-1
theorem Xl(s:Ab)(p:Nat)(w:Aa)(h:p+1<s.size)(e:nx s p=97)(hd:48<=nx s (p+1))(u:s.size<=40):
  D7 241 #[.string s,Z p] w (Z ((nx s (p+1):Int)-48)) λj=>DY w j:=by
 have g:=Dx (λw=>TQ s (p+1) w h hd);have m:((((s[p]).toNat:Nat):Int)==97)=true:=by rw[G0 U e];rfl
 clear hd e;go_enter func241,ntmps241;go_wp2_with fail
 refine cs (g _) ?_;go_wp2
 go_ret
 exact⟨rfl,AA _ _⟩
theorem Xm(s:Ab)(f p:Nat)(w:Aa)(h:WH s f p)(g:s.size<=40):
  D7 241 #[.string s,Z p] w (Z ((Pt.EW (nx s) f p).length:Int)) λj=>DY w j:=by
 have e:=h.ok.lt;have HD:=Dx (λw=>M7 s f p (-1) w h g U U);have m:((((s[p]).toNat:Nat):Int)==97)=false:=by rw[<-Gd e];have:=h.here;simp;omega
 rw[show Gj (Pt.EW (nx s) f p) (-1)=(Pt.EW (nx s) f p).length from rfl]at HD;clear h;go_enter func241,ntmps241;exact acA
theorem U5(s:Ab)(p k:Nat)(w:Aa)(j:p<s.size)(e:nx s p=97)(m:s.size<=40):
  D7 242 #[.string s,Z p,Z k] w (Z ((p:Int)+2)) λg=>DY w g:=by
 have h:((((s[p]).toNat:Nat):Int)==97)=true:=by rw[G0 U e];rfl
 clear e;go_enter func242,ntmps242;go_wp2
 go_ret
 exact⟨rfl,AA _ _⟩
theorem aX(s:Ab)(f p k:Nat)(w:Aa)(h:WH s f p)(g:s.size<=40)(hk:k<=100):
  D7 242 #[.string s,Z p,Z k] w (Z (Gj (Pt.EW (nx s) f p) k)) λj=>DY w j:=by
 have e:=h.ok.lt;have HD:=Dx (λw=>M7 s f p k w h g U U);have m:((((s[p]).toNat:Nat):Int)==97)=false:=by rw[<-Gd e];have:=h.here;simp;omega
 clear h;go_enter func242,ntmps242;exact acA
theorem zB(s:Ab)(f p:Nat)(w:Aa)(hp:p<s.size)(hc:nx s p=98):
  D7 243 #[.string s,Z p] w (.tuple #[Z (FZ (nx s p)),Z (FD (nx s) f p)]) λe=>DY w e:=by
 have e1:FZ (nx s p)=0:=by rw[hc];rfl
 have e2:FD (nx s) f p=1:=by simp[FD,hc]
 exact adW
theorem zC(s:Ab)(f p:Nat)(w:Aa)(hp:p<s.size)(hc:nx s p=99):
  D7 243 #[.string s,Z p] w (.tuple #[Z (FZ (nx s p)),Z (FD (nx s) f p)]) λe=>DY w e:=by
 have e1:FZ (nx s p)=0:=by rw[hc];rfl
 have e2:FD (nx s) f p=65535:=by simp[FD,hc]
 exact adW
theorem tK(s:Ab)(f p:Nat)(w:Aa)(hp:p<s.size)(hc:nx s p=105):
  D7 243 #[.string s,Z p] w (.tuple #[Z (FZ (nx s p)),Z (FD (nx s) f p)]) λe=>DY w e:=by
 have e1:FZ (nx s p)=-32768:=by rw[hc];rfl
 have e2:FD (nx s) f p=32767:=by simp[FD,hc]
 exact adW
theorem tJ(s:Ab)(f p:Nat)(w:Aa)(e:p+1<s.size)(h:s.size<=40)(hc:nx s p=101)(hd:48<=nx s (p+1)):
  D7 243 #[.string s,Z p] w (.tuple #[Z (FZ (nx s p)),Z (FD (nx s) f p)]) λg=>DY w g:=by
 have HD:=Dx (λw=>TQ s (p+1) w e hd);have j:=jU s (p+1);have e1:FZ (nx s p)=0:=by rw[hc];rfl
 have e2:FD (nx s) f p=(nx s (p+1):Int)-48-1:=by simp[FD,hc]
 exact abt
theorem tL(s:Ab)(f p:Nat)(w:Aa)(e:p+1<s.size)(h:s.size<=40)(hc:nx s p=113)(hd:48<=nx s (p+1)):
  D7 243 #[.string s,Z p] w (.tuple #[Z (FZ (nx s p)),Z (FD (nx s) f p)]) λg=>DY w g:=by
 have HD:=Dx (λw=>TQ s (p+1) w e hd);have j:=jU s (p+1);have e1:FZ (nx s p)=0:=by rw[hc];rfl
 have e2:FD (nx s) f p=(nx s (p+1):Int)-48:=by simp[FD,hc]
 exact abt
theorem adi(s:Ab)(f p:Nat)(w:Aa)(h:WH s f p)(j:s.size<=40)(hc:nx s p=117):
  D7 243 #[.string s,Z p] w (.tuple #[Z (FZ (nx s p)),Z (FD (nx s) f p)]) λm=>DY w m:=by
 have y:=h.ok.lt;have g:=Dx (λw=>M7 s f p (-1) w h j U U);rw[show Gj (Pt.EW (nx s) f p) (-1)=(Pt.EW (nx s) f p).length from rfl]at g;have e1:FZ (nx s p)=0:=by rw[hc];rfl
 have e2:FD (nx s) f p=((Pt.EW (nx s) f p).length:Int)-1:=by simp[FD,hc]
 have B:=Jj (nx s) f p;rw[e1,e2];have u:=G0 U hc;generalize (Pt.EW (nx s) f p).length=d at *;clear h;go_enter func243,ntmps243;go_wp2_with fail
 refine cm (g _) λD e=>?_
 go_wp2
 go_ret2
 exact⟨rfl,e⟩
abbrev It:=Int×ByteArray
abbrev GB:=Option (List Bool×List It)
def EO(g:Nat->Nat)(f p:Nat)(v:List It):Option (List Bool×List Nat×List It):=
 if g p=97 then some ([],List.replicate (g (p+1)-48) (p+2),v)
 else if g p=114 then some ([],Pt.EW g f p,v)
 else match v with
  |[]=>none
  |x :: r=>
   if g p=115 then (if x.1=0/\x.2.size<=14 then some ([true],[],r) else none)
   else if x.2.size=0/\FZ (g p)<=x.1/\x.1<=FD g f p then
    some ([false],(if g p=117 then [Gj (Pt.EW g f p) x.1] else if g p=113 then List.replicate x.1.toNat (p+2) else []),r)
   else none
def Gu(k0:List Bool):GB->GB
 |none=>none
 |some (k,r)=>some (k0++k,r)
def E6(E:Nat->List It->GB):List Nat->List It->GB
 |[],v=>some ([],v)
 |q :: qs,v=>match E q v with
  |none=>none
  |some (k,r)=>Gu k (E6 E qs r)
def Hg(g:Nat->Nat):Nat->Nat->List It->GB
 |0,_,_=>none
 |f+1,p,v=>match EO g f p v with
  |none=>none
  |some (k0,qs,r)=>Gu k0 (E6 (Hg g f) qs r)
theorem KU(e:GB):Gu [] e=e:=by
 cases e with
 |none=>rfl
 |some e=>rfl
theorem OU(E:Nat->List It->GB):∀(qs:List Nat) (q:Nat) (v:List It),E6 E (qs++[q]) v=match E6 E qs v with
  |none=>none
  |some (k,r)=>Gu k (E q r):=by
 intro qs;induction qs with
 |nil=>grind [E6,Gu]
 |cons a qs ih=>
  intro q v;simp only[BB,E6];cases E a v with
  |none=>rfl
  |some e=>
   have⟨k,r⟩:=e;simp only[ih];cases E6 E qs r with
   |none=>rfl
   |some e'=>
    have⟨h,g⟩:=e';simp only[Gu];cases E q g with
    |none=>rfl
    |some e''=>simp
theorem Re(E:Nat->List It->GB){v:List It}{k:Nat}(h:E6 E (qs.take k) v=none):E6 E qs v=none:=by
 revert v k
 induction qs with
 |nil=>intro v k h;simp[E6]at h
 |cons a qs ih=>
  intro v k h;cases k with
  |zero=>simp[E6]at h
  |succ k=>
   simp only[List.take_succ_cons,E6]at h ⊢;cases hE:E a v with
   |none=>rfl
   |some e=>
    have⟨g,r⟩:=e;rw[hE]at h;simp only at h ⊢;cases hs:E6 E (qs.take k) r with
    |none=>rw[ih hs];rfl
    |some e'=>rw[hs]at h;simp[Gu]at h
def Mk(E:List It->GB):Prop:=∀v ks r,E v=some (ks,r)->r=v.drop ks.length/\ks.length<=v.length
theorem Mc{E:Nat->List It->GB}:∀qs:List Nat,(∀q∈qs,Mk (E q))->Mk (E6 E qs):=by
 intro qs;induction qs with
 |nil=>intro _ v m r h;simp[E6]at h;obtain⟨rfl,rfl⟩:=h;simp
 |cons a qs ih=>
  intro j v m r h;simp only[E6]at h;cases ha:E a v with
  |none=>rw[ha]at h;cases h
  |some e=>
   have⟨k,g⟩:=e;rw[ha]at h;simp only at h;have⟨u,y⟩:=j a Ev v k g ha;cases hs:E6 E qs g with
   |none=>rw[hs]at h;cases h
   |some e'=>grind [Mk,Gu,List.drop_drop]
theorem Qe{g:Nat->Nat}{v:List It}{k0:List Bool}{r:List It}(h:EO g f p v=some (k0,qs,r)):r=v.drop k0.length/\k0.length<=v.length:=by
 unfold EO at h
 grind
theorem Hs(g:Nat->Nat):∀f p,Mk (Hg g f p):=by
 intro f;induction f with
 |zero=>intro p v D r h;cases h
 |succ f ih=>
  intro p v D r h;simp only[Hg]at h;cases hh:EO g f p v with
  |none=>rw[hh]at h;cases h
  |some e=>
   have⟨k0,qs,j⟩:=e;rw[hh]at h;simp only at h;have⟨m,O⟩:=Qe hh;cases hs:E6 (Hg g f) qs j with
   |none=>rw[hs]at h;cases h
   |some e'=>
    have⟨B,M⟩:=e';rw[hs]at h;simp only[Gu,Option.some.injEq,Prod.mk.injEq]at h;obtain⟨rfl,rfl⟩:=h;have⟨u,y⟩:=Mc qs (λq _=>ih q) j B M hs;subst m;rw[A9]at y;refine⟨?_,Fy⟩;rw[u,CF,AJ]
def Ff(w:Aa)(V:Ad)(v:List It):Prop:=∃a cap,V=.slice a v.length cap/\v.length<=cap/\(v=[]\/∃b off,a=some (Y b off)/\b<w.heap.size/\∀j x,v[j]?=some x->w.cell? (Y b (off+j*2))=some (Z x.1)/\w.cell? (Y b (off+j*2+1))=some (.string x.2))
theorem Ff.DG{w':Aa}{V:Ad}{v:List It}(h:Ff w V v)(e:DY w w'):Ff w' V v:=by
 have⟨a,cap,u,hc,h⟩:=h;refine⟨a,cap,u,hc,?_⟩;rcases h with h|⟨b,off,y,hl,D⟩
 ·exact Aj h
 ·refine Am ⟨b,off,y,Ai hl e.size,λj x B=>?_⟩;have⟨g,m⟩:=D j x B;exact⟨(e.cell (p:=Y b _) hl).trans g,(e.cell (p:=Y b _) hl).trans m⟩
theorem Ff.at{V:Ad}{v:List It}(h:Ff w V v){i:Nat}{x:It}(hi:v[i]?=some x):∃b off cap,V=.slice (some (Y b off)) v.length cap/\b<w.heap.size/\EB w b (off+i*2) (Z x.1)/\EB w b (off+i*2+1) (.string x.2):=by grind [Ff]
def vI(i:Nat):GB->Int
 |none=>-1
 |some (ks,_)=>(i:Int)+(ks.length:Int)
def VC(s:Ab)(V:Ad)(v:List It)(f:Nat):Prop:=∀(p i:Nat) (w:Aa),N4 s f p->i<=v.length->Ff w V v ->
 Calls prog 239 #[.string s,Z p,V,Z i] w λe w'=>e=.returned (Z (vI i (Hg (nx s) f p (v.drop i))))/\Below w.heap.size w w'
end Go.Proofs.YtblomippkddgiaaGreatDoor.V
