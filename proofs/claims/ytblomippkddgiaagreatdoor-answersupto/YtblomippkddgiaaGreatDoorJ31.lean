import Derived.Test.YtblomippkddgiaaGreatDoorJ30
import Derived.Test.YtblomippkddgiaaGreatDoorJ23
set_option maxRecDepth 100000
set_option maxHeartbeats 2000000
namespace Go.Proofs.YtblomippkddgiaaGreatDoor
open Go.Proofs.Tryz
open Go.RowKit
variable {TL:Array Value}{a rt tr:Int}{A b i jc k n nb nm s tb x:Nat}{bm cb:Nat→Nat}{o:Obj}{c:R.Cf}{K:Value}{BX w w' w1:World}
abbrev cfv(a b c d e:Int):Value:=.agg #[Z a,Z b,Z c,Z d,Z e]
def zln:J7:=⟨0,0,.slice none 0 0,0,0,[],0,[],0,0⟩
theorem eX(hn:1<=n/\n<=3)(W:Aa):(Instr.makeSlice 132 (Z n) (Z n)).run prog W=.ok (EJ W.heap.size n n) (W.alloc (.cells (tab J7.cells (List.replicate n zln)).toArray 139)):=by
 exact abE
structure bG(w w':Aa)(k:Nat)(DR:Int)(n nb:Nat)(rt tr:Int)(cb lb bm:Nat):Prop where
 DG:Below w.heap.size w w'
 c0:w.heap.size<=cb
 l0:w.heap.size<=lb
 b0:w.heap.size<=bm
 cell:w'.heap[cb]?=some (.cells #[Z k,Z DR,.map (some bm),EJ lb n n,Z rt,Z tr,ptr nb] 134 (0,0))
 DV:w'.heap[lb]?=some (.cells (tab J7.cells (List.replicate n zln)).toArray 139 (0,0))
 map:Mp w' 3 bm Vl (λ_=>none) 0
theorem KE(w:Aa)(o:Obj)(h:w.heap.size=n):(w.alloc o).heap[n]?=some o:=by
 subst h;exact AF w o
theorem Mp.above{α:Type}{k:Ag}{lit:α->Lit}{g:α->Option Int}(h:Mp w k b lit g n)(f:DY w w'):Mp w' k b lit g n:=h.keep (DF.D6 f (λ_=>False)) (λe=>e)
theorem aeA(e:DY w BX)(f:TL=(tab J7.cells (List.replicate n zln)).toArray):
  bG w (((BX.alloc (.map #[] 0)).alloc (.cells TL 139)).alloc (.cells #[Z k,Z 1,.map (some BX.heap.size),.slice (some ⟨BX.heap.size+1,0,none⟩) n n,Z rt,Z tr,ptr nb] 134)).drew k 1 n nb rt tr (BX.heap.size+1+1) (BX.heap.size+1) BX.heap.size:=by
 have s0:=e.size;have e1:(BX.alloc (.map #[] 0)).heap.size=BX.heap.size+1:=Ev;have e2:((BX.alloc (.map #[] 0)).alloc (.cells TL 139)).heap.size=BX.heap.size+1+1:=Ev;refine⟨?_,U,U,U,?_,?_,?_⟩
 ·exact(((e.alloc s0 _).alloc U _).alloc U _).drew
 ·rw[Qa];exact KE _ _ e2
 ·grind [Qa,Below.heap_alloc,KE]
 ·exact(Mp.Gw BX 3 Vl).above (((F9.alloc U _)).drew)
theorem aeB(f:DY w BX)(g:TL=(tab J7.cells (List.replicate n zln)).toArray):
  bG w (((BX.alloc (.cells TL 139)).alloc (.map #[] 0)).alloc (.cells #[Z k,Z 1,.map (some (BX.heap.size+1)),EJ BX.heap.size n n,Z rt,Z tr,ptr nb] 134)).drew k 1 n nb rt tr (BX.heap.size+1+1) BX.heap.size (BX.heap.size+1):=by
 have s0:=f.size;have e1:(BX.alloc (.cells TL 139)).heap.size=BX.heap.size+1:=Ev;have e2:((BX.alloc (.cells TL 139)).alloc (.map #[] 0)).heap.size=BX.heap.size+1+1:=Ev;refine⟨?_,U,U,U,?_,?_,?_⟩
 ·exact(((f.alloc s0 _).alloc U _).alloc U _).drew
 ·rw[Qa];exact KE _ _ e2
 ·grind [Qa,Below.heap_alloc,KE]
 ·have e:=Mp.Gw (BX.alloc (.cells TL 139)) 3 Vl;rw[e1]at e;exact e.above (((AA _ _).alloc U _).drew)
theorem dv(w:Aa)(k n nb:Nat)(a rt tr tb:Int)(hn:1<=n/\n<=3):
  ET 59 #[Z k,cfv a (n:Int) rt tr tb,ptr nb] w λe w'=>∃cb lb bm,e=.returned (ptr cb)/\bG w w' k 1 n nb rt tr cb lb bm:=by
 have O:=eX hn;have aa:=@run_makeMap prog;obtain⟨TL,g⟩:∃TL,TL=(tab J7.cells (List.replicate n zln)).toArray:=⟨_,rfl⟩;rw[<-g]at O;have h:=Dx g;clear g;obtain⟨BX,f⟩:∃BX,w.alloc (.cells #[Z a,Z n,Z rt,Z tr,Z tb] 26)=BX:=⟨_,rfl⟩;have T:Hid (DY w BX):=by
  rw[<-f];exact F9
 have j:BX.heap[w.heap.size]?=some (.cells #[Z a,Z n,Z rt,Z tr,Z tb] 26 (0,0)):=by
  rw[<-f];exact AF w _
 have X:BX.heap.size=w.heap.size+1:=by rw[<-f];simp
 obtain⟨c1,c2,c3⟩:=TH j 1 2 3;have Q:w.heap.size<BX.heap.size:=U;obtain⟨B,HS⟩:=FU f X;have D:Hid (∀m u y,(((BX.alloc m).alloc u).alloc y).drew.cell? (EN w 1)=some (Z n)/\(((BX.alloc m).alloc u).alloc y).drew.cell? (EN w 2)=some (Z rt)/\(((BX.alloc m).alloc u).alloc y).drew.cell? (EN w 3)=some (Z tr)):=λm u y=>by
  have M:DY BX (((BX.alloc m).alloc u).alloc y).drew:=((F9.alloc Ev _).alloc Fy _).drew;exact⟨(M.cell (p:=EN w 1) Q).trans c1,(M.cell (p:=EN w 2) Q).trans c2,(M.cell (p:=EN w 3) Q).trans c3⟩
 clear f j X;go_enter func59,ntmps59;go_wp2_with fail
 rw[Dw B];go_region_held3 (λw'=>w'.cell? (EN w 1)=some (Z n)/\w'.cell? (EN w 2)=some (Z rt)/\w'.cell? (EN w 3)=some (Z tr)) (first|exact D _ _ _|go_keep) (fail)
 all_goals
  go_wp2;go_returns
 ·exact⟨_,_,_,rfl,aeA T (Dw h)⟩
 ·exact⟨_,_,_,rfl,aeB T (Dw h)⟩
theorem ac2:(prog.info? 89).map (λi=>(i.zero,i.size,i.bytes))=some (some (.pointer none),1,8):=EL
def cbs(cb:Nat->Nat)(k:Nat):List Value:=(List.range k).map λi=>ptr (cb i)
def upd(f:Nat->Nat)(k v:Nat):Nat->Nat:=λj=>if j=k then v else f j
theorem upd_same(f:Nat->Nat)(k v:Nat):upd f k v k=v:=by simp[upd]
theorem LJ(f:Nat->Nat){v j:Nat}(h:j≠k):upd f k v j=f j:=by simp[upd,h]
theorem yB(cb:Nat->Nat)(k v:Nat):cbs (upd cb k v) (k+1)=cbs cb k++[ptr v]:=by
 unfold cbs
 grind [List.range_succ,upd_same,List.map_congr_left,LJ]
def sp0(jc:Nat):SP:=⟨.slice none 0 0,[],λ_=>0,jc⟩
structure NI(w:Aa)(c:R.Cf)(A n s x nm jc:Nat)(k:Nat)(cb lb bm:Nat->Nat)(K:Ad)(wr:Aa):Prop where
 DG:Below w.heap.size w wr
 cA:wr.heap[A]?=some (.cells #[Z c.DI,Z c.DV,Z c.Ew,Z c.DW,Z c.FF] 26 (0,0))
 cx:wr.heap[x]?=some (.cells #[ptr n,ptr s,K] 84 (0,0))
 row:wr.ownsRow 0 89 1 K k (cbs cb k)
 cn:wr.heap[n]?=some (.cells #[.slice none 0 0] 113 (0,0))
 cs:wr.heap[s]?=some (.cells (IW n nm (sp0 jc) c [0,0,0] (List.replicate 9 R.Ic)).toArray 167 (0,0))
 cj:wr.heap[jc]?=some (.chan c.FF.toNat #[] false 0 0 false)
 Eu:Mp wr 9 nm Si (λ_=>none) 0
 lo:w.heap.size<=A/\w.heap.size<=n/\w.heap.size<=s/\w.heap.size<=x/\w.heap.size<=nm/\w.heap.size<=jc
 kb:∀j,K.ownBlock=some j->w.heap.size<=j
 each:∀i,i<k->(w.heap.size<=cb i/\w.heap.size<=lb i/\w.heap.size<=bm i)/\wr.heap[cb i]?=some (.cells #[Z i,Z 1,.map (some (bm i)),.slice (some ⟨lb i,0,none⟩) c.DV.toNat c.DV.toNat,Z c.Ew,Z c.DW,ptr n] 134 (0,0)) /\
  wr.heap[lb i]?=some (.cells (tab J7.cells (List.replicate c.DV.toNat zln)).toArray 139 (0,0))/\Mp wr 3 (bm i) Vl (λ_=>none) 0/\bm i≠nm
 inj:∀i j,i<k->j<k->i≠j->lb i≠lb j/\bm i≠bm j/\cb i≠cb j
theorem od{B:Nat}{e:Ag}{size:Nat}{v:Ad}{xs:Ae}(h:w.ownsRow B e size v n xs){off:Nat}(f:v.ownBlock≠some b){u:Ad}:(w.setCell (Y b off) u).ownsRow B e size v n xs:=by grind [Jl,Below.heap_setCell]
theorem NI.more{lb:Nat->Nat}{wr T:Aa}(h:NI w c A n s x nm jc k cb lb bm K wr){B al X:Nat}(hn:bG wr w1 k 1 c.DV.toNat n c.Ew c.DW B al X){K':Ad}(ak:T.ownsRow 0 89 1 K' (k+1) (cbs cb k++[ptr B]))(hg:(w1.alloc (.cells #[ptr B] 89)).grownBy T K.ownBlock)(ac:K'.ownBlock=K.ownBlock\/K'.ownBlock=some (w1.heap.size+1)):
  NI w c A n s x nm jc (k+1) (upd cb k B) (upd lb k al) (upd bm k X) K' (T.setCell (Y x 2) K'):=by
 have s0:=h.DG.size;have s1:=hn.DG.size;have hK:DF (λq=>K.ownBlock=some q\/q=x) wr (T.setCell (Y x 2) K'):=
  DF.setCell (F:=λq=>K.ownBlock=some q\/q=x) (((DF.D6 hn.DG _).alloc _).grown hg (λq y=>Aj (Aj y))) (p:=Y x 2) (Aj (Am rfl)) _
 have aa:DF (λq=>K.ownBlock=some q\/q=x) w1 (T.setCell (Y x 2) K'):=
  DF.setCell (F:=λq=>K.ownBlock=some q\/q=x) (((DF.refl _ _).alloc _).grown hg (λq y=>Aj (Aj y))) (p:=Y x 2) (Aj (Am rfl)) _
 have ab:=K5 h.row h.cx Em;have av:=Dv h.cx;have at':∀{b:Nat} {ys:Array Value} {t:Ag} {f:Nat×Nat},wr.heap[b]?=some (.cells ys t f)->t≠84->t≠89->(T.setCell (Y x 2) K').heap[b]?=some (.cells ys t f):=λhb h1 h2=>hK.at hb (by
  rintro (e|e)
  ·exact K5 h.row hb (λq=>h2 q.symm) e
  ·exact ES hb h.cx h1 e)
 have O:∀{α:Type} {t:Ag} {b:Nat} {lit:α->Lit} {g:α->Option Int} {m:Nat},Mp wr t b lit g m->Mp (T.setCell (Y x 2) K') t b lit g m:=λhm=>by
  have⟨es,q,y⟩:=hm.block;refine hm.keep hK ?_;rintro (e|e)
  ·exact MA h.row y e
  ·exact(On h.cx y) e.symm
 have M:∀q,K.ownBlock=some q->q<wr.heap.size:=λq y=>(Ba h.row q y).2
 have Q:∀{b:Nat} {o:Obj},w1.heap[b]?=some o->wr.heap.size<=b->(T.setCell (Y x 2) K').heap[b]?=some o:=λhb hl=>aa.at hb (by
  rintro (e|e)
  ·have:=M _ e;omega
  ·omega)
 have ah:K'.ownBlock≠some x:=by
  rcases ac with e|e
  ·rw[e];exact ab
  ·rw[e];intro q;simp at q;omega
 have ao:¬(K.ownBlock=some jc\/jc=x):=by
  rintro (e|e)
  ·rcases id h.row.2 with ⟨q,_⟩|⟨g,cap,aw,q,_,aq,_⟩
   ·rw[q]at e;cases e
   ·rw[q]at e;cases e;have:=h.cj;rw[aq]at this;cases this
  ·have:=h.cj;rw[e,h.cx]at this;cases this
 refine⟨?_,at' h.cA Em Em,?_,?_,at' h.cn Em Em,at' h.cs Em Em,hK.at h.cj ao,O h.Eu,h.lo,λj hj=>?_,λi hi=>?_,λi j hi hj ae=>?_⟩
 ·exact h.DG.trans (hK.DG s0 (λq y=>by
   rcases y with y|rfl
   ·exact h.kb q y
   ·exact h.lo.2.2.2.1))
 ·have ar:=(hg.block x Fy (λe=>ab e.symm)).trans ((AL _ _ _ U).trans ((hn.DG.block x av).trans h.cx));exact Ek (cs:=[ptr n,ptr s,K]) (off:=2) ar K'
 ·rw[yB];exact od ak ah
 ·rcases ac with e|e
  ·exact h.kb j (e ▸ hj)
  ·rw[e]at hj;simp at hj;omega
 ·by_cases u:i=k
  ·subst u;simp only[upd_same];have⟨es,q,y⟩:=hn.map.block;refine⟨⟨by have:=hn.c0;omega,by have:=hn.l0;omega,by have:=hn.b0;omega⟩,Q hn.cell hn.c0,Q hn.DV hn.l0,hn.map.keep aa ?_,?_⟩
   ·rintro (e|e)
    ·have:=M _ e;have:=hn.b0;omega
    ·have:=hn.b0;omega
   ·have:=h.Eu.lt;have:=hn.b0;omega
  ·have⟨a1,a2,a3,a4,a5⟩:=h.each i U;simp only[LJ _ u];exact⟨a1,at' a2 Em Em,at' a3 Em Em,O a4,a5⟩
 ·by_cases u:i=k
  ·subst u;have D:j≠i:=λe=>ae e.symm
   have⟨_,a2,a3,a4,_⟩:=h.each j U;have l0:=Dv a2;have l1:=Dv a3;have:=hn.c0;have l2:=a4.lt;simp only[upd_same,LJ _ D];have:=hn.l0;have:=hn.b0;omega
  ·by_cases D:j=k
   ·subst D;have⟨_,a2,a3,a4,_⟩:=h.each i U;have l0:=Dv a2;have l1:=Dv a3;have:=hn.c0;have l2:=a4.lt;simp only[upd_same,LJ _ u];have:=hn.l0;have:=hn.b0;omega
   ·simp only[LJ _ u,LJ _ D];exact h.inj i j U U ae
theorem Y4(c:R.Cf)(hc:R.GA c)(w:Aa):D7 57 #[cfv c.DI c.DV c.Ew c.DW c.FF] w (.bool true) λw'=>DY w w':=by
 have⟨a,b,r,t,e⟩:=c;have⟨⟨g,h⟩,⟨j,m⟩,⟨u,y⟩,⟨B,D⟩,M,f⟩:=hc;simp only at g h j m u y B D M f ⊢;exact pA
def adg(jc:Nat):Value:=.agg #[Z 0,Z 0,Z 0,.pointer none,.pointer none,.pointer none,.pointer none,.pointer none,.pointer none,.pointer none,.pointer none,.pointer none,.chan (some jc)]
theorem zm:(prog.info? 145).map (λi=>i.bytes)=some 40:=EL
theorem lE(hn:n<=9)(W:Aa):(Instr.makeChan 163 (Z n)).run prog W=.ok (.chan (some W.heap.size)) (W.alloc (.chan n #[] false 0 0 false)):=by
 have h:=zm;cases hi:prog.info? 145 with
 |none=>rw[hi]at h;cases h
 |some i=>
  rw[hi]at h;simp only[Ce,Option.some.injEq]at h;exact Go.Conc.run_makeChan underlying163 hi .i64 n U (by rw[h];omega)
theorem zy(w:Aa)(n:Nat)(hn:n<=9):D7 105 #[Z n] w (adg (w.heap.size+1)) λw'=>DY w w'/\w'.heap.size=w.heap.size+1+1/\w'.heap[w.heap.size+1]?=some (.chan n #[] false 0 0 false):=by
 have e:=lE hn;unfold adg;go_enter func105,ntmps105;go_wp2;go_returns;refine⟨rfl,F9.alloc Ev _,Ev,?_⟩;exact KE _ _ Ev
structure qg(w w':Aa)(n:Nat)(c:R.Cf)(s nm jc:Nat):Prop where
 DG:Below w.heap.size w w'
 s0:w.heap.size<=s
 n0:w.heap.size<=nm
 j0:w.heap.size<=jc
 cell:w'.heap[s]?=some (.cells (IW n nm (sp0 jc) c [0,0,0] (List.replicate 9 R.Ic)).toArray 167 (0,0))
 chan:w'.heap[jc]?=some (.chan c.FF.toNat #[] false 0 0 false)
 map:Mp w' 9 nm Si (λ_=>none) 0
abbrev gM(a b rt tr tb:Int)(nm jc nb:Nat):Array Value:=#[Z a,Z b,Z rt,Z tr,Z tb,.map (some nm),.slice none 0 0,Z 0,Z 0,Z 0,.pointer none,.pointer none,.pointer none,.pointer none,.pointer none,.pointer none,.pointer none,.pointer none,.pointer none,.chan (some jc),ptr nb]
theorem Wb(a b rt tr tb:Int)(nm jc nb:Nat):(IW nb nm (sp0 jc) ⟨a,b,rt,tr,tb⟩ [0,0,0] (List.replicate 9 R.Ic)).toArray=gM a b rt tr tb nm jc nb:=rfl
theorem ae9{V:Aa}{b:Int}(f:DY w V)(g:Below (V.alloc (.map #[] 0)).heap.size (V.alloc (.map #[] 0)) w1)(m:w1.heap.size=(V.alloc (.map #[] 0)).heap.size+1+1)(j:w1.heap[(V.alloc (.map #[] 0)).heap.size+1]?=some (.chan tb #[] false 0 0 false))(h:o=.cells (gM a b rt tr tb V.heap.size (V.heap.size+1+1) nb) 167 (0,0)):qg w (w1.alloc o) nb ⟨a,b,rt,tr,tb⟩ w1.heap.size V.heap.size (V.heap.size+1+1):=by
 subst h;have s0:=f.size;have e1:(V.alloc (.map #[] 0)).heap.size=V.heap.size+1:=Ev;have e:=(f.alloc s0 _).trans (g.mono U);refine⟨e.alloc U _,U,U,U,?_,?_,?_⟩
 ·grind [Wb,KE]
 ·grind [Below.heap_alloc]
 ·exact((Mp.Gw V 9 Si).above g).above F9
theorem afa{V:Aa}{b:Int}(f:DY w V)(g:DY V w1)(m:w1.heap.size=V.heap.size+1+1)(j:w1.heap[V.heap.size+1]?=some (.chan tb #[] false 0 0 false))(h:o=.cells (gM a b rt tr tb w1.heap.size (V.heap.size+1) nb) 167 (0,0)):qg w ((w1.alloc (.map #[] 0)).alloc o) nb ⟨a,b,rt,tr,tb⟩ (w1.heap.size+1) w1.heap.size (V.heap.size+1):=by
 subst h;have s0:=f.size;have e1:(w1.alloc (.map #[] 0)).heap.size=w1.heap.size+1:=Ev;have e:=f.trans (g.mono U);refine⟨(e.alloc U _).alloc U _,U,U,U,?_,?_,?_⟩
 ·grind [Wb,KE]
 ·grind [Below.heap_alloc]
 ·exact(Mp.Gw w1 9 Si).above F9
theorem aes:∀args w,(callFunc 105 args).run prog w=.ok (.enter 105 args) w:=λ_ _=>rfl
theorem gU(w:Aa)(nb tb:Nat)(a b rt tr:Int)(ht:tb<=9):ET 58 #[cfv a b rt tr (tb:Int),ptr nb] w λe w'=>∃s nm jc,e=.returned (ptr s)/\qg w w' nb ⟨a,b,rt,tr,tb⟩ s nm jc:=by
 have X:=@run_makeMap prog;obtain⟨BX,g⟩:∃BX,w.alloc (.cells #[Z a,Z b,Z rt,Z tr,Z tb] 26)=BX:=⟨_,rfl⟩;have Q:Hid (DY w BX):=by
  rw[<-g];exact F9
 have j:BX.heap[w.heap.size]?=some (.cells #[Z a,Z b,Z rt,Z tr,Z tb] 26 (0,0)):=by
  rw[<-g];exact AF w _
 obtain⟨c0,c1,c2,c3,c4⟩:=bC j 0 1 2 3 4;have m:=Dv j;obtain⟨O,T⟩:=FU g (λw=>zy w tb ht);simp only[adg]at T;clear g j;go_enter func58,ntmps58;go_wp2_with fail
 rw[Dw O];go_region_law (first
  |(refine FG rfl 105 #[.tmp 8] #[3] rfl aes #[Z tb] rfl _ (T _) ?_;rintro e w1 ⟨rfl,h,M,D⟩;have f:DY BX w1:=(by first|exact Mg h|exact(((AA BX.heap.size BX).alloc (Ar _) _).drew).trans (h.mono Ev));have g0:Kk w1 w 0 (Z a):=(f.cell (p:=EN w 0) m).trans c0;have g1:Kk w1 w 1 (Z b):=(f.cell (p:=EN w 1) m).trans c1;have g2:Kk w1 w 2 (Z rt):=(f.cell (p:=EN w 2) m).trans c2;have g3:Kk w1 w 3 (Z tr):=(f.cell (p:=EN w 3) m).trans c3;have g4:Kk w1 w 4 (Z tb):=(f.cell (p:=EN w 4) m).trans c4;have l1:w.heap.size<w1.heap.size:=Ai m f.size;have B:=Dx M;have u:=Dx h;have y:=Dx D;clear f h M D;refine⟨_,rfl,?_⟩))
 all_goals
  go_wp2;go_returns;first
   |exact⟨_,_,_,rfl,ae9 (V:=BX) Q (Mg u) B y rfl⟩
   |exact⟨_,_,_,rfl,afa (V:=BX) Q (Mg u) B y rfl⟩
theorem af7:∀args w,(callFunc 59 args).run prog w=.ok (.enter 59 args) w:=λ_ _=>rfl
theorem zK(w:Aa)(cb:Nat)(j:Nat)(u:Ad)(h:([ptr cb]:Ae)[j]?=some u):(w.alloc (.cells #[ptr cb] 89)).cell? (((EN w 0):Addr).add j)=some u:=by grind [Addr.add_lit,World.cell?_alloc_new]
theorem bG.Mg{DR:Int}{cb lb bm:Nat}(h:bG w.drew w' k DR n nb rt tr cb lb bm):bG w w' k DR n nb rt tr cb lb bm:=⟨YtblomippkddgiaaGreatDoor.Mg h.DG,h.c0,h.l0,h.b0,h.cell,h.DV,h.map⟩
theorem uk{g:Aa}(h:DY w w1)(y:w.heap.size<=A)(f:w1.heap[A]?=some (.cells #[Z c.DI,Z c.DV,Z c.Ew,Z c.DW,Z c.FF] 26 (0,0)))(e:qg (w1.alloc (.cells #[.slice none 0 0] 113)) g w1.heap.size c s nm jc):
  NI w c A w1.heap.size s g.heap.size nm jc 0 id id id (.slice none 0 0) (g.alloc (.cells #[ptr w1.heap.size,ptr s,.slice none 0 0] 84)):=by
 have s0:=h.size;have hl:=Dv f;have e1:(w1.alloc (.cells #[.slice none 0 0] 113)).heap.size=w1.heap.size+1:=Ev;have m:DY w (w1.alloc (.cells #[.slice none 0 0] 113)):=h.alloc s0 _;have sb:=e.DG.size;have u:=m.trans (e.DG.mono U);have up:∀{b:Nat} {o:Obj},g.heap[b]?=some o->(g.alloc (.cells #[ptr w1.heap.size,ptr s,.slice none 0 0] 84)).heap[b]?=some o:=λh=>by
  grind [Below.heap_alloc]
 have D:=e.s0;have M:=e.n0;have O:=e.j0;refine⟨u.alloc U _,up ?_,KE _ _ rfl,AZ _ _ _ _,up ?_,up e.cell,up e.chan,?_,⟨y,U,U,U,U,U⟩,(λj B=>by cases B),(λi hi=>by omega),(λi j hi=>by omega)⟩
 ·rw[e.DG.block A U,AL _ _ _ hl];exact f
 ·rw[e.DG.block _ U];exact KE _ _ rfl
 ·exact e.map.above F9
theorem uh(hc:R.GA c):
  ET 27 #[cfv c.DI c.DV c.Ew c.DW c.FF] w λe w'=>∃A n s x nm jc cb lb bm K,e=.returned (.tuple #[ptr x,Z 0])/\NI w c A n s x nm jc c.DI.toNat cb lb bm K w':=by
 have HR:=Dx (Y4 c hc);obtain⟨a,b,r,t,tb⟩:=c;obtain⟨⟨h1,h2⟩,⟨h3,h4⟩,⟨h5,h6⟩,⟨h7,h8⟩,h9,aV⟩:=hc;simp only at h1 h2 h3 h4 h5 h6 h7 h8 h9 aV HR ⊢;have bS:=@run_makeMap prog;obtain⟨N,hN⟩:∃N:Nat,a=(N:Int):=⟨a.toNat,U⟩;obtain⟨L,hL⟩:∃L:Nat,b=(L:Int):=⟨b.toNat,U⟩;obtain⟨T,hT⟩:∃T:Nat,tb=(T:Int):=⟨tb.toNat,U⟩;subst hN hL hT;obtain⟨BX,D⟩:∃BX,w.alloc (.cells #[Z N,Z L,Z r,Z t,Z T] 26)=BX:=⟨_,rfl⟩;have HB:Hid (DY w BX):=by
  rw[<-D];exact F9
 have M:BX.heap[w.heap.size]?=some (.cells #[Z N,Z L,Z r,Z t,Z T] 26 (0,0)):=by
  rw[<-D];exact AF w _
 obtain⟨c0,c1,c2,c3,c4⟩:=bC M 0 1 2 3 4;have j:=Dv M;obtain⟨ar,av,aw⟩:=Ll D M (λw k nb=>dv w k L nb (N:Int) r t (T:Int) U);obtain⟨i0,hi,b9,ba,bb⟩:=A1 ac2;clear D M;go_enter func27,ntmps27;go_wp2_with fail
 rw[Dw ar];refine cm (HR _) λw1 f=>?_
 have ah:=Dx (λ(u:Aa) (s nm jc:Nat) (hs:qg (w1.alloc (.cells #[.slice none 0 0] 113)) u w1.heap.size ⟨(N:Int),(L:Int),r,t,(T:Int)⟩ s nm jc)=>uk (w:=w) (A:=w.heap.size) (c:=⟨(N:Int),(L:Int),r,t,(T:Int)⟩) (HB.trans (f.mono HB.size)) (Ar _) ((f.block _ j).trans av) hs);have bz:=Ai j f.size;have d0:=(f.cell (p:=EN w 0) j).trans c0;have d1:=(f.cell (p:=EN w 1) j).trans c1;have d2:=(f.cell (p:=EN w 2) j).trans c2;have d3:=(f.cell (p:=EN w 3) j).trans c3;have d4:=(f.cell (p:=EN w 4) j).trans c4;have aN:=Dx (λw nb=>gU w nb T (N:Int) (L:Int) r t U);clear f c0 c1 c2 c3 c4;go_wp2_with fail
 refine(aN _ _).mono ?_;rintro e u ⟨s,nm,jc,rfl,hs⟩;have ae:=Dx (ah u s nm jc hs);have f0:=EI ae.cA 0;clear hs ah d0 d1 d2 d3 d4;go_wp2;go_loopw [20] (λiv wr=>∃(k:Nat) (cb lb bm:Nat->Nat) (K:Ad),k<=N/\iv=Z k/\NI w ⟨(N:Int),(L:Int),r,t,(T:Int)⟩ w.heap.size w1.heap.size s u.heap.size nm jc k cb lb bm K wr) (λiv _=>N-(intOf iv).toNat)
 case atStart=>exact⟨0,id,id,id,_,AV _,rfl,ae⟩
 case round=>
  obtain⟨k,cb,lb,bm,K,hk,rfl,g⟩:=hrel;by_cases bL:k<N
  ·have O:=g.cx;obtain⟨a2,a0⟩:=VL O 2 0;have f2:wr.frozen? (EN u 2)=false:=Eb O;obtain⟨b0,b1,b2,b3,b4⟩:=bC g.cA 0 1 2 3 4;have aa:=Dv O;have Q:=Dx g;obtain⟨ka,kc,b5⟩:=Fa g.row;subst b5;have an:=K5 g.row g.cx Em;have az:=Dx an;clear g O an;go_wp2;go_region_law (first
    |(refine FG rfl 59 #[.tmp 28,.tmp 29,.tmp 30] #[3,26,80] rfl af7 #[Z k,cfv (N:Int) (L:Int) r t (T:Int),ptr w1.heap.size] rfl _ (aw _ k w1.heap.size) ?_;rintro e w3 ⟨am,bT,bi,rfl,B⟩;have y:=Mg B.DG;have s2:=y.size;have e2:Kk w3 u 2 (.slice ka k kc):=(y.cell (p:=EN u 2) aa).trans a2;have aS:w3.frozen? (EN u 2)=false:=(y.frozen (p:=EN u 2) aa).trans f2;have al:=Dx B;have aq:=Dx y;have b6:u.heap.size<w3.heap.size:=Ai aa s2;clear y B;refine⟨_,rfl,?_⟩)
    |(refine FM rfl (.tmp 27) (.tmp 32) 82 rfl 0 89 i0 (.pointer none) 1 8 underlying82 hi b9 ba bb rfl Em (.slice ka k kc) k (cbs cb k) rfl (by exact(ER Q.row aq).alloc _) (EN w3 0) 1 1 [ptr am] rfl rfl (by exact zK w3 am) Vd JG U U ?_;intro v' wz m h ao;obtain⟨va,vn,vc,b7⟩:=Ei m;subst b7;have X:wz.heap[u.heap.size]?=w3.heap[u.heap.size]?:=(h.block _ Fy (λe=>az e.symm)).trans (AL _ _ _ b6);have gz:wz.frozen? (EN u 2)=false:=(A8 X).trans aS;have gn:Kk wz u 2 (.slice ka k kc):=(AR X).trans e2;have ak:=Dx m;have ad:=Dx h;have ac:=Dx ao;clear m h ao X))
   all_goals
    have HM:=Dx (Q.more al.Mg ak ad (by have:=Dw ac;simpa using this));clear ak ad ac al Q;go_wp2;go_roundw
    case rel=>exact⟨k+1,_,_,_,_,U,Kc,HM⟩
    case measure=>exact Kt
  ·obtain rfl:k=N:=U;go_wp2;go_returns;exact⟨_,_,_,_,_,_,cb,lb,bm,K,rfl,g⟩
def J0(c:R.Cf):R.Wd:=⟨c,[],[],[],[],List.replicate c.DI.toNat (R.RF 1 c.DV),[0,0,0],List.replicate 9 R.Ic,[]⟩
theorem Mw{x:R.Cl}(h:(J0 c).DI[i]?=some x):i<c.DI.toNat/\x=R.RF 1 c.DV:=by grind [J0]
theorem zE(hc:R.GA c):R.Wf (J0 c):=by
 have e:=hc;unfold R.GA at e;refine⟨hc,by simp[J0];omega,λi x j=>?_,by simp[J0],λf g=>by simp[J0]at g,by simp[J0],λs h=>by simp[J0]at h,by simp[J0],by simp[J0],by simp[J0],λu hu=>by simp[J0]at hu⟩;obtain⟨_,rfl⟩:=Mw j;refine⟨by simp[R.RF,J0];omega,by simp[R.RF],λu hu=>by simp[R.RF]at hu,λk l hl=>?_⟩;simp only[R.RF,Be]at hl;split at hl
 ·cases hl;exact⟨by simp[R.Vm],λq=>by simp[R.Vm]at q⟩
 ·cases hl
theorem jS{r:R.Sn}(h:(List.replicate 9 R.Ic)[i]?=some r):r.D4=0:=by grind [R.Ic]
theorem zF(hc:R.GA c):R.MX (J0 c).c (J0 c).DX (J0 c).DN (J0 c).EF:=R.ws0 hc
theorem LW.Gw(hc:R.GA c){lb:Nat->Nat}(h:NI w c A n s x nm jc c.DI.toNat cb lb bm K w'):
  ∃p F,p.x=x/\LW p F (J0 c) w'/\∀k,F k->w.heap.size<=k:=by
 have D:=hc;unfold R.GA at D;rcases h.row.2 with ⟨_,h0⟩|⟨g,cap,u,rfl,_,T,Q,_,aa,ac⟩
 ·omega
 ·have e:(J0 c).DI.length=c.DI.toNat:=by simp[J0]
  have lo:=h.lo;refine⟨⟨x,n,s,g,cap,nm,cb,lb,bm,sp0 jc⟩,λk=>w.heap.size<=k/\k<w'.heap.size,rfl,⟨zE hc,zF hc,?_,?_,?_,?_,?_,λi y B=>?_,λi y B=>?_,λi y B=>?_,?_,λi hi=>?_,λi j hi m M=>?_,λk hk=>hk.2⟩,λk hk=>hk.1⟩
  ·rw[e];exact h.cx
  ·refine⟨u,T,λi hi=>?_⟩;rw[e]at hi;have e1:u.toList[i]?=(cbs cb c.DI.toNat)[i]?:=by grind
   grind [cbs]
  ·exact⟨_,h.cn,AZ _ _ _ _,λj m=>by cases m⟩
  ·refine⟨h.cs,rfl,AZ _ _ _ _,λz hz=>by simp[sp0]at hz,λi j z y hz=>by simp[sp0]at hz,λi j z y hz=>by simp[sp0]at hz,λi r O f=>?_,λi j r r' O ab f=>?_,⟨0,0,h.cj⟩,⟨lo.2.2.1,Dv h.cs⟩,⟨lo.2.2.2.2.2,(AB.1 h.cj).1⟩,λj m=>by cases m⟩
   ·exact absurd (jS O) f
   ·exact absurd (jS O) f
  ·exact h.Eu.congr (λa=>by simp[Fu,R.Gi,J0])
  ·obtain⟨hi,rfl⟩:=Mw B;have:=(h.each i hi).2.1
   grind [R.RF,J0]
  ·obtain⟨hi,rfl⟩:=Mw B;refine⟨_,(h.each i hi).2.2.1,⟨by simp[R.RF],λk l z hl hz=>?_⟩,λk l z hl hz=>?_⟩;simp only[R.RF,Be]at hl hz;by_cases hk:k<c.DV.toNat
   ·rw[Ay hk]at hl hz;cases hl;cases hz;exact⟨rfl,rfl,λ_=>rfl,λq=>by simp[R.Vm]at q,λq=>by simp[R.Vm]at q⟩
   ·rw[Ao hk]at hl;cases hl
   simp only[R.RF,Be]at hl hz;by_cases hk:k<c.DV.toNat
   ·rw[Ay hk]at hl hz;cases hl;cases hz;exact Gg.nil _ _
   ·rw[Ao hk]at hl;cases hl
  ·obtain⟨hi,rfl⟩:=Mw B;have:=(h.each i hi).2.2.2.1;exact this.congr (λa=>by simp[GY,R.RF])
  ·exact⟨⟨lo.2.2.2.1,Dv h.cx⟩,⟨lo.2.1,Dv h.cn⟩,⟨h.kb g rfl,Dv T⟩,⟨lo.2.2.2.2.1,h.Eu.lt⟩⟩
  ·rw[e]at hi;have⟨⟨a1,a2,a3⟩,X,b2,b3,b4⟩:=h.each i hi;exact⟨⟨a1,Dv X⟩,⟨a2,Dv b2⟩,⟨a3,b3.lt⟩,b4⟩
  ·rw[e]at hi m;exact h.inj i j hi m M
theorem zG(w:Aa)(c:R.Cf)(hc:R.GA c):
  ET 27 #[cfv c.DI c.DV c.Ew c.DW c.FF] w λe w'=>∃p F,e=.returned (.tuple #[ptr p.x,Z 0])/\LW p F (J0 c) w'/\(∀k,F k->w.heap.size<=k)/\DY w w':=by
 refine(uh hc).mono ?_;rintro e w' ⟨A,n,s,x,nm,jc,cb,lb,bm,K,rfl,h⟩;obtain⟨p,F,rfl,f,g⟩:=LW.Gw hc h;exact⟨p,F,rfl,f,g,h.DG⟩
structure kz(w:Aa)(F:D9)(log:List R.En)(en:R.En)(b:Nat)(K:Ad)(Dz:Int)(W:Ad)(O:Ad)(out:List R.It)(w':Aa):Prop where
 row:V.Row w' w.heap.size O out
 keep:DF (λk=>k=b\/K.ownBlock=some k) w w'
 afY:∃K',Fp w' (λk=>F k\/(w.heap.size<=k/\k<w'.heap.size)) (log++[en]) b K' Dz W/\(K'.ownBlock=K.ownBlock\/∃j,K'.ownBlock=some j/\w.heap.size<=j)
theorem WZ(l:List R.En)(e:R.En):∀n,R.Fh (l++[e]) n=(if e.Eo=0 then (R.Fh l n+R.IJ e.arg 0+65536) % 65536 else if R.IJ e.arg 0=1 then 0 else R.Fh l n):=by
 induction l with
 |nil=>intro n;rfl
 |cons a l ih=>intro n;exact ih _
theorem qT(w:Aa)(b:Nat)(N n:Int)(h:w.heap[b]?=some (.cells #[.int .u16 N] 330 (0,0))):
  D7 288 #[ptr b,Z n] w (EJ w.heap.size 1 1) λw'=>w'=(w.setCell (Y b 0) (.int .u16 ((N+n+65536) % 65536))).alloc (.cells #[Z ((N+n+65536) % 65536),.string ⟨#[]⟩] 106):=by
 have c0:=EI h 0;have e:w.frozen? (Y b 0)=false:=Eb h;have hl:=Dv h;have e1:IntKind.u16.wrap (N+IntKind.u16.wrap n)=(N+n+65536) % 65536:=by rw[wrap_u16,wrap_u16];omega
 have e2:wrap64 ((N+n+65536) % 65536)=(N+n+65536) % 65536:=NU;go_enter func288,ntmps288;go_wp2;go_returns;have e3:(N+n+65536) % 65536=(N+n) % 65536:=U;rw[e3];exact⟨rfl,rfl⟩
theorem lH(w:Aa)(b:Nat)(N:Int)(z:Bool)(h:w.heap[b]?=some (.cells #[.int .u16 N] 330 (0,0)))(e:0<=N/\N<=65535):
  D7 289 #[ptr b,.bool z] w (EJ w.heap.size 1 1) λw'=>w'=(if z=true then (w.setCell (Y b 0) (.int .u16 0)) else w).alloc (.cells #[Z N,.string ⟨#[]⟩] 106):=by
 have c0:=EI h 0;have f:w.frozen? (Y b 0)=false:=Eb h;have hl:=Dv h;have e2:wrap64 N=N:=NU;cases z with
 |true=>
  rw[Ay rfl];go_enter func289,ntmps289;go_wp2;go_returns;exact⟨rfl,rfl⟩
 |false=>
  rw[Ao Ev];go_enter func289,ntmps289;go_wp2;go_returns;exact⟨rfl,rfl⟩
theorem row_one(w Uq:Aa)(e:Uq.heap.size=w.heap.size)(n:Int)(s:Ab):V.Row (Uq.alloc (.cells #[Z n,.string s] 106)) w.heap.size (EJ w.heap.size 1 1) [(n,s)]:=by
 refine⟨rfl,Am ⟨w.heap.size,1,#[Z n,.string s],rfl,Ar _,?_,Ar _,Em,rfl,rfl⟩⟩;have:=AF Uq (.cells #[Z n,.string s] 106);rw[e]at this;exact this
theorem TN(w:Aa)(F:D9)(log:List R.En)(en:R.En)(b:Nat)(K W:Ad)(h:Fp w F log b K 0 W)(ak:b<w.heap.size){X:Ad}(hX:V.Ff w X en.arg)(ha:∃x,en.arg=[x])(u:en.Eo=0\/en.Eo=1)(Q:0<=R.Fh log 0/\R.Fh log 0<=65535):
  ET 287 #[ptr b,Z en.Eo,X] w λe w'=>∃O,e=.returned O/\kz w F log en b K 0 W O (R.Hw 0 log en.Eo en.arg) w':=by
 have⟨x,hx⟩:=ha;rw[hx]at hX;obtain⟨a,cap,rfl,ae,hc⟩:=hX;rcases hc with h0|⟨bb,off,rfl,al,hc⟩
 ·simp at h0
 have⟨c0,_⟩:=hc 0 x rfl;simp only[Dt,Cz]at c0;have q1:(0:Int)<((1:Nat):Int):=U;generalize hk0:(0:Int)=kd at h;cases h with
 |MZ=>cases hk0
 |P9=>cases hk0
 |counter hF hb hK=>
  have am:b≠w.heap.size:=U;have fin:∀(m:Aa) (M:Int),(m=w\/m=w.setCell (Y b 0) (.int .u16 M))->m.heap[b]?=some (.cells #[.int .u16 M] 330 (0,0))->M=R.Fh (log++[en]) 0->∀(n:Int),R.Hw 0 log en.Eo en.arg=[(n,⟨#[]⟩)]->kz w F log en b K 0 (.iface 328 (ptr b)) (EJ w.heap.size 1 1) (R.Hw 0 log en.Eo en.arg) (m.alloc (.cells #[Z n,.string ⟨#[]⟩] 106)):=λm M hV T hM n hd=>by
   have ab:m.heap.size=w.heap.size:=by
    rcases hV with rfl|rfl
    ·rfl
    ·simp
   have aa:DF (λk=>k=b\/K.ownBlock=some k) w m:=by
    rcases hV with rfl|rfl
    ·exact DF.refl _ _
    ·exact(Eg _).mono (λk _ e=>Aj e)
   rw[hd];refine⟨row_one w m ab n _,aa.alloc _,K,?_,Aj rfl⟩;have:(m.alloc (.cells #[Z n,.string ⟨#[]⟩] 106)).heap[b]?=some (.cells #[.int .u16 M] 330 (0,0)):=(AL _ _ _ U).trans T;refine .counter (Aj hF) ?_ hK;rw[<-hM];exact this
  have g:=WZ log en 0;have j:R.IJ en.arg 0=x.1:=by rw[hx];rfl
  rw[j]at g;rcases u with u|u
  ·have e1:(en.Eo==0)=true:=by simpa using u
   have B:=Dx (λw1 (f:w1=w)=>by
    have:=qT w b (R.Fh log 0) x.1 hb;rw[<-f]at this;exact this)
   have HF:=fin _ _ (Am rfl) (Ek (cs:=[.int .u16 (R.Fh log 0)]) (off:=0) hb _) (by rw[g,Ay u]) _ (by unfold R.Hw;rw[Ay rfl,Ay u,j];rfl);clear fin hb g u Q;go_enter func287,ntmps287;go_wp2_with (first|(go_at_call 288;refine cm (B _ rfl) λw1 f=>?_;have D:=Dx f;clear f))
   go_returns;rw[Dw D];exact⟨_,rfl,HF⟩
  ·have e1:(en.Eo==0)=false:=by simp[u]
   have HF:Hid (kz w F log en b K 0 (.iface 328 (ptr b)) (EJ w.heap.size 1 1) (R.Hw 0 log en.Eo en.arg) ((if (x.1==1)=true then (w.setCell (Y b 0) (.int .u16 0)) else w).alloc (.cells #[Z (R.Fh log 0),.string ⟨#[]⟩] 106))):=by
    have hd:R.Hw 0 log en.Eo en.arg=[(R.Fh log 0,⟨#[]⟩)]:=by unfold R.Hw;rw[Ay rfl,Ao U];rfl
    by_cases y:x.1=1
    ·rw[Ay (by simpa using y)];exact fin _ 0 (Am rfl) (Ek (cs:=[.int .u16 (R.Fh log 0)]) (off:=0) hb _) (by rw[g,Ao U,Ay y]) _ hd
    ·rw[Ao (by simpa using y)];exact fin _ _ (Aj rfl) hb (by rw[g,Ao U,Ao y]) _ hd
   have B:=Dx (lH w b (R.Fh log 0) (x.1==1) hb Q);clear fin hb g u Q;go_enter func287,ntmps287;go_wp2_with (first|(go_at_call 289;refine cm B λw1 f=>?_;have D:=Dx f;clear f))
   go_returns;rw[Dw D];exact⟨_,rfl,HF⟩
theorem Vr(w:Aa)(cb lb f k:Nat)(st:Int)(P:Pk)(e:World->Prop)(hk:k<f)(m:P.DZ=(k:Int))(j:EB w cb 3 (EJ lb f f))(g:(P.Ez=0/\st=4)\/(¬P.Ez=0/\st=5))
  (HQ:Hid (∀h,DY w h->D7 121 #[.pointer (some (Y lb (k*10))),Z st] h Ep λw'=>e w')):
  D7 143 #[ptr cb,pv P] w Ep λw'=>e w':=by
 have⟨D,cl,M,ln,B,u,pa,o,O,Ef⟩:=P;dsimp only[pv]at *;subst m;have y:=Gv j;have Q:0<=(k:Int):=U;have T:(k:Int)<f:=U;have HB:Hid (∀o,DY w (w.alloc o)):=λo=>F9
 generalize str Ef=SB at *;rcases g with ⟨h1,rfl⟩|⟨h1,rfl⟩
 ·have e1:(pa==0)=true:=by simpa using h1
  exact abk
 ·have e1:(pa==0)=false:=by simpa using h1
  exact abk
theorem fV(w:Aa)(cb lb O k:Nat)(n m g:Int)(P:Pk)(S C:Ab)(e:World->Prop)(hk:k<O)(hP:P.DZ=(k:Int))(b3:w.cell? (Y cb 3)=some (EJ lb O O))(a5:w.cell? (Y lb (k*10+5))=some (.string S))(a6:w.cell? (Y lb (k*10+6))=some (Z g))(a7:w.cell? (Y lb (k*10+7))=some (.string C))(hn:1<=n/\n<=100)
  (H1:Hid (∀w,D7 187 #[.string S] w (Z n) λw'=>w'=w))
  (H2:Hid (∀w,D7 187 #[.string C] w (Z m) λw'=>w'=w))
  (hold:g<n-1\/¬P.Ez=m)
  (HN:Hid (g<n-1\/m<P.Ez->∀D,DY w D->e D))
  (HG:Hid (¬(g<n-1)->P.Ez<m->∀D,DY w D->D7 201 #[ptr cb,pv P] D Ep λw'=>e w')):
  D7 142 #[ptr cb,pv P] w Ep λw'=>e w':=by
 have⟨j,cl,y,ln,f,u,pa,o,B,Ef⟩:=P;dsimp only[pv]at *;subst hP;have⟨aa,h⟩:=KM b3 a6;have q1:0<=(k:Int):=U;have q2:(k:Int)<O:=U;have ew:IntKind.i64.wrap (n-1)=n-1:=Iz;have X:Hid (∀o,DY w (w.alloc o)):=λo=>F9
 generalize str Ef=SB at *;have HF:Hid (∀m,E3 w w (.cells #[Z j,Z cl,Z y,Z k,Z f,Z u,Z pa,Z o,.bool B,.string SB] 41) ((w.alloc (.cells #[Z j,Z cl,Z y,Z k,Z f,Z u,Z pa,Z o,.bool B,.string SB] 41)).drewN m)):=λm=>⟨Ed (X _) m,AF w _⟩
 have HC:Hid (∀W,E3 w w (.cells #[Z j,Z cl,Z y,Z k,Z f,Z u,Z pa,Z o,.bool B,.string SB] 41) W->W.cell? (Y lb (k*10+5))=some (.string S)/\W.cell? (Y lb (k*10+6))=some (Z g)/\W.cell? (Y lb (k*10+7))=some (.string C)):=λW hW=>⟨(hW.1.cell (p:=(Y lb (k*10+5))) h).trans a5,(hW.1.cell (p:=(Y lb (k*10+6))) h).trans a6,(hW.1.cell (p:=(Y lb (k*10+7))) h).trans a7⟩
 have HD:Hid (∀W,E3 w w (.cells #[Z j,Z cl,Z y,Z k,Z f,Z u,Z pa,Z o,.bool B,.string SB] 41) W->(W.cell? (EN w 0)=some (Z j)/\W.cell? (EN w 1)=some (Z cl)/\W.cell? (EN w 2)=some (Z y)/\W.cell? (EN w 3)=some (Z k)/\W.cell? (EN w 4)=some (Z f))/\W.cell? (EN w 5)=some (Z u)/\W.cell? (EN w 6)=some (Z pa)/\W.cell? (EN w 7)=some (Z o)/\W.cell? (EN w 8)=some (.bool B)/\W.cell? (EN w 9)=some (.string SB)):=λW hW=>⟨⟨EI hW.2 0,EI hW.2 1,EI hW.2 2,EI hW.2 3,EI hW.2 4⟩,EI hW.2 5,EI hW.2 6,EI hW.2 7,EI hW.2 8,EI hW.2 9⟩
 by_cases M:g<n-1
 ·have HQ:=Dx (HN (Aj M));have e1:decide (g<n-1)=true:=by simpa using M
  exact afn
 ·have e1:decide (g<n-1)=false:=by simpa using M
  by_cases Q:m<pa
  ·have HQ:=Dx (HN (Am Q));have e2:decide (m<pa)=true:=by simpa using Q
   exact afn
  ·have h3:pa<m:=U;have HQ:=Dx (HG M h3);have e2:decide (m<pa)=false:=by simpa using Q
   clear HN HG hold;go_enter func142,ntmps142;go_wp2_with fail
   go_quiet (fail);go_wp2_with fail
   refine EE _ (HF _) ?_;intro W hW;have⟨d5,d6,d7⟩:=HC W hW;have hd:=HD W hW;have⟨⟨f0,f1,f2,f3,f4⟩,f5,f6,f7,f8,f9⟩:=hd;have HB1:=Dx hW.1.drew;clear hW HF HC HD;go_region_held3 (λw'=>w'.cell? (Y lb (k*10+5))=some (.string S)/\w'.cell? (Y lb (k*10+7))=some (.string C)) (go_keep) (first|(go_at_call 187;refine cs (H1 _) ?_)|(go_at_call 187;refine cs (H2 _) ?_))
   go_wp2_with (first|(go_at_call 201;refine cm (HQ _ HB1) λw3 T=>?_))
   go_returns;exact⟨rfl,T⟩
end Go.Proofs.YtblomippkddgiaaGreatDoor
