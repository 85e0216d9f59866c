import Derived.Test.YtblomippkddgiaaGreatDoorJ19
set_option maxRecDepth 100000
set_option maxHeartbeats 4000000
namespace Go.Proofs.YtblomippkddgiaaGreatDoor
open Go.Proofs.Tryz
open Go.RowKit
variable {F:D9}{k:Int}{i:Nat}{p:Pl}{G:R.Wd}{w w':World}
theorem ir{s b:Nat}{f h rt:Int}(g:World->Prop)(s2:EB w s 2 (Z rt))(a9:EB w b 9 (Z f))(a10:EB w b 10 (Z h))(z9:w.frozen? (Y b 9)=false)(ac:w.frozen? (Y b 10)=false)(y:¬s=b)(ab:1<=f/\f<=8)(aa:0<=h/\h<=6)
  (m:Hid (1<f\/h=0->g (w.setCell (Y b 9) (Z (f-1)))))
  (u:Hid (f=1->0<h->D7 123 #[ptr s,ptr b] (((w.setCell (Y b 9) (Z (f-1))).setCell (Y b 10) (Z (h-1))).setCell (Y b 9) (Z rt)) Ep λw'=>g w')):
  D7 72 #[ptr s,ptr b] w Ep λw'=>g w':=by
 have e1:IntKind.i64.wrap (f-1)=f-1:=Iz;have e2:IntKind.i64.wrap (h-1)=h-1:=Iz;have M:¬b=s:=λe=>y e.symm
 have⟨T,X⟩:=KM s2 a9;by_cases O:1<f
 ·have q1:0<f-1:=U;have HP:=Dx (m (Aj O));clear m u;go_enter func72,ntmps72;exact wC
 ·have j:f=1:=U;by_cases D:h=0
  ·have HP:=Dx (m (Am D));clear m u;subst j D;go_enter func72,ntmps72;exact wC
  ·have Q:0<h:=U;have HP:=Dx (u j Q);clear m u;subst j;go_enter func72,ntmps72;go_wp2;refine KJ 0 rfl ?_;go_wp2
   go_step3
   refine⟨rfl,?_⟩;show Code.wp prog _ _ _ _;go_wp2_with (first|(go_at_call 123;refine cm HP λw3 B=>?_))
   refine RN ?_;go_wp2;go_returns;exact⟨rfl,B⟩
theorem LW.afW(h:LW p F G w){r:R.Sn}{y:PR}(f:Yd p G w i r y)(u:r.E1=true):
  D7 72 #[ptr p.s,ptr (p.t.ql i)] w Ep λw'=>∃O,LW p O (R.EH G i) w'/\D8 F O w w':=by
 have g:=h.GQ.sn i r f.DN;have⟨X,t3,t4⟩:=g.E1 u;have hrel:=f.rel;have ew:y.El=r.El:=by rw[hrel.El,Ay u]
 have et:=hrel.DW u;have T:=h.wf.cf;unfold R.GA at T;have⟨_,_,_,_,_,_,_,_,_,c9,B⟩:=X8 f.blk;rw[ew]at c9;rw[et]at B;have z:∀{r':R.Sn},r'.D4=r.D4->(r'.D4=0->r'=R.Ic):=λe q=>absurd (e ▸ q) f.ne
 have m:R.EH G i=if 1<r.El then R.EA G i {r with El:=r.El-1} else if r.DW=0 then R.EA G i {r with El:=r.El-1,E1:=false} else R.Ex (R.EA G i {r with El:=G.c.Ew,DW:=r.DW-1}) i:=by
  unfold R.EH;simp only;rw[R.F7 f.DN,Ao (by simp[u])]
 rw[m];refine ir _ (h.Hd.cell 2 _ rfl) c9 B (Eb f.blk) (Eb f.blk) (h.aa6 f) t3 t4 ?_ ?_
 ·intro hx;by_cases Q:1<r.El
  ·rw[Ay Q];have⟨D,_,M⟩:=h.Oy (r':={r with El:=r.El-1}) (y':={y with El:=r.El-1}) f f.ne (Eg _) (Kj (j:=9) (v:=Z (r.El-1)) f.blk rfl) ⟨hrel.DJ,hrel.DR,hrel.DZ,hrel.D4,hrel.D5,hrel.DK,hrel.Gn,hrel.MY,by simp[u],hrel.DW⟩ ⟨z rfl,g.D4,g.some,g.Lu,g.El,g.MY,λ_=>⟨X,by simp only;omega,t4⟩⟩;exact⟨F,D,M⟩
  ·have h2:r.DW=0:=U;rw[Ao Q,Ay h2];have⟨D,_,M⟩:=h.Oy (r':={r with El:=r.El-1,E1:=false}) (y':={y with El:=r.El-1}) f f.ne (Eg _) (Kj (j:=9) (v:=Z (r.El-1)) f.blk rfl) ⟨hrel.DJ,hrel.DR,hrel.DZ,hrel.D4,hrel.D5,hrel.DK,hrel.Gn,hrel.MY,by simp only[Ao (show ¬(false:Bool)=true by decide)];omega,Ev⟩ ⟨z rfl,g.D4,g.some,g.Lu,g.El,g.MY,Ev⟩;exact⟨F,D,M⟩
 ·intro Q h2;rw[Ao U,Ao U];have⟨D,q0,M⟩:=h.Oy (r':={r with El:=G.c.Ew,DW:=r.DW-1}) (y':={y with El:=G.c.Ew,DW:=r.DW-1}) f f.ne (((Eg _).trans (Eg _)).trans (Eg _)) (Kj (j:=9) (v:=Z G.c.Ew) (y:={y with El:=r.El-1,DW:=r.DW-1}) (Kj (j:=10) (v:=Z (r.DW-1)) (y:={y with El:=r.El-1}) (Kj (j:=9) (v:=Z (r.El-1)) f.blk rfl) rfl) rfl) ⟨hrel.DJ,hrel.DR,hrel.DZ,hrel.D4,hrel.D5,hrel.DK,hrel.Gn,hrel.MY,by simp[u],Ev⟩ ⟨z rfl,g.D4,g.some,g.Lu,g.El,g.MY,λ_=>⟨X,by simp only;omega,by simp only;omega⟩⟩;refine cm (D.UJ q0 X) ?_;rintro w' ⟨O,g1,g2⟩;exact⟨rfl,O,g1,M.trans g2⟩
theorem ik(w:Aa)(s n:Nat)(bs:Nat->Nat)(J:Value->Nat->World->Prop)(hn:n<=9)
  (j:Hid (ET 71 #[ptr s] w λe w'=>∃O,e=.returned O/\J O 0 w'))
  (T:Hid (∀O k wr,J O k wr->∃a c,O=.slice a n c))
  (Q:Hid (∀O k wr,k<n->J O k wr->∃g c,O=EJ g n c/\EB wr g k (ptr (bs k))/\∃x,wr.cell? ⟨bs k,9,none⟩=some (Z x)/\(0<x->D7 72 #[ptr s,ptr (bs k)] wr Ep λw'=>J O (k+1) w')/\(¬0<x->J O (k+1) wr))):
  D7 37 #[ptr s] w Ep λw'=>∃O,J O n w':=by
 go_enter func37,ntmps37;go_wp2_with fail
 refine j.mono ?_;rintro e w1 ⟨O,rfl,hJ⟩;have⟨a,c,m⟩:=T O 0 w1 hJ;subst m;have B:=Dx hJ;clear hJ;go_wp2;go_loopw [7] (λiv wr=>∃k:Nat,k<=n/\iv=Z k/\J (.slice a n c) k wr) (λiv _=>n-(intOf iv).toNat)
 case atStart=>exact⟨0,AV _,rfl,B⟩
 case round=>
  obtain⟨k,hk,rfl,hJ⟩:=hrel;by_cases y:k<n
  ·have⟨g,c',m,u,x,hx,f,h⟩:=Q _ k wr y hJ;cases m;have⟨X,M⟩:=FU f h;clear f h hJ;by_cases h1:0<x
   ·have D:=Dx (X h1);go_wp2_with (first|(go_at_call 72;refine cm D λw3 hw3=>?_))
    exact aaM
   ·have HI:=Dx (M U);exact aaK
  exact ab7
def Jo(G:R.Wd)(i n:Nat):R.Wd:=(List.range n).foldl (λ(G:R.Wd) (k:Nat)=>R.EM G (i:Int) (k:Int)) G
theorem Me(G:R.Wd)(i n:Nat):Jo G i (n+1)=R.EM (Jo G i n) i n:=by
 simp[Jo,List.range_succ]
theorem aaj(G:R.Wd)(to:Int)(p:Pk):(R.E9 G to p).c=G.c:=by unfold R.E9;split<;>rfl
theorem K7(G:R.Wd)(to:Int)(p:Pk):(R.E9 G to p).DI=G.DI:=by unfold R.E9;split<;>rfl
theorem iy(G:R.Wd)(i k:Nat):(R.EM G i k).c=G.c:=by
 unfold R.EM R.EG R.Lq;simp only;repeat' split
 all_goals first|rfl|(rw[aaj];rfl)
theorem Qz(G:R.Wd)(i n:Nat):(Jo G i n).c=G.c:=by
 induction n with
 |zero=>rfl
 |succ n ih=>rw[Me,iy,ih]
theorem Po{k:Nat}{l:R.Ln}(hl:R.Ia G i k=l)(h:¬l.DK=1):R.EM G i k=G:=by grind [R.EM]
def II(G:R.Wd)(n:Nat):R.Wd:=(List.range n).foldl (λ(G:R.Wd) (i:Nat)=>YtblomippkddgiaaGreatDoor.Jo G i G.c.DV.toNat) G
theorem NJ(G:R.Wd)(n:Nat):II G (n+1)=YtblomippkddgiaaGreatDoor.Jo (II G n) n (II G n).c.DV.toNat:=by
 simp[II,List.range_succ]
theorem Te(G:R.Wd)(n:Nat):(II G n).c=G.c:=by
 induction n with
 |zero=>rfl
 |succ n ih=>rw[NJ,Qz,ih]
theorem X0(G:R.Wd):R.Nh G=II G G.DI.length:=rfl
theorem XZ(G:R.Wd)(i k:Nat):(R.EM G i k).DI.length=G.DI.length:=by grind [R.EM,R.EG,R.Lq,K7,R.Eh]
theorem Rn(G:R.Wd)(i n:Nat):(Jo G i n).DI.length=G.DI.length:=by
 induction n with
 |zero=>rfl
 |succ n ih=>rw[Me,XZ,ih]
theorem Wt(G:R.Wd)(n:Nat):(II G n).DI.length=G.DI.length:=by
 induction n with
 |zero=>rfl
 |succ n ih=>rw[NJ,Rn,ih]
theorem o9(w:Aa)(cb lb e:Nat)(I:Nat->World->Prop)(j:I 0 w)(hc:Hid (∀k wr,I k wr->EB wr cb 3 (EJ lb e e)))
  (O:Hid (∀k wr,k<e->I k wr->∃st,EB wr lb (k*10) (Z st)/\(st=1->D7 70 #[ptr cb,Z k] wr Ep λw'=>I (k+1) w')/\(¬st=1->I (k+1) wr))) (hn:e<=1000):
  D7 36 #[ptr cb] w Ep λw'=>I e w':=by
 have T:=hc 0 w j;have y:=Dx j;clear j;go_enter func36,ntmps36;go_wp2;go_loopw [8] (λiv wr=>∃k:Nat,k<=e/\iv=Z k/\I k wr) (λiv _=>e-(intOf iv).toNat)
 case atStart=>exact⟨0,AV _,rfl,y⟩
 case round=>
  obtain⟨k,hk,rfl,m⟩:=hrel;have d3:=hc k wr m;by_cases u:k<e
  ·have⟨st,Q,f,g⟩:=O k wr u m;have⟨M,D⟩:=FU f g;clear f g;by_cases h:st=1
   ·have B:=Dx (M h);subst h;go_wp2_with (first|(go_at_call 70;refine cm B λX hw3=>?_))
    exact aaM
   ·have e1:(st==1)=false:=by simpa using h
    have HI:=Dx (D h);exact aaK
  ·obtain rfl:k=e:=U;go_wp2;go_returns;exact⟨rfl,m⟩
theorem iB(w:Aa)(x sv cs n cap:Nat)(cb:Nat->Nat)(I:Nat->World->Prop)(e:World->Prop)(j:I 0 w)(M:EB w x 2 (EJ cs n cap))
  (y:Hid (∀i wr,i<n->I i wr->EB wr cs i (ptr (cb i))/\D7 36 #[ptr (cb i)] wr Ep λw'=>I (i+1) w')) (hn:n<=1000)
  (B:Hid (∀wr,I n wr->EB wr x 1 (ptr sv)/\D7 37 #[ptr sv] wr Ep λw'=>e w')):
  D7 15 #[ptr x] w Ep λw'=>e w':=by
 have u:=Dx j;clear j;go_enter func15,ntmps15;go_wp2;go_loopw [9] (λiv wr=>∃k:Nat,k<=n/\iv=Z k/\I k wr) (λiv _=>n-(intOf iv).toNat)
 case atStart=>exact⟨0,AV _,rfl,u⟩
 case round=>
  obtain⟨k,hk,rfl,m⟩:=hrel;by_cases g:k<n
  ·have⟨h,hC⟩:=y k wr g m;have f:=Dx hC;clear hC;go_wp2_with (first|(go_at_call 36;refine cm f λD hw3=>?_))
   exact aaM
  ·obtain rfl:k=n:=U;have⟨h,hC⟩:=B wr m;have f:=Dx hC;clear hC;go_wp2_with (first|(go_at_call 37;refine cm f λD hw3=>?_))
   go_returns;exact⟨rfl,hw3⟩
theorem LW.Jo(h:LW p F G w)(hi:i<G.DI.length):
  D7 36 #[ptr (p.cb i)] w Ep λw'=>∃f,LW p f (YtblomippkddgiaaGreatDoor.Jo G i G.c.DV.toNat) w'/\D8 F f w w':=by
 have m:∀{f:D9} {n:Nat} {wr:Aa},LW p f (YtblomippkddgiaaGreatDoor.Jo G i n) wr->∃c,(YtblomippkddgiaaGreatDoor.Jo G i n).DI[i]?=some c/\c.DV.length=G.c.DV.toNat:=λ{f n wr} g=>by
  have e1:=g.wf.N5;have e0:=h.wf.N5;rw[Qz,<-e0]at e1;have u:i<(YtblomippkddgiaaGreatDoor.Jo G i n).DI.length:=U;refine⟨_,Ah u,?_⟩;have:=(g.wf.cl i _ (Ah u)).DV;rw[Qz]at this;omega
 have T:∀{f:D9} {n:Nat} {wr:Aa},LW p f (YtblomippkddgiaaGreatDoor.Jo G i n) wr->wr.cell? ⟨p.cb i,3,none⟩=some (.slice (some ⟨p.lb i,0,none⟩) G.c.DV.toNat G.c.DV.toNat):=λ{f n wr} g=>by
  have⟨c,hc,hl⟩:=m g;have:=(P4 g hc).a3;rw[hl]at this;exact this
 have O:=h.wf.cf;unfold R.GA at O;refine o9 w (p.cb i) (p.lb i) G.c.DV.toNat (λn wr=>∃f,LW p f (YtblomippkddgiaaGreatDoor.Jo G i n) wr/\D8 F f w wr) ⟨F,h,D8.refl F w⟩ ?_ ?_ U
 ·rintro k wr ⟨f,g,_⟩;exact T g
 ·rintro k wr hk ⟨f,g,y⟩;have⟨c,hc,hl⟩:=m g;have j:c.DV[k]?=some (c.DV[k]'U):=Ah U;have⟨xs,x,hL,hR,hx,B,Q,_⟩:=g.DZ hc j;refine⟨x.DK,Q.a0,λM=>?_,λM=>?_⟩
  ·refine(g.El hc j (by rw[<-B.DK];exact M)).mono ?_;rintro e w' ⟨rfl,D,X,q2⟩;exact⟨rfl,D,by rw[Me];exact X,y.trans q2⟩
  ·refine⟨f,?_,y⟩;rw[Me,Po (R.FH hc j) (by rw[<-B.DK];exact M)];exact g
def Vk(DN:List R.Sn)(i:Nat):Bool:=decide (((DN[i]?).getD R.Ic).D4≠0)
def idx(DN:List R.Sn):List Nat:=(List.range 9).filter (Vk DN)
theorem ZO{t:SP}{DN:List R.Sn}{n:Nat}:M9 (qf t DN) n=((List.range n).filter (Vk DN)).map λi=>ptr (t.ql i):=by
 induction n with
 |zero=>rfl
 |succ n ih=>grind [Q7,List.range_succ,qf,Vk]
theorem UB(t:SP)(DN:List R.Sn):M9 (qf t DN) 9=(idx DN).map λi=>ptr (t.ql i):=ZO
theorem VU(DN:List R.Sn):(idx DN).Nodup:=(List.nodup_range).filter _
theorem jH(DN:List R.Sn):(idx DN).length<=9:=by grind [idx]
theorem Rf{j:Nat}(h:i≠j){r:R.Sn}:(R.EA G j r).DN[i]?=G.DN[i]?:=by grind [R.EA]
theorem OD(G:R.Wd)(j:Nat):(R.EH G j).DX=G.DX/\(R.EH G j).c=G.c/\∀i,i≠j->(R.EH G j).DN[i]?=G.DN[i]?:=by
 unfold R.EH;simp only;repeat' split
 ·grind
 ·exact⟨rfl,rfl,λi hi=>Rf hi⟩
 ·exact⟨rfl,rfl,λi hi=>Rf hi⟩
 ·exact⟨by rw[IX];rfl,by rw[Qu];rfl,λi hi=>by rw[NS];exact Rf hi⟩
theorem Wu:∀(l:List Nat) (G:R.Wd),(l.foldl R.EH G).DX=G.DX/\(l.foldl R.EH G).c=G.c/\∀i,i ∉ l->(l.foldl R.EH G).DN[i]?=G.DN[i]?
 |[],G=>⟨rfl,rfl,λ_ _=>rfl⟩
 |j :: l,G=>by
  have⟨a1,a2,a3⟩:=Wu l (R.EH G j);have⟨e,f,g⟩:=OD G j;rw[C9];refine⟨a1.trans e,a2.trans f,λi hi=>?_⟩;simp only[CX,not_or]at hi;exact(a3 i hi.2).trans (g i hi.1)
theorem Ro{DN:List R.Sn}(hz:∀(i:Nat) (r:R.Sn),DN[i]?=some r->r.D4=0->r=R.Ic):∀(l:List Nat) (G:R.Wd),l.Nodup->(∀i∈l,G.DN[i]?=DN[i]?)->l.foldl R.EH G=(l.filter (Vk DN)).foldl R.EH G
 |[],G,_,_=>rfl
 |j :: l,G,hn,hs=>by
  rw[List.nodup_cons]at hn;rw[C9,List.filter_cons];by_cases h:Vk DN j=true
  ·rw[Ay h,C9];refine Ro hz l (R.EH G j) hn.2 (λi hi=>?_);rw[(OD G j).2.2 i (λe=>hn.1 (e ▸ hi))];exact hs i (BQ _ hi)
  ·rw[Ao h];have f:R.EZ G j=R.Ic:=by
    unfold R.EZ;rw[hs j Co];have h:((DN[j]?).getD R.Ic).D4=0:=by simpa [Vk] using h
    cases hr:DN[j]? with
    |none=>rfl
    |some r=>
     rw[hr]at h;rw[hz j r hr (by simpa using h)];rfl
   have e:R.EH G j=G:=by
    unfold R.EH;simp only;rw[f,Ay (show R.Ic.E1=false from rfl)]
   rw[e];exact Ro hz l G hn.2 (λi hi=>hs i (BQ _ hi))
theorem PE{α β:Type}(f:α->β->α)(a:α)(l:List β)(k:Nat)(x:β)(h:l[k]?=some x):(l.take (k+1)).foldl f a=f ((l.take k).foldl f a) x:=by
 rw[Bh,h];simp
theorem LW.NT(h:LW p F G w):
  D7 37 #[ptr p.s] w Ep λw'=>∃u,LW p u ((List.range 9).foldl R.EH G) w'/\D8 F u w w':=by
 have D:(List.range 9).foldl R.EH G=(idx G.DN).foldl R.EH G:=Ro (DN:=G.DN) (λi r hr h0=>(h.GQ.sn i r hr).zero h0) (List.range 9) G List.nodup_range (λ_ _=>rfl);try dsimp only[EB,Kk,DY]at *
 rw[D];have T:=jH G.DN;refine(ik w p.s (idx G.DN).length (λk=>p.t.ql ((idx G.DN).getD k 0)) (λO k wr=>∃u,LW p u (((idx G.DN).take k).foldl R.EH G) wr/\D8 F u w wr/\wr.ownsRow w.heap.size 143 1 O (idx G.DN).length ((idx G.DN).map λi=>ptr (p.t.ql i))/\∀j,O.ownBlock=some j->¬u j) T ?_ ?_ ?_).mono ?_
 ·refine h.Hd.rem.mono ?_;rintro e w1 ⟨O,rfl,f,hb⟩;try dsimp only[EB,Kk,DY]at *
  rw[UB,AX]at f;refine⟨O,rfl,F,h.DG hb,D8.D6 F hb,f,λj M hF=>?_⟩;have h1:=((Ba f) j M).1;have h2:=h.lt j hF;omega
 ·rintro O k wr ⟨u,_,_,f,_⟩;exact Fa f
 ·rintro O k wr hk ⟨u,hw,ak,f,Q⟩;have m:(idx G.DN)[k]?=some ((idx G.DN)[k]):=Ah hk;have ae:(idx G.DN).getD k 0=(idx G.DN)[k]:=by rw[Bu,m];rfl
  try dsimp only[EB,Kk,DY]at *
  rw[ae];generalize hi:(idx G.DN)[k]=i at m;have B:i∈idx G.DN:=Ap m;have aq:Vk G.DN i=true:=(Dn.1 B).2;have hi9:i<9:=by simpa using (Dn.1 B).1
  have hr:G.DN[i]?=some (R.EZ G i):=by
   exact acb
  have ah:(R.EZ G i).D4≠0:=by grind [Vk]
  have X:i ∉ (idx G.DN).take k:=λhm=>by
   grind [List.mem_iff_getElem?,List.getElem?_inj,VU]
  have aa:(((idx G.DN).take k).foldl R.EH G).DN[i]?=some (R.EZ G i):=by rw[(Wu _ G).2.2 i X];exact hr
  have⟨y,hq,_⟩:=hw.q aa ah;have⟨_,_,_,_,_,_,_,_,_,c9,_⟩:=X8 hq.blk;have hs:=hw.GQ.sn i _ aa;rcases f.2 with ⟨_,h0⟩|⟨g,cap,ao,rfl,_,hg,_,_,av,aw⟩
  ·omega
  ·refine⟨g,cap,rfl,?_,y.El,c9,λhx=>?_,λhx=>?_⟩
   ·have:((idx G.DN).map λi=>ptr (p.t.ql i))[k]?=some (ptr (p.t.ql i)):=by rw[BP,m];rfl
    grind [World.cell?]
   ·have ht:(R.EZ G i).E1=true:=by
     have:=hq.rel.El
     grind
    refine cm (hw.afW hq ht) ?_;rintro w' ⟨ac,g1,g2⟩;refine⟨rfl,ac,?_,ak.trans g2,g2.E0.row f (λj M=>Q j M),λj M hF=>?_⟩
    ·grind [PE]
    ·have ar:=((Ba f) j M).2;rcases g2.fresh j hF with q|q
     ·exact Q j M q
     ·omega
   ·have ht:(R.EZ G i).E1=false:=by
     have:=hq.rel.El;cases e:(R.EZ G i).E1 with
     |false=>rfl
     |true=>
      try dsimp only[EB,Kk,DY]at *
      rw[e]at this;have:=(hs.E1 e).2.1;simp at *;omega
    grind [PE,R.EH,R.F7]
 grind
theorem LW.tick(h:LW p F G w):
  D7 15 #[ptr p.x] w Ep λw'=>∃e,LW p e (R.Ni G) w'/\D8 F e w w':=by
 unfold R.Ni;try dsimp only[EB,Kk,DY]at *
 rw[X0];have u:=h.wf.cf;have e0:=h.wf.N5;unfold R.GA at u;refine iB w p.x p.s p.cs G.DI.length p.cap p.cb (λn wr=>∃e,LW p e (II G n) wr/\D8 F e w wr) _ ⟨F,h,D8.refl F w⟩ (EI h.bx 2) ?_ U ?_
 ·rintro i wr hi ⟨e,j,g⟩;have e1:=j.wf.N5;try dsimp only[EB,Kk,DY]at *
  rw[Te,<-e0]at e1;have m:i<(II G i).DI.length:=U;have⟨D,M,O⟩:=j.bcs;refine⟨by simp[World.cell?,M,O i m],?_⟩;refine cm (j.Jo m) ?_;rintro w' ⟨f,y,B⟩;try dsimp only[EB,Kk,DY]at *
  exact⟨rfl,f,by rw[NJ];exact y,g.trans B⟩
 ·rintro wr ⟨e,j,g⟩;refine⟨EI j.bx 1,?_⟩;refine cm j.NT ?_;rintro w' ⟨f,y,B⟩;exact⟨rfl,f,y,g.trans B⟩
def JI(w:Aa):Prop:=∃tt fr,w.heap[0]?=some (.cells Ix tt fr)
theorem JI.DG(h:JI w)(e:DY w w'):JI w':=by grind [JI,aeL]
theorem JI.E0(h:JI w)(hk:DF F w w')(e:¬F 0):JI w':=by grind [JI,DF]
theorem Ng{p:Int}{f t:Ab}(h:R.IY k p=some (f,t)):J5 k p=.tuple #[.string f,.string t,Z 0]/\(V.Pt.O7 (V.nx f) f.size).1=0/\(V.Pt.O7 (V.nx t) t.size).1=0/\(p=0\/p=1)/\(0<=k/\k<=2):=by
 unfold R.IY at h;split at h
 ·rename_i q;obtain⟨rfl,rfl⟩:=q;cases h;exact⟨rfl,Kx,Kx,U,U⟩
 ·split at h
  ·rename_i q;obtain⟨rfl,rfl⟩:=q;cases h;exact⟨rfl,Kx,Kx,U,U⟩
  ·split at h
   ·rename_i q;obtain⟨rfl,rfl⟩:=q;cases h;exact⟨rfl,Kx,Kx,U,U⟩
   ·split at h
    ·rename_i q;obtain⟨rfl,rfl⟩:=q;cases h;exact⟨rfl,Kx,Kx,U,U⟩
    ·split at h
     ·rename_i q;obtain⟨rfl,rfl⟩:=q;cases h;exact⟨rfl,Kx,Kx,U,U⟩
     ·cases h
theorem vL{p:Int}(hk:0<=k/\k<=2)(h:R.IY k p=none):J5 k p=.tuple #[.string ⟨#[]⟩,.string ⟨#[]⟩,Z 16]:=by
 obtain rfl|rfl|rfl:k=0\/k=1\/k=2:=U;all_goals grind [R.IY,xC,xD,xE]
theorem iH{p:Int}(hk:0<=k/\k<=2)(h:R.IY k p=none)(M:JI w):ET 185 #[Z k,Z p] w λe w'=>e=EQ 16 0/\DY w w':=by
 have u:Hid (∀w',DY w w'->D7 75 #[Z k,Z p] w' (.tuple #[.string ⟨#[]⟩,.string ⟨#[]⟩,Z 16]) λg=>DY w' g):=λw' B=>by
  obtain⟨O,y,D⟩:=M.DG B;refine cm (XR y D) λg q=>?_
  exact⟨by rw[vL hk h],q⟩
 have j:Hid (DY w ((w.alloc (.cells #[.int .u8 0,Z 0,.slice none 0 0] 153)).alloc (.cells #[.int .u8 0,Z 0,.slice none 0 0] 153))):=F9.alloc Ev _;go_enter func185,ntmps185;go_wp2_with fail
 refine cm (u _ j) λQ f=>?_
 have m:=Dx (j.trans (f.mono j.size));clear f;go_wp2;exact⟨rfl,rfl,m⟩
theorem NK(k p:Int)(f t:Ab)(h:R.IY k p=some (f,t))(w:Aa)(ht:JI w):ET 185 #[Z k,Z p] w λe w'=>(∃a0 a1 a2 b0 b1 b2,e=.returned (.tuple #[.agg #[a0,a1,a2],.agg #[b0,b1,b2]])/\(∃S,V.NP w' S (V.nx f) (f.size+1) 0 a0 a1 a2)/\(∃S,V.NP w' S (V.nx t) (t.size+1) 0 b0 b1 b2))/\DY w w':=by
 obtain⟨hs,hf,aN,_,_⟩:=Ng h;have HS:Hid (∀w',DY w w'->D7 75 #[Z k,Z p] w' (.tuple #[.string f,.string t,Z 0]) λm=>DY w' m):=λw' hb=>by
  obtain⟨tt,fr,hg⟩:=ht.DG hb;refine cm (XR fr hg) λm q=>?_
  exact⟨by rw[hs],q⟩
 have HR:Hid (∀T w',(V.Pt.O7 (V.nx T) T.size).1=0->ET 78 #[.string T] w' λe m=>∃c0 c1 c2,e=.returned (.agg #[c0,c1,c2])/\V.NP m (λk=>w'.heap.size<=k) (V.nx T) (T.size+1) 0 c0 c1 c2/\DY w' m):=λT w' hT=>by
  refine(V.oJ hT).mono ?_;rintro e m ⟨⟨c0,c1,c2,rfl,h3⟩,h2⟩;exact⟨c0,c1,c2,rfl,h3,h2⟩
 have HB:Hid (DY w ((w.alloc (.cells #[.int .u8 0,Z 0,.slice none 0 0] 153)).alloc (.cells #[.int .u8 0,Z 0,.slice none 0 0] 153))):=F9.alloc Ev _;have an:Hid (((w.alloc (.cells #[.int .u8 0,Z 0,.slice none 0 0] 153)).alloc (.cells #[.int .u8 0,Z 0,.slice none 0 0] 153)).heap[w.heap.size]?=some (.cells #[.int .u8 0,Z 0,.slice none 0 0] 153 (0,0))):=(AL _ _ _ Ev).trans (AF w _);have ao:Hid (((w.alloc (.cells #[.int .u8 0,Z 0,.slice none 0 0] 153)).alloc (.cells #[.int .u8 0,Z 0,.slice none 0 0] 153)).heap[w.heap.size+1]?=some (.cells #[.int .u8 0,Z 0,.slice none 0 0] 153 (0,0))):=by
  show _=_;have:=AF (w.alloc (.cells #[.int .u8 0,Z 0,.slice none 0 0] 153)) (.cells #[.int .u8 0,Z 0,.slice none 0 0] 153);simpa using this
 have aa:Hid (((w.alloc (.cells #[.int .u8 0,Z 0,.slice none 0 0] 153)).alloc (.cells #[.int .u8 0,Z 0,.slice none 0 0] 153)).heap.size=w.heap.size+2):=by show _=_;simp
 go_enter func185,ntmps185;go_wp2_with fail
 refine cm (HS _ HB) λw1 ah=>?_
 obtain⟨ab,u⟩:=FU (HR f w1 hf) ah;clear ah;go_wp2_with fail
 refine ab.mono ?_;rintro e w2 ⟨a0,a1,a2,rfl,ad,ak⟩;obtain⟨ac,Q,y⟩:=Ll (HR t w2 aN) ad ak;clear ak ad;go_wp2_with fail
 refine ac.mono ?_;rintro e O ⟨b0,b1,b2,rfl,X,B⟩;obtain⟨⟨x0,rfl⟩,⟨x1,rfl⟩,⟨ea,en,ec,rfl⟩⟩:=V.GN (Dw Q);obtain⟨⟨y0,rfl⟩,⟨y1,rfl⟩,⟨fa,fn,fc,rfl⟩⟩:=V.GN X;have al:=u.size;have az:=y.size;rw[Dw aa]at al;have M:=y.trans (B.mono y.size);have g:=u.trans (M.mono u.size);rw[Dw aa]at g;have k0:=(g.block w.heap.size U).trans (Dw an);have k1:=(g.block (w.heap.size+1) U).trans (Dw ao);obtain⟨p0,p1,p2⟩:=TH k0 0 1 2;obtain⟨q0,q1,q2⟩:=TH k1 0 1 2;have u0:∀j,O.frozen? (EN w j)=false:=λj=>Eb k0
 have u1:∀j,O.frozen? ⟨w.heap.size+1,j,none⟩=false:=λj=>Eb k1
 have am:=B.size;have D:Hid (∀W:World,DF (λk=>k=w.heap.size\/k=w.heap.size+1) O W->(∃S,V.NP W S (V.nx f) (f.size+1) 0 (.int .u8 x0) (Z x1) (.slice ea en ec))/\(∃S,V.NP W S (V.nx t) (t.size+1) 0 (.int .u8 y0) (Z y1) (.slice fa fn fc))/\DY w W):=λW hk=>by
  refine⟨⟨_,V.GM ⟨Br am hk.size,λk hS hl=>?_⟩ (Dw Q)⟩,⟨_,V.GM ⟨hk.size,λk hS hl=>?_⟩ X⟩,?_⟩
  ·have hS:=hS;rw[hk.block k U U];exact B.block k hl
  ·have hS:=hS;exact hk.block k hl U
  ·exact(HB.trans (g.mono U)).trans (hk.DG U (λk e=>by omega))
 have l0:w.heap.size<O.heap.size:=U;have l1:w.heap.size+1<O.heap.size:=U;clear X B M g k0 k1 Q u y ab ac HR HS HB an ao aa al az am;go_wp2;have hK:DF (λk=>k=w.heap.size\/k=w.heap.size+1) O ((((((O.setCell (EN w 0) (.int .u8 x0)).setCell (EN w 1) (Z x1)).setCell (EN w 2) (.slice ea en ec)).setCell ⟨w.heap.size+1,0,none⟩ (.int .u8 y0)).setCell ⟨w.heap.size+1,1,none⟩ (Z y1)).setCell ⟨w.heap.size+1,2,none⟩ (.slice fa fn fc)):=
  ((((((DF.refl _ O).setCell (p:=EN w 0) (Aj (Aj rfl)) _).setCell (p:=EN w 1) (Aj (Aj rfl)) _).setCell (p:=EN w 2) (Aj (Aj rfl)) _).setCell (p:=⟨w.heap.size+1,0,none⟩) (Aj (Am rfl)) _).setCell (p:=⟨w.heap.size+1,1,none⟩) (Aj (Am rfl)) _).setCell (p:=⟨w.heap.size+1,2,none⟩) (Aj (Am rfl)) _
 obtain⟨r1,r2,r3⟩:=D _ hK;refine⟨rfl,.tuple #[.agg #[.int .u8 x0,Z x1,.slice ea en ec],.agg #[.int .u8 y0,Z y1,.slice fa fn fc]],?_,⟨_,_,_,_,_,_,rfl,r1,r2⟩,r3⟩;clear r1 r2 r3 hK D;simp[results,results185,go_sem,p0,p1,p2,q0,q1,q2]
theorem Na{S:Nat->Prop}{g:Nat->Nat}{f p:Nat}{c0 c1 c2:Ad}(h:V.NP w S g f p c0 c1 c2)(e:DY w w'):V.NP w' S g f p c0 c1 c2:=V.GM ⟨e.size,λk _ hl=>e.block k hl⟩ h
def PQ(T:Ab)(v:List V.It)(w:Aa)(e:Ending)(w':Aa):Prop:=
 (((V.Jk T v).1=0/\e=.returned (.string (str (V.Jk T v).2)))\/(¬(V.Jk T v).1=0/\e=EQ (V.Jk T v).1 0))/\Below w.heap.size w w'
theorem U4(T:Ab)(j:(V.Pt.O7 (V.nx T) T.size).1=0)(S:Nat->Prop)(c0 c1 c2 X:Ad)(v:List V.It)(w:Aa)(h:V.NP w S (V.nx T) (T.size+1) 0 c0 c1 c2)(g:V.Ff w X v)(hn:v.length<=9000000000000):ET 77 #[.agg #[c0,c1,c2],X] w (PQ T v w):=by
 have f:=V.Nw j;refine(V.Ru T S c0 c1 c2 X v w h f.ok f.Lj g hn).mono ?_;rintro e m ⟨u,y⟩
 grind [PQ,V.Jk,V.i7]
theorem tj(T:Ab)(v:List V.It):(V.Jk T v).2.length<=70:=by
 unfold V.Jk V.Sw
 grind
def jQ(Eo:Int)(T:Ab)(v:List V.It)(w:Aa)(e:Ending)(w':Aa):Prop:=
 (((V.Jk T v).1=0/\e=.returned (.string (str (EU Eo++(V.Jk T v).2))))\/(¬(V.Jk T v).1=0/\e=EQ (V.Jk T v).1 0))/\Below w.heap.size w w'
theorem U7(k p:Int)(hk:0<=k/\k<=2)(h:R.IY k p=none)(X:Ad)(w:Aa)(j:JI w):ET 109 #[Z k,Z p,X] w λe w'=>e=EQ 16 0/\DY w w':=by
 have g:=Dx (iH hk h j);go_enter func109,ntmps109;go_wp2_with fail
 refine cm g λm f=>?_
 go_wp2;exact⟨rfl,rfl,f⟩
theorem aaT(Eo:Int)(l:Ac)(hl:l.length<=1000)(w:Aa):(Op.stringOp .add (str (EU Eo)) (str l)).run prog w=.ok (.string (str (EU Eo++l))) w:=by
 have e1:str (EU Eo)++str l=str (EU Eo++l):=by
  apply CJ;simp
 rw[<-e1];exact C6 w _ _ (by rw[Er,Er];simp[EU];omega)
abbrev N2(x0 x1:Int)(a:Af)(n c:Nat):Obj:=.cells #[.int .u8 x0,Z x1,.slice a n c] 153
theorem OH(k p:Int)(f t:Ab)(h:R.IY k p=some (f,t))(X:Ad)(v:List V.It)(w:Aa)(ht:JI w)(hI:V.Ff w X v)(hn:v.length<=9000000000000):ET 109 #[Z k,Z p,X] w (jQ p f v w):=by
 obtain⟨_,hf,_,hp,_⟩:=Ng h;have HS:=Dx (NK k p f t h w ht);have HA:Hid (∀w',ET 186 #[.slice none 0 0,Z p] w' λe Q=>∃O,e=.returned O/\Own Q w'.heap.size O (EU p)/\DY w' Q):=λw'=>by
  refine(MH w'.heap.size (.slice none 0 0) [] p w' (AZ _ _ _ _) (Ar _) Ev U).mono ?_;rintro e Q ⟨O,rfl,g,hb⟩;exact⟨O,rfl,by simpa using g,hb⟩
 have HW:Hid (∀w' c0 c1 c2 S,V.NP w' S (V.nx f) (f.size+1) 0 c0 c1 c2->DY w w'->ET 77 #[.agg #[c0,c1,c2],X] w' (PQ f v w')):=λw' c0 c1 c2 S hR hb=>U4 f hf S c0 c1 c2 X v w' hR (hI.DG hb) hn
 have aN:=tj f v;have ac:=Dx (aaT p (V.Jk f v).2 U);unfold jQ;unfold PQ at HW;generalize V.Jk f v=r at *;clear hI hn ht;go_enter func109,ntmps109;go_wp2_with fail
 refine HS.mono ?_;rintro e T ⟨⟨a0,a1,a2,b0,b1,b2,rfl,⟨S1,M⟩,⟨S2,ae⟩⟩,m⟩;obtain⟨⟨x0,rfl⟩,⟨x1,rfl⟩,⟨ea,en,ec,rfl⟩⟩:=V.GN M;obtain⟨⟨y0,rfl⟩,⟨y1,rfl⟩,⟨fa,fn,fc,rfl⟩⟩:=V.GN ae;have B:Hid (DY w ((T.alloc (N2 x0 x1 ea en ec)).alloc (N2 y0 y1 fa fn fc))):=(m.alloc m.size _).alloc (by have:=m.size;simp;omega) _;have aa:Hid (DY T ((T.alloc (N2 x0 x1 ea en ec)).alloc (N2 y0 y1 fa fn fc))):=F9.alloc Ev _;have ab:=Dx (Na M aa);have HE:Hid (((T.alloc (N2 x0 x1 ea en ec)).alloc (N2 y0 y1 fa fn fc)).heap[T.heap.size]?=some (.cells #[.int .u8 x0,Z x1,.slice ea en ec] 153 (0,0))):=(AL _ _ _ Ev).trans (AF T _);clear M ae m HS;go_wp2_with fail
 refine(HA _).mono ?_;rintro e w2 ⟨O,rfl,g,u⟩;obtain⟨oa,on,oc,hO⟩:=Ei g;subst hO;have aS:=g.conv;obtain⟨j,ak⟩:=FU (B.trans (u.mono B.size)) (Na ab u);have hk:=(u.block T.heap.size Fy).trans (Dw HE);obtain⟨p0,p1,p2⟩:=TH hk 0 1 2;have aV:=Dv hk;have HC:=Dx (HW w2 _ _ _ _ ak j);clear g u hk HE ab B aa;generalize str (EU p)=S2' at *;go_wp2_with fail
 refine HC.mono ?_;rintro e w3 ⟨⟨h0,rfl⟩|⟨h0,rfl⟩,y⟩
 ·have D:=Dx (j.trans (y.mono j.size));have av:=ac w3;clear y;have H0:=Dx h0;clear h0;go_wp2;go_returns;exact⟨Aj ⟨Dw H0,rfl⟩,D⟩
 ·have D:=Dx (j.trans (y.mono j.size));have H0:=Dx h0;clear h0 y;go_wp2;exact⟨rfl,Am ⟨Dw H0,rfl⟩,D⟩
theorem Rt(k p:Int)(f t:Ab)(h:R.IY k p=some (f,t))(X:Ad)(v:List V.It)(w:Aa)(ht:JI w)(hI:V.Ff w X v)(hn:v.length<=9000000000000):ET 136 #[Z k,Z p,X] w (PQ t v w):=by
 have⟨_,_,aa,_,_⟩:=Ng h;have HS:=Dx (NK k p f t h w ht);have HW:Hid (∀w' c0 c1 c2 S,V.NP w' S (V.nx t) (t.size+1) 0 c0 c1 c2->Below w.heap.size w w'->ET 77 #[.agg #[c0,c1,c2],X] w' (PQ t v w')):=λw' c0 c1 c2 S hR hb=>U4 t aa S c0 c1 c2 X v w' hR (hI.DG hb) hn
 unfold PQ at HW ⊢;generalize V.Jk t v=r at *;clear hI hn ht;go_enter func136,ntmps136;go_wp2_with fail
 refine(Dw HS).mono ?_;rintro e O ⟨⟨a0,a1,a2,b0,b1,b2,rfl,⟨S1,M⟩,⟨S2,y⟩⟩,j⟩;obtain⟨⟨x0,rfl⟩,⟨x1,rfl⟩,⟨ea,en,ec,rfl⟩⟩:=V.GN M;obtain⟨⟨y0,rfl⟩,⟨y1,rfl⟩,⟨fa,fn,fc,rfl⟩⟩:=V.GN y;have g:Hid (Below w.heap.size w ((O.alloc (N2 x0 x1 ea en ec)).alloc (N2 y0 y1 fa fn fc))):=(j.alloc j.size _).alloc (by have:=j.size;simp;omega) _;have B:Hid (Below O.heap.size O ((O.alloc (N2 x0 x1 ea en ec)).alloc (N2 y0 y1 fa fn fc))):=((AA _ _).alloc (Ar _) _).alloc Ev _;have T:=Dx (Na y (Dw B));have HC:=Dx ((Dw HW) _ _ _ _ _ (Dw T) (Dw g));clear M y j HS B;go_wp2_with fail
 refine(Dw HC).mono ?_;rintro e w3 ⟨⟨D,rfl⟩|⟨D,rfl⟩,m⟩
 ·have u:=Dx ((Dw g).trans (m.mono (Dw g).size));clear m;have Q:=Dx D;clear D;go_wp2;go_returns;exact⟨Aj ⟨Dw Q,rfl⟩,Dw u⟩
 ·have u:=Dx ((Dw g).trans (m.mono (Dw g).size));have Q:=Dx D;clear D m;go_wp2;exact⟨rfl,Am ⟨Dw Q,rfl⟩,Dw u⟩
theorem aW(T:Ab)(h:(V.Pt.O7 (V.nx T) T.size).1=0)(S:Nat->Prop)(c0 c1 c2:Ad)(l:Ac)(v:List V.It)(hu:V.I8 T l=(0,v))(w:Aa)(m:V.NP w S (V.nx T) (T.size+1) 0 c0 c1 c2):ET 197 #[.agg #[c0,c1,c2],.string (str l)] w λe w'=>(∃O,e=.returned O/\V.Row w' w.heap.size O v)/\DY w w':=by
 have g:=V.Nw h;refine(V.pH S m g.ok g.Lj).mono ?_;rintro e w' ⟨f,j⟩;have e1:V.MO (V.Es V.Fx V.Il (V.nx T) (T.size+1) 0 (l,[])) l=V.I8 T l:=by unfold V.I8;rw[Ay h]
 rw[e1,hu]at f;exact⟨f,j⟩
theorem Sj(k p:Int)(f t:Ab)(h:R.IY k p=some (f,t))(l:Ac)(v:List V.It)(hu:V.I8 t l=(0,v))(w:Aa)(ht:JI w):ET 203 #[Z k,Z p,.string (str l)] w λe w'=>(∃O,e=.returned O/\V.Row w' w.heap.size O v)/\Below w.heap.size w w':=by
 have⟨_,_,ac,_,_⟩:=Ng h;have HS:=Dx (NK k p f t h w ht);have HW:Hid (∀w' c0 c1 c2 S,V.NP w' S (V.nx t) (t.size+1) 0 c0 c1 c2->ET 197 #[.agg #[c0,c1,c2],.string (str l)] w' λe M=>(∃O,e=.returned O/\V.Row M w'.heap.size O v)/\Below w'.heap.size w' M):=λw' c0 c1 c2 S hR=>aW t ac S c0 c1 c2 l v hu w' hR
 generalize str l=SL at *;clear ht hu;go_enter func203,ntmps203;go_wp2_with fail
 refine(Dw HS).mono ?_;rintro e Q ⟨⟨a0,a1,a2,b0,b1,b2,rfl,⟨S1,B⟩,⟨S2,u⟩⟩,j⟩;obtain⟨⟨x0,rfl⟩,⟨x1,rfl⟩,⟨ea,en,ec,rfl⟩⟩:=V.GN B;obtain⟨⟨y0,rfl⟩,⟨y1,rfl⟩,⟨fa,fn,fc,rfl⟩⟩:=V.GN u;have m:Hid (Below w.heap.size w ((Q.alloc (N2 x0 x1 ea en ec)).alloc (N2 y0 y1 fa fn fc))):=(j.alloc j.size _).alloc (by have:=j.size;simp;omega) _;have y:Hid (Below Q.heap.size Q ((Q.alloc (N2 x0 x1 ea en ec)).alloc (N2 y0 y1 fa fn fc))):=((AA _ _).alloc (Ar _) _).alloc Ev _;have X:=Dx (Na u (Dw y));have HC:=Dx ((Dw HW) _ _ _ _ _ (Dw X));clear B u j HS y;go_wp2_with fail
 refine(Dw HC).mono ?_;rintro e w3 ⟨⟨O,rfl,g⟩,D⟩;have T:=Dx ((Dw m).trans (D.mono (Dw m).size));have⟨oa,on,oc,ab⟩:=Ei g;subst ab;have aa:=Dx (V.GL g (Dw m).size);clear D g;go_wp2
 go_ret
 exact⟨⟨_,rfl,Dw aa⟩,Dw T⟩
theorem adH(b:Nat)(l:Ac)(n:Nat)(w:Aa)(e:w.cell? (Y b 0)=some (.string (str l)))(f:w.frozen? (Y b 0)=false)(hn:n<=l.length)(hl:l.length<=1000):
  D7 190 #[ptr b,Z n] w (.string (str (l.take n))) λw'=>w'=w.setCell (Y b 0) (.string (str (l.drop n))):=by
 have hsz:=Er l;have e1:(str l).extract 0 n=str (l.take n):=by rw[Ho];simp
 have e2:(str l).extract n (str l).size=str (l.drop n):=by
  exact wI
 generalize hS:str l=S at *;generalize hA:str (l.take n)=A at *;generalize hB:str (l.drop n)=B at *;clear hS hA hB;exact adR
theorem qS(b:Nat)(c:UInt8)(r:Ac)(w:Aa)(e:w.cell? (Y b 0)=some (.string (str (c :: r))))(f:w.frozen? (Y b 0)=false)(hl:r.length<=900):D7 113 #[ptr b] w (Z (c.toNat:Int)) λw'=>w'=w.setCell (Y b 0) (.string (str r)):=by
 have H:=Dx (adH b (c :: r) 1 w e f Ev Fy);rw[show (c :: r).take 1=[c] from rfl,show (c :: r).drop 1=r from rfl]at H;have i0:(str [c])[0]'(by rw[Er];simp)=c:=rfl;have hc:=c.toNat_lt;have g:wrap64 (c.toNat:Int)=(c.toNat:Int):=NU;clear e f;exact acv
theorem afV(b:Nat)(a c:UInt8)(r:Ac)(w:Aa)(e:w.cell? (Y b 0)=some (.string (str (a :: c :: r))))(f:w.frozen? (Y b 0)=false)(hl:r.length<=500):
  D7 114 #[ptr b] w (Z (V.E5 a c)) λw'=>w'=(w.setCell (Y b 0) (.string (str (c :: r)))).setCell (Y b 0) (.string (str r)):=by
 have H:=Dx (qS b a (c :: r) w e f Fy);have g:=Gv e;have H2:=Dx (qS b c r (w.setCell (Y b 0) (.string (str (c :: r)))) (by simp[go_sem,e]) (by simp[go_sem,f]) U);have h:=a.toNat_lt;have hc:=c.toNat_lt;have m:wrap64 ((a.toNat:Int)*256)=(a.toNat:Int)*256:=NU;have j:bits .or .i64 ((a.toNat:Int)*256) (c.toNat:Int)=((V.E5 a c:Nat):Int):=by
  have:=V.Xy a.toNat c.toNat U U;exact acw
 clear e f;exact abp
theorem Vp(k p:Int)(f t:Ab)(h:R.IY k p=some (f,t))(l:Ac)(hl:l.length<=500)(v:List V.It)(hu:V.I8 f l=(0,v))(w:Aa)(ht:JI w):ET 133 #[Z k,.string (str (EU p++l))] w λe w'=>(∃O,e=.returned (.tuple #[Z p,O])/\V.Row w' w.heap.size O v)/\Below w.heap.size w w':=by
 have⟨_,hf,_,hp,_⟩:=Ng h;obtain⟨Q,j⟩:∃Q,w.alloc (.cells #[.string (str (EU p++l)),Z 6] 125)=Q:=⟨_,rfl⟩;have ad:Below w.heap.size w Q:=by
  rw[<-j];exact(AA _ _).alloc (Ar _) _
 have m:Q.heap[w.heap.size]?=some (.cells #[.string (str (EU p++l)),Z 6] 125 (0,0)):=by
  rw[<-j];exact AF w _
 have aw:((V.E5 (b8 (p / 256)) (b8 (p % 256)):Nat):Int)=p:=by
  have h1:=FP (n:=p / 256) U U;have h2:=FP (n:=p % 256) U U;unfold V.E5;omega
 have H2:=Dx (afV w.heap.size (b8 (p / 256)) (b8 (p % 256)) l Q (ED m 0 _ rfl) (Eb m) hl);rw[aw]at H2;obtain⟨W,hW⟩:∃W,W=(Q.setCell (Y w.heap.size 0) (.string (str (b8 (p % 256) :: l)))).setCell (Y w.heap.size 0) (.string (str l)):=⟨_,rfl⟩;rw[<-hW]at H2;have M:Below w.heap.size w W:=by
  rw[hW];exact(ad.setCell Ev _).setCell Ev _
 have ac:W.heap[w.heap.size]?=some (.cells #[.string (str l),Z 6] 125 (0,0)):=by
  rw[hW];have e1:=Ek (cs:=[.string (str (EU p++l)),Z 6]) (off:=0) m (.string (str (b8 (p % 256) :: l)));exact Ek (cs:=[.string (str (b8 (p % 256) :: l)),Z 6]) (off:=0) e1 (.string (str l))
 have HS:=Dx (NK k p f t h W (ht.DG M));have HW:Hid (∀w' c0 c1 c2 S,V.NP w' S (V.nx f) (f.size+1) 0 c0 c1 c2->ET 197 #[.agg #[c0,c1,c2],.string (str l)] w' λe ak=>(∃O,e=.returned O/\V.Row ak w'.heap.size O v)/\Below w'.heap.size w' ak):=λw' c0 c1 c2 S hR=>aW f hf S c0 c1 c2 l v hu w' hR
 have aq:=Dx j;have X:=Dx M;have aa:=Dx ac;clear hW M ac ad m ht hu j;generalize str l=SL at *;generalize str (EU p++l)=SM at *;go_enter func133,ntmps133;go_wp2_with fail
 rw[Dw aq];refine(Dw H2).mono ?_;rintro e w0 ⟨rfl,ah⟩;rw[ah];clear ah;go_wp2_with fail
 refine(Dw HS).mono ?_;rintro e w1 ⟨⟨a0,a1,a2,b0,b1,b2,rfl,⟨S1,B⟩,⟨S2,ab⟩⟩,D⟩;obtain⟨⟨x0,rfl⟩,⟨x1,rfl⟩,⟨ea,en,ec,rfl⟩⟩:=V.GN B;obtain⟨⟨y0,rfl⟩,⟨y1,rfl⟩,⟨fa,fn,fc,rfl⟩⟩:=V.GN ab;have u:=(Dw X).trans (D.mono (Dw X).size);have y:Hid (Below w.heap.size w ((w1.alloc (N2 x0 x1 ea en ec)).alloc (N2 y0 y1 fa fn fc))):=(u.alloc u.size _).alloc (by have:=u.size;simp;omega) _;have T:Hid (Below w1.heap.size w1 ((w1.alloc (N2 x0 x1 ea en ec)).alloc (N2 y0 y1 fa fn fc))):=((AA _ _).alloc (Ar _) _).alloc Ev _;have ar:=Dx (Na B (Dw T));have HC:=Dx ((Dw HW) _ _ _ _ _ (Dw ar));have k1:=(D.block w.heap.size (Dv (Dw aa))).trans (Dw aa);have c0:=ED k1 0 _ rfl;have aS:=Dv k1;clear B ab D HS T u k1;go_wp2_with fail
 refine(Dw HC).mono ?_;rintro e w3 ⟨⟨O,rfl,g⟩,ae⟩;have ao:=Dx ((Dw y).trans (ae.mono (Dw y).size));have⟨oa,on,oc,az⟩:=Ei g;subst az;have av:=Dx (V.GL g (Dw y).size);clear ae g;go_wp2
 go_ret2
 exact⟨⟨_,rfl,Dw av⟩,Dw ao⟩
end Go.Proofs.YtblomippkddgiaaGreatDoor
