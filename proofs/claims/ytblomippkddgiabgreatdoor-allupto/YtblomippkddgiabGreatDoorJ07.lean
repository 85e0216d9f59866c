import Derived.Test.YtblomippkddgiabGreatDoorJ06
set_option maxRecDepth 100000
set_option maxHeartbeats 8000000
namespace Go.Proofs.YtblomippkddgiabGreatDoor
open Go.Proofs.Tryz RowKit Maps Conc
variable {f t:ByteArray}{F:D9}{ac k p sq st u uid v why:Int}{seen:List R.Sn}{B b c cap cb i j m n nl s:Nat}{o:Obj}{P:Pk}{G:R.Wd}{tt:TypeId}{X c0 c1 c2:Value}{W a w w' w1:World}
def Jo(G:R.Wd)(i n:Nat):R.Wd:=(List.range n).foldl (λ(G:R.Wd) (k:Nat)=>R.EM G i k) G
theorem Me(G:R.Wd)(i n:Nat):Jo G i (n+1)=R.EM (Jo G i n) i n:=by
 simp[Jo,List.range_succ]
theorem aaj(G:R.Wd)to(p:Pk):(R.E9 G to p).c=G.c:=by unfold R.E9;split<;>rfl
theorem K7(G:R.Wd)to(p:Pk):(R.E9 G to p).b=G.b:=by unfold R.E9;split<;>rfl
theorem iy(G:R.Wd)(i k:Nat):(R.EM G i k).c=G.c:=by
 unfold R.EM R.EG R.Lq;simp only;repeat' split
 all_goals first|rfl|(rw[aaj];rfl)
theorem Qz(G:R.Wd)(i n:Nat):(Jo G i n).c=G.c:=by
 induction n with
 |zero=>rfl
 |succ n ih=>rw[Me,iy,ih]
theorem Po{k:Nat}{l:R.Ln}(hl:R.Ia G i k=l)(h:¬l.d=1):R.EM G i k=G:=by grind [R.EM]
def II(G:R.Wd)(n:Nat):R.Wd:=(List.range n).foldl (λ(G:R.Wd) (i:Nat)=>YtblomippkddgiabGreatDoor.Jo G i G.c.a.toNat) G
theorem NJ(G:R.Wd)(n:Nat):II G (n+1)=YtblomippkddgiabGreatDoor.Jo (II G n) n (II G n).c.a.toNat:=by
 simp[II,List.range_succ]
theorem Te(G:R.Wd)(n:Nat):(II G n).c=G.c:=by
 induction n with
 |zero=>rfl
 |succ n ih=>rw[NJ,Qz,ih]
theorem X0(G:R.Wd):R.Nh G=II G G.b:=rfl
theorem XZ(G:R.Wd)(i k:Nat):(R.EM G i k).b=G.b.length:=by grind [R.EM,R.EG,R.Lq,K7,R.Eh]
theorem Rn(G:R.Wd)(i n:Nat):(Jo G i n).b=G.b.length:=by
 induction n with
 |zero=>rfl
 |succ n ih=>rw[Me,XZ,ih]
theorem Wt(G:R.Wd)(n:Nat):(II G n).b=G.b.length:=by
 induction n with
 |zero=>rfl
 |succ n ih=>rw[NJ,Rn,ih]
theorem o9(w:Aa)(cb lb a:Nat)(c:Nat->World->Prop)(f:c 0 w)(hc:Hid (∀k wr,c k wr->EB wr cb 3 (EJ lb a a)))
  (o:Hid (∀k wr,k<a->c k wr->∃st,EB wr lb (k*10) (Z st)/\(st=1->D7 98 #[ptr cb,Z k] wr Ep λi=>c (k+1) i)/\(¬st=1->c (k+1) wr))) (hn:a<=1000):
  D7 58 #[ptr cb] w Ep λi=>c a i:=by
 have q:=hc 0 w f;have j:=Dx f;clear f
 delta D7
 go_in
 go_wp2;go_loopw [8] (λiv wr=>∃k:Nat,k<=a/\iv=Z k/\c k wr) (λiv _=>a-(intOf iv).toNat)
 case atStart=>exact⟨0,AV _,I,j⟩
 case round=>
  obtain⟨k,hk,rfl,g⟩:=hrel;have d3:=hc k wr g;by_cases h:k<a
  .have⟨st,p,b,d⟩:=o k wr h g;have⟨n,m⟩:=FU b d;clear b d;by_cases e:st=1
   .have l:=Dx (n e);subst e;go_wp2_with (first|(go_at_call 98;refine cm l λr hw3=>?_))
    exact aaM
   .have e1:(st==1)=false:=by simpa using e
    have HI:=Dx (m e);exact aaK
  .obtain rfl:k=a:=U;go_wp2;go_returns;exact⟨I,g⟩
theorem iB(w:Aa)(x sv cs n cap:Nat)(cb:Nat->Nat)(b:Nat->World->Prop)(a:World->Prop)(g:b 0 w)(p:EB w x 2 (EJ cs n cap))
  (l:Hid (∀i wr,i<n->b i wr->EB wr cs i (ptr (cb i))/\D7 58 #[ptr (cb i)] wr Ep λc=>b (i+1) c)) (hn:n<=1000)
  (m:Hid (∀wr,b n wr->EB wr x 1 (ptr sv)/\D7 59 #[ptr sv] wr Ep λc=>a c)):
  D7 32 #[ptr x] w Ep λc=>a c:=by
 have j:=Dx g;clear g
 delta D7
 go_in
 go_wp2;go_loopw [9] (λiv wr=>∃k:Nat,k<=n/\iv=Z k/\b k wr) (λiv _=>n-(intOf iv).toNat)
 case atStart=>exact⟨0,AV _,I,j⟩
 case round=>
  obtain⟨k,hk,rfl,h⟩:=hrel;by_cases e:k<n
  .have⟨f,hC⟩:=l k wr e h;have d:=Dx hC;clear hC;go_wp2_with (first|(go_at_call 58;refine cm d λo hw3=>?_))
   exact aaM
  .obtain rfl:k=n:=U;have⟨f,hC⟩:=m wr h;have d:=Dx hC;clear hC;go_wp2_with (first|(go_at_call 59;refine cm d λo hw3=>?_))
   go_returns;exact⟨I,hw3⟩
theorem LW.Jo{p:Pl}(h:LW p F G w)(hi:i<G.b):
  D7 58 #[ptr (p.cb i)] w Ep λt=>∃a,LW p a (YtblomippkddgiabGreatDoor.Jo G i G.c.a.toNat) t/\D8 F a w t:=by
 have f:∀{a:D9} {n:Nat} {wr:Aa},LW p a (YtblomippkddgiabGreatDoor.Jo G i n) wr->∃c,(YtblomippkddgiabGreatDoor.Jo G i n).b[i]?=some c/\c.a.length=G.c.a.toNat:=λ{a n wr} b=>by
  have e1:=b.wf.a;have e0:=h.wf.a;rw[Qz,<-e0]at e1;have g:i<(YtblomippkddgiabGreatDoor.Jo G i n).b.length:=U;refine⟨_,Ah g,?_⟩;have:=(b.wf.cl i _ (Ah g)).a;rw[Qz]at this;omega
 have s:∀{a:D9} {n:Nat} {wr:Aa},LW p a (YtblomippkddgiabGreatDoor.Jo G i n) wr->wr.cell? ⟨p.cb i,3,none⟩=some (.slice (some ⟨p.lb i,0,none⟩) G.c.a.toNat G.c.a.toNat):=λ{a n wr} b=>by
  have⟨c,hc,hl⟩:=f b;have:=(P4 b hc).a3;rw[hl]at this;exact this
 have q:=h.wf.cf;unfold R.GA at q;refine o9 w (p.cb i) (p.lb i) G.c.a.toNat (λn wr=>∃a,LW p a (YtblomippkddgiabGreatDoor.Jo G i n) wr/\D8 F a w wr) ⟨F,h,D8.refl F w⟩ ?_ ?_ U
 .rintro k wr ⟨a,b,_⟩;exact s b
 .rintro k wr hk ⟨a,b,j⟩;have⟨c,hc,hl⟩:=f b;have d:c.a[k]?=some (c.a[k]'U):=Ah U;have⟨B,x,y,z,A,l,r,_⟩:=b.H hc d;refine⟨x.d,r.a0,λo=>?_,λo=>?_⟩
  .refine(b.C hc d (by rw[<-l.d];exact o)).mono ?_;rintro e t ⟨rfl,m,u,v⟩;exact⟨I,m,by rw[Me];exact u,j.trans v⟩
  .refine⟨a,?_,j⟩;rw[Me,Po (R.FH hc d) (by rw[<-l.d];exact o)];exact b
def Vk(seen:List R.Sn)(i:Nat):Bool:=decide (((seen[i]?).getD R.Ic).a≠0)
def idx(seen:List R.Sn):List Nat:=(List.range 9).filter (Vk seen)
theorem ZO{t:SP}:M9 (qf t seen) n=((List.range n).filter (Vk seen)).map λi=>ptr (t.ql i):=by
 induction n with
 |zero=>rfl
 |succ n ih=>grind [Q7,List.range_succ,qf,Vk]
theorem UB(t:SP)(seen:List R.Sn):M9 (qf t seen) 9=(idx seen).map λi=>ptr (t.ql i):=ZO
theorem VU(seen:List R.Sn):(idx seen).Nodup:=(List.nodup_range).filter _
theorem jH(seen:List R.Sn):(idx seen).length<=9:=by grind [idx]
theorem Rf(h:i≠j){r:R.Sn}:(R.EA G j r).J[i]?=G.J[i]?:=by grind [R.EA]
theorem OD(G:R.Wd)(j:Nat):(R.EH G j).C=G.C/\(R.EH G j).c=G.c/\∀i,i≠j->(R.EH G j).J[i]?=G.J[i]?:=by
 unfold R.EH;simp only;repeat' split
 .grind
 .exact⟨I,I,λi hi=>Rf hi⟩
 .exact⟨I,I,λi hi=>Rf hi⟩
 .exact⟨by rw[IX];rfl,by rw[Qu];rfl,λi hi=>by rw[NS];exact Rf hi⟩
theorem Wu:∀(l:List Nat) (G:R.Wd),(l.foldl R.EH G).C=G.C/\(l.foldl R.EH G).c=G.c/\∀i,i ∉ l->(l.foldl R.EH G).J[i]?=G.J[i]?
 |[],G=>⟨rfl,rfl,λ_ _=>rfl⟩
 |j :: l,G=>by
  have⟨a1,a2,a3⟩:=Wu l (R.EH G j);have⟨a,b,c⟩:=OD G j;rw[C9];refine⟨a1.trans a,a2.trans b,λi hi=>?_⟩;simp only[CX,not_or]at hi;exact(a3 i hi.2).trans (c i hi.1)
theorem Ro(hz:∀(i:Nat) (r:R.Sn),seen[i]?=some r->r.a=0->r=R.Ic):∀(l:List Nat) (G:R.Wd),l.Nodup->(∀i∈l,G.J[i]?=seen[i]?)->l.foldl R.EH G=(l.filter (Vk seen)).foldl R.EH G
 |[],G,_,_=>rfl
 |j :: l,G,hn,hs=>by
  rw[List.nodup_cons]at hn;rw[C9,List.filter_cons];by_cases h:Vk seen j=true
  .rw[Ay h,C9];refine Ro hz l (R.EH G j) hn.2 (λi hi=>?_);rw[(OD G j).2.2 i (λe=>hn.1 (e ▸ hi))];exact hs i (BQ _ hi)
  .rw[Ao h];have a:R.EZ G j=R.Ic:=by
    unfold R.EZ;rw[hs j Co];have h:((seen[j]?).getD R.Ic).a=0:=by simpa [Vk] using h
    cases hr:seen[j]? with
    |none=>rfl
    |some r=>
     rw[hr]at h;rw[hz j r hr (by simpa using h)];rfl
   have e:R.EH G j=G:=by
    unfold R.EH;simp only;rw[a,Ay (show R.Ic.g=false from rfl)]
   rw[e];exact Ro hz l G hn.2 (λi hi=>hs i (BQ _ hi))
theorem PE{α β:Type}(f:α->β->α)(a:α)(l:List β)(k:Nat)(x:β)(h:l[k]?=x):(l.take (k+1)).foldl f a=f ((l.take k).foldl f a) x:=by
 rw[Bh,h];simp
theorem LW.NT{p:Pl}(h:LW p F G w):
  D7 59 #[ptr p.s] w Ep λD=>∃c,LW p c ((List.range 9).foldl R.EH G) D/\D8 F c w D:=by
 have f:(List.range 9).foldl R.EH G=(idx G.J).foldl R.EH G:=Ro (seen:=G.J) (λi r A E=>(h.g.sn i r A).zero E) (List.range 9) G List.nodup_range (λ_ _=>rfl);try dsimp only[EB,Kk,DY]at *
 rw[f];have n:=jH G.J;refine(ik w p.s (idx G.J).length (λk=>p.t.ql ((idx G.J).getD k 0)) (λO k wr=>∃c,LW p c (((idx G.J).take k).foldl R.EH G) wr/\D8 F c w wr/\wr.ownsRow w.heap.size 137 1 O (idx G.J).length ((idx G.J).map λi=>ptr (p.t.ql i))/\∀j,O.ownBlock=some j->¬c j) n ?_ ?_ ?_).mono ?_
 .refine h.a.rem.mono ?_;rintro e w1 ⟨O,rfl,a,H⟩;try dsimp only[EB,Kk,DY]at *
  rw[UB,AX]at a;refine⟨O,I,F,h.h H,D8.J F H,a,λj l v=>?_⟩;have T:=((Ba a) j l).1;have W:=h.lt j v;omega
 .rintro O k wr ⟨c,_,_,a,_⟩;exact Fa a
 .rintro O k wr hk ⟨c,B,C,a,m⟩;have b:(idx G.J)[k]?=some ((idx G.J)[k]):=Ah hk;have x:(idx G.J).getD k 0=(idx G.J)[k]:=by rw[Bu,b];rfl
  try dsimp only[EB,Kk,DY]at *
  rw[x];generalize hi:(idx G.J)[k]=i at b;have d:i∈idx G.J:=Ap b;have L:Vk G.J i=true:=(Dn.1 d).2;have hi9:i<9:=by simpa using (Dn.1 d).1
  have A:G.J[i]?=some (R.EZ G i):=by
   exact acb
  have z:(R.EZ G i).a≠0:=by grind [Vk]
  have o:i ∉ (idx G.J).take k:=λhm=>by
   grind [List.mem_iff_getElem?,List.getElem?_inj,VU]
  have s:(((idx G.J).take k).foldl R.EH G).J[i]?=some (R.EZ G i):=by rw[(Wu _ G).2.2 i o];exact A
  have⟨y,t,_⟩:=B.q s z;have⟨_,_,_,_,_,_,_,_,_,c9,_⟩:=X8 t.blk;have N:=B.g.sn i _ s;rcases a.2 with ⟨_,E⟩|⟨g,cap,K,rfl,_,X,_,_,P,Q⟩
  .omega
  .refine⟨g,cap,I,?_,y.C,c9,λS=>?_,λS=>?_⟩
   .have:((idx G.J).map λi=>ptr (p.t.ql i))[k]?=some (ptr (p.t.ql i)):=by rw[BP,b];rfl
    grind [World.cell?]
   .have J:(R.EZ G i).g=true:=by
     have:=t.rel.C
     grind
    refine cm (B.afW t J) ?_;rintro D ⟨u,g1,g2⟩;refine⟨I,u,?_,C.trans g2,g2.H.row a (λj l=>m j l),λj l v=>?_⟩
    .grind [PE]
    .have M:=((Ba a) j l).2;rcases g2.fresh j v with q|q
     .exact m j l q
     .omega
   .have J:(R.EZ G i).g=false:=by
     have:=t.rel.C;cases e:(R.EZ G i).g with
     |false=>rfl
     |true=>
      try dsimp only[EB,Kk,DY]at *
      rw[e]at this;have:=(N.g e).2.1;simp at *;omega
    grind [PE,R.EH,R.F7]
 grind
theorem LW.tick{p:Pl}(h:LW p F G w):
  D7 32 #[ptr p.x] w Ep λf=>∃a,LW p a (R.Ni G) f/\D8 F a w f:=by
 unfold R.Ni;try dsimp only[EB,Kk,DY]at *
 rw[X0];have g:=h.wf.cf;have e0:=h.wf.a;unfold R.GA at g;refine iB w p.x p.s p.cs G.b.length p.cap p.cb (λn wr=>∃a,LW p a (II G n) wr/\D8 F a w wr) _ ⟨F,h,D8.refl F w⟩ (EI h.bx 2) ?_ U ?_
 .rintro i wr hi ⟨a,d,c⟩;have e1:=d.wf.a;try dsimp only[EB,Kk,DY]at *
  rw[Te,<-e0]at e1;have e:i<(II G i).b.length:=U;have⟨l,m,o⟩:=d.DW;refine⟨by simp[World.cell?,m,o i e],?_⟩;refine cm (d.Jo e) ?_;rintro f ⟨b,j,k⟩;try dsimp only[EB,Kk,DY]at *
  exact⟨I,b,by rw[NJ];exact j,c.trans k⟩
 .rintro wr ⟨a,d,c⟩;refine⟨EI d.bx 1,?_⟩;refine cm d.NT ?_;rintro f ⟨b,j,k⟩;exact⟨I,b,j,c.trans k⟩
abbrev Ix:Array Value:=#[Z 0,Z 0,.string {data:=#[105]},.string {data:=#[99]},Z 0,Z 1,.string {data:=#[98]},.string {data:=#[99]},Z 1,Z 0,.string {data:=#[115]},.string {data:=#[99]},Z 1,Z 1,.string {data:=#[99]},.string {data:=#[113,52,115]},Z 2,Z 0,.string {data:=#[114,40,101,51,113,51,105,41]},.string {data:=#[117,40,98,113,51,105,41]}]
theorem i0(w:Aa):(Instr.index 312 (.agg Ix) (Z 0)).run prog w=.ok (.agg #[Z 0,Z 0,.string {data:=#[105]},.string {data:=#[99]}]) w:=EL
theorem i1(w:Aa):(Instr.index 312 (.agg Ix) (Z 1)).run prog w=.ok (.agg #[Z 0,Z 1,.string {data:=#[98]},.string {data:=#[99]}]) w:=EL
theorem i2(w:Aa):(Instr.index 312 (.agg Ix) (Z 2)).run prog w=.ok (.agg #[Z 1,Z 0,.string {data:=#[115]},.string {data:=#[99]}]) w:=EL
theorem i3(w:Aa):(Instr.index 312 (.agg Ix) (Z 3)).run prog w=.ok (.agg #[Z 1,Z 1,.string {data:=#[99]},.string {data:=#[113,52,115]}]) w:=EL
theorem i4(w:Aa):(Instr.index 312 (.agg Ix) (Z 4)).run prog w=.ok (.agg #[Z 2,Z 0,.string {data:=#[114,40,101,51,113,51,105,41]},.string {data:=#[117,40,98,113,51,105,41]}]) w:=EL
theorem Nx(k:Int)(w:Aa):
  D7 143 #[Z k] w (.bool (k==0 || k==1 || k==2)) λd=>d=w:=by
 by_cases a:k=0
 .subst a;exact xe
 by_cases b:k=1
 .subst b;exact xe
 by_cases c:k=2
 .subst c;exact xe
 have e0:(k==0)=false:=by simpa using a
 have e1:(k==1)=false:=by simpa using b
 have e2:(k==2)=false:=by simpa using c
 delta D7
 go_in
 go_wp2
 go_ret
 exact⟨by rw[e0,e1,e2];rfl,rfl⟩
theorem mg(h:k<0\/2<k):
  D7 143 #[Z k] w DI λa=>a=w:=by
 refine cs (Nx k w) ?_;have e0:(k==0)=false:=Fy;have e1:(k==1)=false:=Fy;have e2:(k==2)=false:=Fy
 grind
theorem agu{P:Prop}(h:P:=by
 have j0:=i0;have j1:=i1;have j2:=i2;have j3:=i3;have j4:=i4;go_enter func183,ntmps183;go_wp2_with (first|(go_at_call 143;refine cs (Nx _ _) ?_)|(refine wpList_load_row I 312 _ I 0 I tt _ fr _ hg underlying312 I EL ?_))
 refine wp_loop_rounds 6 ?_;repeat (rw[rounds_succ];go_wp2)
 try go_region
 exact agq):P:=h
def Rh(k p:Int):ByteArray:=if k=0/\p=0 then {data:=#[105]} else if k=0/\p=1 then {data:=#[98]} else if k=1/\p=0 then {data:=#[115]} else if k=1/\p=1 then {data:=#[99]} else if k=2/\p=0 then {data:=#[114,40,101,51,113,51,105,41]} else {data:=#[]}
def Ri(k p:Int):ByteArray:=if k=0/\p=0 then {data:=#[99]} else if k=0/\p=1 then {data:=#[99]} else if k=1/\p=0 then {data:=#[99]} else if k=1/\p=1 then {data:=#[113,52,115]} else if k=2/\p=0 then {data:=#[117,40,98,113,51,105,41]} else {data:=#[]}
def aE(k p:Int):Int:=if k<0\/2<k then 9 else if k=0/\p=0 then 0 else if k=0/\p=1 then 0 else if k=1/\p=0 then 0 else if k=1/\p=1 then 0 else if k=2/\p=0 then 0 else 16
theorem aC{Q:Int->Int->Prop}(k p:Int)(f:∀k p,k<0\/2<k->Q k p)(a:Q 0 0)(b:Q 0 1)(c:Q 1 0)(d:Q 1 1)(e:Q 2 0)(g:∀p,¬p=0->¬p=1->Q 0 p)(h:∀p,¬p=0->¬p=1->Q 1 p)(i:∀p,¬p=0->Q 2 p):Q k p:=by grind
abbrev J5(k p:Int):Value:=.tuple #[.string (Rh k p),.string (Ri k p),Z (aE k p)]
theorem xF(k p:Int)(h:k<0\/2<k):J5 k p=.tuple #[.string {data:=#[]},.string {data:=#[]},Z 9]:=by grind [Rh,Ri,aE]
theorem xC(p:Int)(a:¬p=0)(b:¬p=1):J5 0 p=.tuple #[.string {data:=#[]},.string {data:=#[]},Z 16]:=by grind [Rh,Ri,aE]
theorem xD(p:Int)(a:¬p=0)(b:¬p=1):J5 1 p=.tuple #[.string {data:=#[]},.string {data:=#[]},Z 16]:=by grind [Rh,Ri,aE]
theorem xE(p:Int)(a:¬p=0):J5 2 p=.tuple #[.string {data:=#[]},.string {data:=#[]},Z 16]:=by grind [Rh,Ri,aE]
theorem XR(fr:Nat×Nat)(hg:w.heap[0]?=some (.cells Ix tt fr)):
  D7 183 #[Z k,Z p] w (J5 k p) (DY w):=by
 refine aC (Q:=λk p=>D7 183 #[Z k,Z p] w (J5 k p) (DY w)) k p ?_ ?_ ?_ ?_ ?_ ?_ ?_ ?_ ?_
 .intro k p h;rw[xF k p h];have c:Hid (k<0\/2<k):=h;clear h;go_enter func183,ntmps183;go_wp2_with (first|(go_at_call 143;refine cs (mg c.out) ?_))
  go_ret3
  exact⟨I,AA _ _⟩
 rotate_left 5
 .intro p a b;rw[xC p a b];have e0:((0:Int)==p)=false:=Fy;have e1:((1:Int)==p)=false:=Fy;exact agu
 .intro p a b;rw[xD p a b];have e0:((0:Int)==p)=false:=Fy;have e1:((1:Int)==p)=false:=Fy;exact agu
 .intro p a;rw[xE p a];have e0:((0:Int)==p)=false:=Fy;exact agu
 all_goals exact agu
theorem rR(a:Nat×Nat)(c:w.heap[0]?=some (.cells Ix tt a)):
  D7 118 #[Z k,Z p] w (J5 k p) (DY w):=by
 delta D7
 go_in
 go_wp2_with (first|(go_at_call 183;refine cm (XR a (by exact c)) λd b=>?_))
 go_ret3
 exact⟨I,b⟩
theorem Qn(k p:Int)(w:Aa):
  D7 119 #[Z k,Z p] w (J5 k p) λc=>c=w:=by
 refine aC (Q:=λk p=>D7 119 #[Z k,Z p] w (J5 k p) λc=>c=w) k p ?_ ?_ ?_ ?_ ?_ ?_ ?_ ?_ ?_
 .intro k p h;rw[xF k p h];by_cases d:k<0
  .exact pu
  have h:2<k:=U;exact pu
 rotate_left 5
 .intro p a b;rw[xC p a b];have e0:(p==0)=false:=Fy;have e1:(p==1)=false:=Fy;exact pu
 .intro p a b;rw[xD p a b];have e0:(p==0)=false:=Fy;have e1:(p==1)=false:=Fy;exact pu
 .intro p a;rw[xE p a];have e0:(p==0)=false:=Fy;exact pu
 all_goals exact pu
theorem aeL{a:Nat×Nat}(d:w.heap[0]?=some (.cells Ix tt a))(c:DY w w1):w1.heap[0]?=some (.cells Ix tt a):=by
 have b:0<zz w:=by grind
 rw[c.block 0 b];exact d
theorem jX(k p:Int)(w:Aa)(d:Ag)(a:Nat×Nat)(c:w.heap[0]?=some (.cells Ix d a)):
  D7 70 #[Z k,Z p] w DC (DY w):=by
 delta D7
 go_in
 go_wp2_with (first|(go_at_call 118;refine cm (rR a (by exact c)) λe b=>?_)|(go_at_call 119;refine cs (Qn _ _ _) ?_)|(go_at_call 66;go_in))
 go_ret
 exact⟨I,b⟩
def JI(w:Aa):Prop:=∃tt fr,w.heap[0]?=some (.cells Ix tt fr)
theorem JI.h(h:JI w)(a:DY w w'):JI w':=by grind [JI,aeL]
theorem JI.H(h:JI w)(hk:DF F w w')(a:¬F 0):JI w':=by grind [JI,DF]
theorem Ng(h:R.IY k p=(f,t)):J5 k p=.tuple #[.string f,.string t,Z 0]/\(V.Pt.O7 (V.nx f) f).1=0/\(V.Pt.O7 (V.nx t) t).1=0/\(p=0\/p=1)/\(0<=k/\k<=2):=by
 unfold R.IY at h;split at h
 .rename_i q;obtain⟨rfl,rfl⟩:=q;cases h;exact⟨I,Kx,Kx,U,U⟩
 .split at h
  .rename_i q;obtain⟨rfl,rfl⟩:=q;cases h;exact⟨I,Kx,Kx,U,U⟩
  .split at h
   .rename_i q;obtain⟨rfl,rfl⟩:=q;cases h;exact⟨I,Kx,Kx,U,U⟩
   .split at h
    .rename_i q;obtain⟨rfl,rfl⟩:=q;cases h;exact⟨I,Kx,Kx,U,U⟩
    .split at h
     .rename_i q;obtain⟨rfl,rfl⟩:=q;cases h;exact⟨I,Kx,Kx,U,U⟩
     .cases h
theorem vL(hk:0<=k/\k<=2)(h:R.IY k p=none):J5 k p=.tuple #[.string ⟨#[]⟩,.string ⟨#[]⟩,Z 16]:=by
 obtain rfl|rfl|rfl:k=0\/k=1\/k=2:=U;all_goals grind [R.IY,xC,xD,xE]
theorem iH(hk:0<=k/\k<=2)(h:R.IY k p=none)(l:JI w):ET 201 #[Z k,Z p] w λe a=>e=EQ 16 0/\DY w a:=by
 have f:Hid (∀a,DY w a->D7 183 #[Z k,Z p] a (.tuple #[.string ⟨#[]⟩,.string ⟨#[]⟩,Z 16]) (DY a)):=λa i=>by
  obtain⟨n,g,j⟩:=l.h i;refine cm (XR g j) λm q=>?_
  exact⟨by rw[vL hk h],q⟩
 have c:Hid (DY w ((w.alloc (.cells #[.int .u8 0,Z 0,Dz] 262)).alloc (.cells #[.int .u8 0,Z 0,Dz] 262))):=F9.alloc Ev _
 delta ET
 go_in
 go_wp2_with fail
 refine cm (f _ c) λo b=>?_
 have d:=Dx (c.trans (b.mono c.size));clear b;go_wp2;exact⟨I,I,d⟩
theorem NK(k p:Int)(f t:Ab)(h:R.IY k p=(f,t))(w:Aa)(ht:JI w):ET 201 #[Z k,Z p] w λe b=>(∃a0 a1 a2 b0 H J,e=.returned (.tuple #[.agg #[a0,a1,a2],.agg #[b0,H,J]])/\(∃S,V.NP b S (V.nx f) (f+1) 0 a0 a1 a2)/\(∃S,V.NP b S (V.nx t) (t+1) 0 b0 H J))/\DY w b:=by
 obtain⟨hs,hf,Q,_,_⟩:=Ng h;have HS:Hid (∀b,DY w b->D7 183 #[Z k,Z p] b (.tuple #[.string f,.string t,Z 0]) (DY b)):=λb hb=>by
  obtain⟨tt,fr,hg⟩:=ht.h hb;refine cm (XR fr hg) λi q=>?_
  exact⟨by rw[hs],q⟩
 have G:Hid (∀T b,(V.Pt.O7 (V.nx T) T.size).1=0->ET 173 #[.string T] b λe i=>∃c0 c1 c2,e=.returned (.agg #[c0,c1,c2])/\V.NP i (λk=>b.heap.size<=k) (V.nx T) (T.size+1) 0 c0 c1 c2/\DY b i):=λT b hT=>by
  refine(V.oJ hT).mono ?_;rintro e i ⟨⟨c0,c1,c2,rfl,h3⟩,h2⟩;exact⟨c0,c1,c2,I,h3,h2⟩
 have F:Hid (DY w ((w.alloc (.cells #[.int .u8 0,Z 0,Dz] 262)).alloc (.cells #[.int .u8 0,Z 0,Dz] 262))):=F9.alloc Ev _;have D:Hid (Dy ((w.alloc (.cells #[.int .u8 0,Z 0,Dz] 262)).alloc (.cells #[.int .u8 0,Z 0,Dz] 262)) w.heap.size #[.int .u8 0,Z 0,Dz] 262):=(AL _ _ _ Ev).trans (AF w _);have E:Hid (Dy ((w.alloc (.cells #[.int .u8 0,Z 0,Dz] 262)).alloc (.cells #[.int .u8 0,Z 0,Dz] 262)) (w.heap.size+1) #[.int .u8 0,Z 0,Dz] 262):=by
  show _=_;have:=AF (w.alloc (.cells #[.int .u8 0,Z 0,Dz] 262)) (.cells #[.int .u8 0,Z 0,Dz] 262);simpa using this
 have s:Hid (((w.alloc (.cells #[.int .u8 0,Z 0,Dz] 262)).alloc (.cells #[.int .u8 0,Z 0,Dz] 262)).heap.size=w.heap.size+2):=by show _=_;simp
 delta ET
 go_in
 go_wp2_with fail
 refine cm (HS _ F) λw1 z=>?_
 obtain⟨u,c⟩:=FU (G f w1 hf) z;clear z;go_wp2_with fail
 refine u.mono ?_;rintro e w2 ⟨a0,a1,a2,rfl,x,A⟩;obtain⟨v,o,d⟩:=Ll (G t w2 Q) x A;clear A x;go_wp2_with fail
 refine v.mono ?_;rintro e n ⟨b0,H,J,rfl,r,g⟩;obtain⟨⟨x0,rfl⟩,⟨x1,rfl⟩,⟨K,M,L,rfl⟩⟩:=V.GN (Dw o);obtain⟨⟨y0,rfl⟩,⟨y1,rfl⟩,⟨N,fn,O,rfl⟩⟩:=V.GN r;have B:=c.size;have P:=d.size;rw[Dw s]at B;have m:=d.trans (g.mono d.size);have a:=c.trans (m.mono c.size);rw[Dw s]at a;have k0:=(a.block w.heap.size U).trans (Dw D);have X:=(a.block (w.heap.size+1) U).trans (Dw E);obtain⟨p0,p1,p2⟩:=TH k0 0 1 2;obtain⟨q0,q1,q2⟩:=TH X 0 1 2;have u0:∀j,n.frozen? (EN w j)=false:=λj=>Eb k0
 have u1:∀j,n.frozen? (DG w j)=false:=λj=>Eb X
 have C:=g.size;have l:Hid (∀W:World,DF (λk=>k=w.heap.size\/k=w.heap.size+1) n W->(∃S,V.NP W S (V.nx f) (f.size+1) 0 (.int .u8 x0) (Z x1) (.slice K M L))/\(∃S,V.NP W S (V.nx t) (t.size+1) 0 (.int .u8 y0) (Z y1) (.slice N fn O))/\DY w W):=λW hk=>by
  refine⟨⟨_,V.GM ⟨Br C hk.size,λk y hl=>?_⟩ (Dw o)⟩,⟨_,V.GM ⟨hk.size,λk y hl=>?_⟩ r⟩,?_⟩
  .have y:=y;rw[hk.block k U U];exact g.block k hl
  .have y:=y;exact hk.block k hl U
  .exact(F.trans (a.mono U)).trans (hk.h U (λk e=>by omega))
 have l0:w.heap.size<n.heap.size:=U;have l1:w.heap.size+1<n.heap.size:=U;clear r g m a k0 X o c d u v G HS F D E s B P C;go_wp2;have hK:DF (λk=>k=w.heap.size\/k=w.heap.size+1) n ((((((n.setCell (EN w 0) (.int .u8 x0)).setCell (EN w 1) (Z x1)).setCell (EN w 2) (.slice K M L)).setCell (DG w 0) (.int .u8 y0)).setCell (DG w 1) (Z y1)).setCell (DG w 2) (.slice N fn O)):=
  ((((((DF.refl _ n).setCell (p:=EN w 0) (Aj (Aj rfl)) _).setCell (p:=EN w 1) (Aj (Aj rfl)) _).setCell (p:=EN w 2) (Aj (Aj rfl)) _).setCell (p:=DG w 0) (Aj (Am rfl)) _).setCell (p:=DG w 1) (Aj (Am rfl)) _).setCell (p:=DG w 2) (Aj (Am rfl)) _
 obtain⟨r1,r2,r3⟩:=l _ hK;refine⟨I,.tuple #[.agg #[.int .u8 x0,Z x1,.slice K M L],.agg #[.int .u8 y0,Z y1,.slice N fn O]],?_,⟨_,_,_,_,_,_,I,r1,r2⟩,r3⟩;clear r1 r2 r3 hK l;simp[results,results201,go_sem,p0,p1,p2,q0,q1,q2]
theorem Na{S:Nat->Prop}{g:Nat->Nat}{f p:Nat}(h:V.NP w S g f p c0 c1 c2)(a:DY w w'):V.NP w' S g f p c0 c1 c2:=V.GM ⟨a.size,λk _ hl=>a.block k hl⟩ h
def PQ(T:Ab)(v:List V.It)(w:Aa)(e:Ending)(w':Aa):Prop:=
 (((V.Jk T v).1=0/\e=.returned (.string (str (V.Jk T v).2)))\/(¬(V.Jk T v).1=0/\e=EQ (V.Jk T v).1 0))/\Below w w w'
theorem U4(T:Ab)(d:(V.Pt.O7 (V.nx T) T).1=0)(S:Nat->Prop)(c0 c1 c2 X:Ad)(v:List V.It)(w:Aa)(c:V.NP w S (V.nx T) (T+1) 0 c0 c1 c2)(b:V.Ff w X v)(hn:v.length<=9000000000000):ET 177 #[.agg #[c0,c1,c2],X] w (PQ T v w):=by
 have a:=V.Nw d;refine(V.Ru T S c0 c1 c2 X v w c a.ok a.a b hn).mono ?_;rintro e f ⟨g,h⟩
 grind [PQ,V.Jk,V.i7]
def jQ(proc:Int)(T:Ab)(v:List V.It)(w:Aa)(e:Ending)(w':Aa):Prop:=
 (((V.Jk T v).1=0/\e=.returned (.string (str (EU proc++(V.Jk T v).2))))\/(¬(V.Jk T v).1=0/\e=EQ (V.Jk T v).1 0))/\Below w w w'
theorem U7(k p:Int)(hk:0<=k/\k<=2)(h:R.IY k p=none)(X:Ad)(w:Aa)(c:JI w):ET 147 #[Z k,Z p,X] w λe d=>e=EQ 16 0/\DY w d:=by
 have b:=Dx (iH hk h c)
 delta ET
 go_in
 go_wp2_with fail
 refine cm b λf a=>?_
 go_wp2;exact⟨I,I,a⟩
theorem aaT(a:Int)(l:Ac)(hl:l.length<=1000)(w:Aa):(Op.stringOp .add (str (EU a)) (str l)).run prog w=.ok (.string (str (EU a++l))) w:=by
 have e1:str (EU a)++str l=str (EU a++l):=by
  apply CJ;simp
 rw[<-e1];exact C6 w _ _ (by rw[Er,Er];simp[EU];omega)
abbrev N2(x0 x1:Int)(a:Af)(n c:Nat):Obj:=.cells #[.int .u8 x0,Z x1,.slice a n c] 262
theorem OH(k p:Int)(f t:Ab)(h:R.IY k p=(f,t))(X:Ad)(v:List V.It)(w:Aa)(T:JI w)(P:V.Ff w X v)(hn:v.length<=9000000000000):ET 147 #[Z k,Z p,X] w (jQ p f v w):=by
 obtain⟨_,hf,_,hp,_⟩:=Ng h;have M:=Dx (NK k p f t h w T);have W:Hid (∀b,ET 202 #[Dz,Z p] b λe n=>∃O,e=.returned O/\Own n b.heap.size O (EU p)/\DY b n):=λb=>by
  refine(MH b.heap.size Dz [] p b (AZ _ _ _ _) (Ar _) Ev U).mono ?_;rintro e n ⟨O,rfl,a,H⟩;exact⟨O,I,by simpa using a,H⟩
 have N:Hid (∀b c0 c1 c2 S,V.NP b S (V.nx f) (f.size+1) 0 c0 c1 c2->DY w b->ET 177 #[.agg #[c0,c1,c2],X] b (PQ f v b)):=λb c0 c1 c2 S hR H=>U4 f hf S c0 c1 c2 X v b hR (P.h H) hn
 have aa:(V.Jk f v).2.length<=70:=by
  unfold V.Jk V.Sw
  grind
 have u:=Dx (aaT p (V.Jk f v).2 U);unfold jQ;unfold PQ at N;generalize V.Jk f v=r at *;clear P hn T
 delta ET
 go_in
 go_wp2_with fail
 refine M.mono ?_;rintro e o ⟨⟨a0,a1,a2,b0,b1,b2,rfl,⟨S1,m⟩,⟨S2,y⟩⟩,d⟩;obtain⟨⟨C,rfl⟩,⟨x1,rfl⟩,⟨z,B,A,rfl⟩⟩:=V.GN m;obtain⟨⟨J,rfl⟩,⟨K,rfl⟩,⟨F,fn,G,rfl⟩⟩:=V.GN y;have j:Hid (DY w ((o.alloc (N2 C x1 z B A)).alloc (N2 J K F fn G))):=(d.alloc d.size _).alloc (by have:=d.size;simp;omega) _;have q:Hid (DY o ((o.alloc (N2 C x1 z B A)).alloc (N2 J K F fn G))):=F9.alloc Ev _;have s:=Dx (Na m q);have L:Hid (Dy ((o.alloc (N2 C x1 z B A)).alloc (N2 J K F fn G)) o.heap.size #[.int .u8 C,Z x1,.slice z B A] 262):=(AL _ _ _ Ev).trans (AF o _);clear m y d M;go_wp2_with fail
 refine(W _).mono ?_;rintro e w2 ⟨O,rfl,a,g⟩;obtain⟨oa,on,oc,hO⟩:=Ei a;subst hO;have ab:=a.conv;obtain⟨c,E⟩:=FU (j.trans (g.mono j.size)) (Na s g);have hk:=(g.block o.heap.size Fy).trans (Dw L);obtain⟨p0,p1,p2⟩:=TH hk 0 1 2;have ad:=Dv hk;have HC:=Dx (N w2 _ _ _ _ E c);clear a g hk L s j q;generalize str (EU p)=S2' at *;go_wp2_with fail
 refine HC.mono ?_;rintro e w3 ⟨⟨x,rfl⟩|⟨x,rfl⟩,i⟩
 .have l:=Dx (c.trans (i.mono c.size));have Q:=u w3;clear i;have D:=Dx x;clear x;go_wp2;go_returns;exact⟨Aj ⟨Dw D,I⟩,l⟩
 .have l:=Dx (c.trans (i.mono c.size));have D:=Dx x;clear x i;go_wp2;exact⟨I,Am ⟨Dw D,I⟩,l⟩
theorem Rt(k p:Int)(f t:Ab)(h:R.IY k p=(f,t))(X:Ad)(v:List V.It)(w:Aa)(D:JI w)(C:V.Ff w X v)(hn:v.length<=9000000000000):ET 165 #[Z k,Z p,X] w (PQ t v w):=by
 have⟨_,_,q,_,_⟩:=Ng h;have s:=Dx (NK k p f t h w D);have u:Hid (∀i c0 c1 c2 S,V.NP i S (V.nx t) (t.size+1) 0 c0 c1 c2->Below w.heap.size w i->ET 177 #[.agg #[c0,c1,c2],X] i (PQ t v i)):=λi c0 c1 c2 S J K=>U4 t q S c0 c1 c2 X v i J (C.h K) hn
 unfold PQ at u ⊢;generalize V.Jk t v=r at *;clear C hn D
 delta ET
 go_in
 go_wp2_with fail
 refine(Dw s).mono ?_;rintro e n ⟨⟨a0,a1,a2,b0,N,O,rfl,⟨L,m⟩,⟨M,g⟩⟩,b⟩;obtain⟨⟨E,rfl⟩,⟨x1,rfl⟩,⟨x,z,y,rfl⟩⟩:=V.GN m;obtain⟨⟨F,rfl⟩,⟨G,rfl⟩,⟨A,fn,B,rfl⟩⟩:=V.GN g;have a:Hid (Below w.heap.size w ((n.alloc (N2 E x1 x z y)).alloc (N2 F G A fn B))):=(b.alloc b.size _).alloc (by have:=b.size;simp;omega) _;have j:Hid (Below n.heap.size n ((n.alloc (N2 E x1 x z y)).alloc (N2 F G A fn B))):=((AA _ _).alloc (Ar _) _).alloc Ev _;have H:=Dx ((Dw u) _ _ _ _ _ (Dw (Dx (Na g (Dw j)))) (Dw a));clear m g b s j;go_wp2_with fail
 refine(Dw H).mono ?_;rintro e P ⟨⟨l,rfl⟩|⟨l,rfl⟩,c⟩
 .have d:=Dx ((Dw a).trans (c.mono (Dw a).size));clear c;have o:=Dx l;clear l;go_wp2;go_returns;exact⟨Aj ⟨Dw o,I⟩,Dw d⟩
 .have d:=Dx ((Dw a).trans (c.mono (Dw a).size));have o:=Dx l;clear l c;go_wp2;exact⟨I,Am ⟨Dw o,I⟩,Dw d⟩
theorem aW(T:Ab)(d:(V.Pt.O7 (V.nx T) T).1=0)(S:Nat->Prop)(c0 c1 c2:Ad)(l:Ac)(v:List V.It)(hu:V.I8 T l=(0,v))(w:Aa)(g:V.NP w S (V.nx T) (T+1) 0 c0 c1 c2):ET 181 #[.agg #[c0,c1,c2],.string (str l)] w λe a=>(∃O,e=.returned O/\V.Row a w O v)/\DY w a:=by
 have c:=V.Nw d;refine(V.pH S g c.ok c.a).mono ?_;rintro e a ⟨b,f⟩;have e1:V.MO (V.Es V.Fx V.Il (V.nx T) (T.size+1) 0 (l,[])) l=V.I8 T l:=by unfold V.I8;rw[Ay d]
 rw[e1,hu]at b;exact⟨b,f⟩
theorem Sj(k p:Int)(f t:Ab)(h:R.IY k p=(f,t))(l:Ac)(v:List V.It)(hu:V.I8 t l=(0,v))(w:Aa)(D:JI w):ET 219 #[Z k,Z p,.string (str l)] w λe b=>(∃O,e=.returned O/\V.Row b w O v)/\Below w w b:=by
 have⟨_,_,u,_,_⟩:=Ng h;have x:=Dx (NK k p f t h w D);have J:Hid (∀b c0 c1 c2 S,V.NP b S (V.nx t) (t.size+1) 0 c0 c1 c2->ET 181 #[.agg #[c0,c1,c2],.string (str l)] b λe n=>(∃O,e=.returned O/\V.Row n b.heap.size O v)/\Below b.heap.size b n):=λb c0 c1 c2 S K=>aW t u S c0 c1 c2 l v hu b K
 generalize str l=SL at *;clear D hu
 delta ET
 go_in
 go_wp2_with fail
 refine(Dw x).mono ?_;rintro e o ⟨⟨a0,a1,a2,b0,N,P,rfl,⟨L,j⟩,⟨M,g⟩⟩,c⟩;obtain⟨⟨E,rfl⟩,⟨x1,rfl⟩,⟨y,A,z,rfl⟩⟩:=V.GN j;obtain⟨⟨F,rfl⟩,⟨G,rfl⟩,⟨B,fn,C,rfl⟩⟩:=V.GN g;have d:Hid (Below w.heap.size w ((o.alloc (N2 E x1 y A z)).alloc (N2 F G B fn C))):=(c.alloc c.size _).alloc (by have:=c.size;simp;omega) _;have i:Hid (Below o.heap.size o ((o.alloc (N2 E x1 y A z)).alloc (N2 F G B fn C))):=((AA _ _).alloc (Ar _) _).alloc Ev _;have H:=Dx ((Dw J) _ _ _ _ _ (Dw (Dx (Na g (Dw i)))));clear j g c x i;go_wp2_with fail
 refine(Dw H).mono ?_;rintro e W ⟨⟨O,rfl,a⟩,m⟩;have q:=Dx ((Dw d).trans (m.mono (Dw d).size));have⟨Q,on,T,s⟩:=Ei a;subst s;have r:=Dx (V.GL a (Dw d).size);clear m a;go_wp2
 go_ret
 exact⟨⟨_,I,Dw r⟩,Dw q⟩
theorem adH(b:Nat)(l:Ac)(n:Nat)(w:Aa)(c:w.cell? (Y b 0)=some (.string (str l)))(d:DJ w b 0)(hn:n<=l)(hl:l.length<=1000):
  D7 246 #[ptr b,Z n] w (.string (str (l.take n))) λa=>a=w.setCell (Y b 0) (.string (str (l.drop n))):=by
 have hsz:=Er l;have e1:(str l).extract 0 n=str (l.take n):=by rw[Ho];simp
 have e2:(str l).extract n (str l).size=str (l.drop n):=by
  exact wI
 generalize hS:str l=S at *;generalize hA:str (l.take n)=A at *;generalize hB:str (l.drop n)=B at *;clear hS hA hB;exact adR
theorem qS(b:Nat)(c:UInt8)(r:Ac)(w:Aa)(a:w.cell? (Y b 0)=some (.string (str (c :: r))))(d:w.frozen? (Y b 0)=false)(hl:r.length<=900):D7 206 #[ptr b] w (Z c.toNat) λe=>e=w.setCell (Y b 0) (.string (str r)):=by
 have H:=Dx (adH b (c :: r) 1 w a d Ev Fy);rw[show (c :: r).take 1=[c] from rfl,show (c :: r).drop 1=r from rfl]at H;have i0:(str [c])[0]'(by rw[Er];simp)=c:=rfl;have hc:=c.toNat_lt;have f:wrap64 (c.toNat:Int)=(c.toNat:Int):=NU;clear a d;exact acv
theorem afV(b:Nat)(a c:UInt8)(r:Ac)(w:Aa)(d:w.cell? (Y b 0)=some (.string (str (a :: c :: r))))(e:w.frozen? (Y b 0)=false)(hl:r.length<=500):
  D7 207 #[ptr b] w (Z (V.E5 a c)) λg=>g=(w.setCell (Y b 0) (.string (str (c :: r)))).setCell (Y b 0) (.string (str r)):=by
 have H:=Dx (qS b a (c :: r) w d e Fy);have f:=Gv d;have H2:=Dx (qS b c r (w.setCell (Y b 0) (.string (str (c :: r)))) (by simp[go_sem,d]) (by simp[go_sem,e]) U);have h:=a.toNat_lt;have hc:=c.toNat_lt;have j:wrap64 ((a.toNat:Int)*256)=(a.toNat:Int)*256:=NU;have i:bits .or .i64 ((a.toNat:Int)*256) (c.toNat:Int)=((V.E5 a c:Nat):Int):=by
  have:=V.Xy a.toNat c.toNat U U;exact acw
 clear d e;exact abp
theorem Vp(k p:Int)(f t:Ab)(h:R.IY k p=(f,t))(l:Ac)(hl:l.length<=500)(v:List V.It)(hu:V.I8 f l=(0,v))(w:Aa)(ht:JI w):ET 162 #[Z k,.string (str (EU p++l))] w λe b=>(∃O,e=.returned (.tuple #[Z p,O])/\V.Row b w O v)/\Below w w b:=by
 have⟨_,hf,_,hp,_⟩:=Ng h;obtain⟨q,c⟩:∃q,w.alloc (.cells #[.string (str (EU p++l)),Z 6] 247)=q:=DK;have z:Below w.heap.size w q:=by
  rw[<-c];exact(AA _ _).alloc (Ar _) _
 have d:Dy q w.heap.size #[.string (str (EU p++l)),Z 6] 247:=by
  rw[<-c];exact AF w _
 have L:((V.E5 (b8 (p / 256)) (b8 (p % 256)):Nat):Int)=p:=by
  have h1:=FP (n:=p / 256) U U;have h2:=FP (n:=p % 256) U U;unfold V.E5;omega
 have F:=Dx (afV w.heap.size (b8 (p / 256)) (b8 (p % 256)) l q (ED d 0 _ I) (Eb d) hl);rw[L]at F;obtain⟨W,D⟩:∃W,W=(q.setCell (Y w.heap.size 0) (.string (str (b8 (p % 256) :: l)))).setCell (Y w.heap.size 0) (.string (str l)):=DR;rw[<-D]at F;have o:Below w.heap.size w W:=by
  rw[D];exact(z.setCell Ev _).setCell Ev _
 have y:Dy W w.heap.size #[.string (str l),Z 6] 247:=by
  rw[D];exact Ek (cs:=[.string (str (b8 (p % 256) :: l)),Z 6]) (off:=0) (Ek (cs:=[.string (str (EU p++l)),Z 6]) (off:=0) d (.string (str (b8 (p % 256) :: l)))) (.string (str l))
 have P:=Dx (NK k p f t h W (ht.h o));have HW:Hid (∀b c0 c1 c2 S,V.NP b S (V.nx f) (f.size+1) 0 c0 c1 c2->ET 181 #[.agg #[c0,c1,c2],.string (str l)] b λe C=>(∃O,e=.returned O/\V.Row C b.heap.size O v)/\Below b.heap.size b C):=λb c0 c1 c2 S hR=>aW f hf S c0 c1 c2 l v hu b hR
 have H:=Dx c;have s:=Dx o;have u:=Dx y;clear D o y z d ht hu c;generalize str l=SL at *;generalize str (EU p++l)=SM at *
 delta ET
 go_in
 go_wp2_with fail
 rw[Dw H];refine(Dw F).mono ?_;rintro e w0 ⟨rfl,B⟩;rw[B];clear B;go_wp2_with fail
 refine(Dw P).mono ?_;rintro e E ⟨⟨a0,a1,a2,b0,b1,b2,rfl,⟨S1,j⟩,⟨S2,x⟩⟩,m⟩;obtain⟨⟨x0,rfl⟩,⟨x1,rfl⟩,⟨Q,X,T,rfl⟩⟩:=V.GN j;obtain⟨⟨y0,rfl⟩,⟨y1,rfl⟩,⟨fa,fn,fc,rfl⟩⟩:=V.GN x;have g:=(Dw s).trans (m.mono (Dw s).size);have i:Hid (Below w.heap.size w ((E.alloc (N2 x0 x1 Q X T)).alloc (N2 y0 y1 fa fn fc))):=(g.alloc g.size _).alloc (by have:=g.size;simp;omega) _;have r:Hid (Below E.heap.size E ((E.alloc (N2 x0 x1 Q X T)).alloc (N2 y0 y1 fa fn fc))):=((AA _ _).alloc (Ar _) _).alloc Ev _;have J:=Dx (Na j (Dw r));have HC:=Dx ((Dw HW) _ _ _ _ _ (Dw J));have N:=(m.block w.heap.size (Dv (Dw u))).trans (Dw u);have c0:=ED N 0 _ I;have aa:=Dv N;clear j x m P r g N;go_wp2_with fail
 refine(Dw HC).mono ?_;rintro e w3 ⟨⟨O,rfl,a⟩,A⟩;have G:=Dx ((Dw i).trans (A.mono (Dw i).size));have⟨oa,on,oc,M⟩:=Ei a;subst M;have K:=Dx (V.GL a (Dw i).size);clear A a;go_wp2
 go_ret2
 exact⟨⟨_,I,Dw K⟩,Dw G⟩
namespace V
variable {s:ByteArray}{ks:List Bool}{r v:List It}{f p q:Nat}{g:Nat→Nat}
def IG(s:Ab)(v:List It):Option (List UInt8):=match Hg (nx s) (s.size+1) 0 v with
 |some (ks,[])=>some (Et ks v)
 |_=>none
theorem dD(hc:(Pt.O7 (nx s) s).1=0)(b:∀out,IG s v=some out->out.length<=70):(match IG s v with|some out=>Jk s v=(0,out)|none=>¬(Jk s v).1=0):=by
 have a:Jk s v=Sw (Hg (nx s) (s.size+1) 0 v) v:=by simp[Jk,hc]
 rw[a];unfold IG at b ⊢;cases he:Hg (nx s) (s.size+1) 0 v with
 |none=>simp[Sw]
 |some x=>grind [Sw]
theorem TS(h:Hg g (f+1) p v=(ks,r))(e:g p≠97)(b:g p≠114)(c:g p≠115)(d:g p≠117)(a:g p≠113):ks=[false]:=by
 unfold Hg EO at h
 grind [E6,Gu]
theorem yR(h:Hg g (f+1) p v=(ks,r))(a:g p=115):ks=[true]/\∃x,v=x :: r/\x.2.size<=14:=by
 unfold Hg EO at h
 grind [E6,Gu]
theorem ax{E:Nat->List It->GB}(c:∀v a r,E q v=some (a,r)->a=[false]):∀(k:Nat) (v r:List It) (a:List Bool),E6 E (List.replicate k q) v=some (a,r)->a=List.replicate k false
 |0,v,r,a,h=>by
  simp only[List.replicate_zero,E6]at h;cases h;rfl
 |k+1,v,r,a,h=>by
  rw[BV,E6]at h;cases he:E q v with
  |none=>rw[he]at h;cases h
  |some x=>
   have⟨d,b⟩:=x;rw[he]at h;simp only at h;cases hs:E6 E (List.replicate k q) b with
   |none=>rw[hs]at h;cases h
   |some y=>
    have⟨k2,e⟩:=y;rw[hs]at h;simp only[Gu]at h;cases h;rw[c v d b he,ax c k b _ _ hs,BV];rfl
theorem Ps:∀(k:Nat) (v:List It),(Et (List.replicate k false) v).length<=2*k
 |0,v=>by simp[Et]
 |k+1,[]=>by simp[List.replicate_succ,Et]
 |k+1,x :: v=>by
  have:=Ps k v;rw[BV,Et,AJ];simp only[KL,EU];simp;omega
theorem TV{out:Ac}(h:IG s v=out)(e:nx s 0≠97)(b:nx s 0≠114)(c:nx s 0≠115)(d:nx s 0≠117)(a:nx s 0≠113):out.length<=70:=by
 unfold IG at h;split at h
 .rename_i g f;cases h;rw[TS f e b c d a];have:=Ps 1 v
  grind
 .cases h
theorem VO{out:Ac}(h:IG s v=out)(a:nx s 0=115):out.length<=70:=by
 unfold IG at h;split at h
 .rename_i f d;cases h;have⟨b,x,c,e⟩:=yR d a;rw[b,c];have e0:x.2.data.toList.length=x.2.size:=BO
  grind [Et,EU,KL]
 .cases h
def M1:ByteArray:={data:=#[114,40,101,51,113,51,105,41]}
theorem lL:Pt.EW (nx M1) 8 0=[2,4]:=Kx
theorem yL:nx M1 0=114/\nx M1 2=101/\nx M1 4=113/\nx M1 6=105:=Kx
theorem yN:FD (nx M1) 7 4=3:=Kx
theorem TU{out:Ac}(h:IG M1 v=out):out.length<=70:=by
 unfold IG at h;have⟨a0,a2,a4,a6⟩:=yL;split at h
 .rename_i i a;cases h;rw[show M1.size+1=8+1 from rfl]at a;unfold Hg EO at a;rw[Ao U,Ay a0,lL]at a;simp only[E6]at a;cases h1:Hg (nx M1) 8 2 v with
  |none=>rw[h1]at a;cases a
  |some x1=>
   have⟨j,b⟩:=x1;rw[h1]at a;simp only at a;have e1:=TS (f:=7) h1 U U U U U;cases h2:Hg (nx M1) 8 4 b with
   |none=>rw[h2]at a;cases a
   |some x2=>
    have⟨k2,o⟩:=x2;rw[h2]at a;simp only[Gu]at a;cases a;have e2:∃n,n<=4/\k2=List.replicate n false:=by
     rw[show (8:Nat)=7+1 from rfl]at h2;unfold Hg EO at h2;rw[Ao U,Ao U]at h2;cases b with
     |nil=>cases h2
     |cons x b=>
      simp only at h2;rw[Ao (show ¬nx M1 4=115 by omega)]at h2;split at h2
      .cases h2
      .rename_i k0 l m c;split at c
       .rename_i g;rw[Ao U]at c;cases c;cases hs:E6 (Hg (nx M1) 7) (List.replicate x.1.toNat 6) b with
        |none=>rw[hs]at h2;cases h2
        |some y=>
         have⟨k,p⟩:=y;rw[hs]at h2;simp only[Gu]at h2;cases h2;have e3:=ax (E:=Hg (nx M1) 7) (q:=6) (λv i r e=>TS (f:=6) e U U U U U) x.1.toNat b _ _ hs;have d:=g.2.2;rw[yN]at d;exact⟨x.1.toNat+1,U,by rw[e3,BV];rfl⟩
       .cases c
    have⟨n,hn,e2⟩:=e2;subst e1 e2;have:=Ps (n+1) v
    grind
 .cases h
theorem mG(hc:(Pt.O7 (nx s) s).1=0)(a:∀out,IG s v=some out->out.length<=70)(h:¬(Jk s v).1=0):(Jk s v).1=4:=by
 have b:Jk s v=Sw (Hg (nx s) (s.size+1) 0 v) v:=by unfold Jk;rw[Ay hc]
 rw[b]at h ⊢;unfold IG at a;cases he:Hg (nx s) (s.size+1) 0 v with
 |none=>rfl
 |some x=>grind [Sw]
end V
theorem acF:(zeroValue 3).run prog w=.ok (Z 0) w:=EL
theorem pK(h:-9223372036854775808<=u/\u<=9223372036854775807):(Lit.int .i64 u).wf=true:=by grind [Lit.wf,IntKind.min,IntKind.max,IntKind.bits,IntKind.signed]
section
variable {α:Type} {w:Aa} {k t:Ag} {b n:Nat} {lit:α->Lit} {g:α->Option Int}
theorem Mp.look(h:Mp w k b lit g n)(K:Keyed prog k)(i:prog.underlying t=some (.map k 3)){key:Ad}{a:α}(d:keyOf prog k key=lit a):(Instr.lookup t (.map (b)) key true).run prog w=.ok (.tuple #[.int .i64 ((g a).getD 0),.bool (g a).isSome]) w:=by
 have⟨D,f,l,h3⟩:=h;obtain⟨v,m,e,j⟩:=f.look_ok K i (acF) (plainElem_int underlying3 (pK (by omega))) d;obtain⟨c,rfl,hc,_⟩:=plainElem_int_inv underlying3 j;simp only[Prod.mk.injEq]at hc;rw[e,(h3 a).1];cases hg:g a with
 |some x=>grind
 |none=>
  exact ab2
theorem Mp.put(h:Mp w k b lit g n)(K:Keyed prog k)(E:prog.underlying t=some (.map k 3))(hn:n<1000){key:Ad}{a:α}(f:keyOf prog k key=lit a)(hl:∀x y,lit x=lit y->x=y)(d:WideAt.IsKeyLit (lit a))(F:-9223372036854775808<=v/\v<=9223372036854775807)(o:α->Option Int)(c:∀x,(x=a->o x=v)/\(¬x=a->o x=g x)):
  ∃l,(Instr.mapUpdate t (.map (b)) key (.int .i64 v)).run prog w=.ok () l/\Mp l k b lit o (if (g a).isSome then n else n+1)/\w.mapTurned l b:=by
 have⟨D,m,A,p⟩:=h;have⟨l,j,B,C⟩:=m.store K E (by unfold maxLen;omega) f (plainElem_int underlying3 (pK F));have q:=size_put (k:=lit a) (m.tidy K) (.lit (.int .i64 v));rw[(p a).1,A]at q;refine⟨l,j,⟨_,?_,q,λx=>?_⟩,C⟩
 .have⟨z,cl,G,H,J,u⟩:=B;refine⟨z,cl,G,H,?_,u⟩;rw[<-q,u];simp[Maps.size,length_sorted]
 .by_cases r:x=a
  .subst r;rw[(c x).1 rfl];refine⟨has_put_same m.isMap d _,λy s=>?_⟩;cases s;exact atKey_put_same m.isMap d _ _
  .have i:lit x≠lit a:=λe=>r (hl _ _ e)
   rw[(c x).2 r,has_put_other i];refine⟨(p x).1,λy s=>?_⟩;rw[atKey_put_other i];exact(p x).2 y s
theorem Mp.len(h:Mp w k b lit g n)(d:prog.underlying t=some (.map k 3))(ty:Ag):(Builtin.len_ #[t] ty #[.map (b)]).run prog w=.ok (Z n) w:=by
 have⟨D,a,c,e⟩:=h;rw[a.len d ty,c]
end
theorem Mp.Q(w:Aa)(k:Ag){α:Type}(lit:α->Lit):Mp (w.alloc (.map #[] 0)) k w lit (λ_=>none) 0:=
 ⟨.map [],World.ownsMap_made w _ _ _,rfl,λ_=>⟨rfl,λ_ h=>by cases h⟩⟩
theorem sZ{g:Int->Option Int}(h:Mp w 3 b Vl g n)(hu:-9223372036854775808<=u/\u<=9223372036854775807):(Instr.lookup 130 (.map (b)) (Z u) true).run prog w=.ok (.tuple #[Z ((g u).getD 0),.bool (g u).isSome]) w:=
 h.look (int_keyed underlying3) underlying130 (keyOf_int_mk underlying3 (pK hu))
theorem M6{g:List UInt8->Option Int}(h:Mp w 9 b Si g n){s:Ac}(a:s<=maxLen):(Instr.lookup 134 (.map (b)) (.string (str s)) true).run prog w=.ok (.tuple #[Z ((g s).getD 0),.bool (g s).isSome]) w:=
 h.look (string_keyed underlying9) underlying134 (by rw[Dc underlying9 (by rw[Er];exact a)])
theorem zN{g:Int->Option Int}(h:Mp w 3 b Vl g n)(hn:n<1000)(hu:-9223372036854775808<=u/\u<=9223372036854775807)(f:-9223372036854775808<=v/\v<=9223372036854775807)(a:Int->Option Int)(c:∀x,(x=u->a x=v)/\(¬x=u->a x=g x)):
  ∃d,(Instr.mapUpdate 130 (.map (b)) (Z u) (Z v)).run prog w=.ok () d/\Mp d 3 b Vl a (if (g u).isSome then n else n+1)/\w.mapTurned d b:=
 h.put (int_keyed underlying3) underlying130 hn (keyOf_int_mk underlying3 (pK hu)) (λx y e=>by cases e;rfl) BR f a c
theorem j6{g:List UInt8->Option Int}(h:Mp w 9 b Si g n)(hn:n<1000){s:Ac}(f:s<=maxLen)(i:-9223372036854775808<=v/\v<=9223372036854775807)(a:List UInt8->Option Int)(c:∀x,(x=s->a x=v)/\(¬x=s->a x=g x)):
  ∃d,(Instr.mapUpdate 134 (.map (b)) (.string (str s)) (Z v)).run prog w=.ok () d/\Mp d 9 b Si a (if (g s).isSome then n else n+1)/\w.mapTurned d b:=
 h.put (string_keyed underlying9) underlying134 hn (by rw[Dc underlying9 (by rw[Er];exact f)]) (λx y e=>by cases e;rfl) BR i a c
theorem LC(h:w.mapTurned w' b):DF (λk=>k=b) w w':=by
 have a:=h.grown;exact⟨a.os,a.tape,a.output,a.size,λk hk c=>a.block k hk (λe=>c (by cases e;rfl))⟩
theorem Qa(w:Aa)(b:Nat):w.drew.heap[b]?=w.heap[b]?:=rfl
abbrev fD(w:Aa)(b k:Nat)(st sq u pc:Int)(S:Ab)(a:Int)(S2:Ab)(wt tr:Int):World:=(((((((((w.setCell (Y b (k*10)) (Z st)).setCell (Y b (k*10+1)) (Z sq)).setCell (Y b (k*10+2)) (.slice none 0 0)).setCell (Y b (k*10+3)) (Z u)).setCell (Y b (k*10+4)) (Z pc)).setCell (Y b (k*10+5)) (.string S)).setCell (Y b (k*10+6)) (Z a)).setCell (Y b (k*10+7)) (.string S2)).setCell (Y b (k*10+8)) (Z wt)).setCell (Y b (k*10+9)) (Z tr)
theorem mY(w:Aa)(b k:Nat)(st c u pc:Int)(m:Ac)(a e d:Int):fD w b k st c u pc (str m) a ⟨#[]⟩ e d=jZ w b k ⟨st,c,Dz,u,pc,m,a,[],e,d⟩:=rfl
theorem kP(w:Aa)(b k:Nat)(u pc:Int)(m:Ac)(xs:List J7)(x:J7)(f:∃a n c,x.rv=.slice a n c)(h:Dy w b (tab J7.cells xs).toArray 129)(s:xs[k]?=x)(z:0<=x.a/\x.a<=1000):
  D7 148 #[.pointer (Y b (k*10)),.agg #[Z u,Z pc,.string (str m),Z 0,.string ⟨#[]⟩,Z 0,Z 0]] w Ep λt=>Dy t b (tab J7.cells (xs.set k ⟨1,x.a+1,Dz,u,pc,m,0,[],0,0⟩)).toArray 129/\DF (λq=>q=b) w t:=by
 have r:=Dv h;obtain⟨g,e⟩:∃g,w.alloc (.cells #[Z u,Z pc,.string (str m),Z 0,.string ⟨#[]⟩,Z 0,Z 0] 127)=g:=DK;have p:DY w g:=by
  rw[<-e];exact F9
 have j:Dy g w.heap.size #[Z u,Z pc,.string (str m),Z 0,.string ⟨#[]⟩,Z 0,Z 0] 127:=by
  rw[<-e];exact AF w _
 have d:=(p.block b r).trans h;obtain⟨a0,a1,a2,a3,a4,a5,a6,a7,a8,a9⟩:=sU d s;obtain⟨A,C,B,f⟩:=f;rw[f]at a2;have D:=Eb (off:=k*10) d;have E:=Eb (off:=k*10+1) d;have F:=Eb (off:=k*10+2) d;have G:=Eb (off:=k*10+3) d;have H:=Eb (off:=k*10+4) d;have J:=Eb (off:=k*10+5) d;have K:=Eb (off:=k*10+6) d;have L:=Eb (off:=k*10+7) d;have M:=Eb (off:=k*10+8) d;have N:=Eb (off:=k*10+9) d;obtain⟨o,i⟩:∃o,o=xs.set k ⟨1,x.a+1,Dz,u,pc,m,0,[],0,0⟩:=DR;rw[<-i];have v:Hid ((fD g b k 1 (x.a+1) u pc (str m) 0 ⟨#[]⟩ 0 0).drew.heap[b]?=some (.cells (tab J7.cells o).toArray 129)/\DF (λq=>q=b) w (fD g b k 1 (x.a+1) u pc (str m) 0 ⟨#[]⟩ 0 0).drew):=by
  have q:=j5 (w:=g) d s ⟨1,x.a+1,Dz,u,pc,m,0,[],0,0⟩;rw[i,mY];generalize jZ g b k ⟨1,x.a+1,Dz,u,pc,m,0,[],0,0⟩=W8 at q ⊢;rw[Qa];exact⟨q.1,((DF.J p _).trans q.2).drew⟩
 clear i;generalize str m=SM at *;obtain⟨c0,c1,c2,c3,c4⟩:=bC j 0 1 2 3 4;obtain⟨c5,c6⟩:=VL j 5 6;have e1:IntKind.i64.wrap (x.a+1)=x.a+1:=Iz;have l:=Dx e;have y:=Dv d;generalize x.a=sq at *;clear h s e p j d f
 delta D7
 go_in
 go_wp2_with fail
 rw[Dw l]
 go_region
 all_goals
  go_wp2;go_returns;exact⟨I,v⟩
theorem ZR(w:Aa)(cb b k:Nat)(rt a:Int)(xs:List J7)(x:J7)(h:Dy w b (tab J7.cells xs).toArray 129)(d:xs[k]?=x)(l:EB w cb 4 (Z rt))(o:EB w cb 5 (Z a))(c:¬cb=b):
  D7 149 #[ptr cb,.pointer (Y b (k*10))] w Ep λg=>Dy g b (tab J7.cells (xs.set k {x with C:=rt,e:=a})).toArray 129/\DF (λq=>q=b) w g:=by
 have⟨a0,a1,a2,a3,a4,a5,a6,a7,a8,a9⟩:=sU h d;have p:=Eb (off:=k*10+8) h;have r:=Eb (off:=k*10+9) h;have e1:=GJ (j:=8) (x':={x with C:=rt}) (v:=Z rt) h d U I;have e2:=GJ (j:=9) (x':={x with C:=rt,e:=a}) (v:=Z a) e1.1 e1.2 U I;simp only[A5]at e2;have m:=Gv l;have n:=Dv h;have f:¬b=cb:=λe=>c e.symm
 have i:=Dx e2.1;clear e1 e2 h d a0 a1 a2 a3 a4 a5 a6 a7
 delta D7
 go_in
 go_wp2;go_returns;exact⟨I,i,(Eg _).trans (Eg _)⟩
abbrev agn(w:Aa)(b:Nat)(v0 v1 v2 v3 v4:Ad):World:=((((w.setCell (Y b 0) v0).setCell (Y b 1) v1).setCell (Y b 2) v2).setCell (Y b 3) v3).setCell (Y b 4) v4
theorem sH(i:F b\/a<=b)(h:DF F a w)(c d e f g:Ad):DF F a (agn w b c d e f g):=by grind [DF.setCell]
theorem Uc{buf:Array Value}{cl:Bool}{r:Nat}{tm:Bool}:DF (λk=>k=c) w (w.setChan c cap buf cl s r tm):=by grind [DF,World.setChan]
theorem ZI(w:Aa)(s jc cap a b:Nat)(buf:Array Value)(c0 c1 c2 c3 c4:Int)(h19:w.cell? (Y s 19)=some (.chan (jc)))(i:w.heap[jc]?=some (.chan cap buf false a b false))(j:buf<cap):
  D7 265 #[.pointer (Y s 0),.agg #[Z c0,Z c1,Z c2,Z c3,Z c4]] w DC λw'=>w'.heap[jc]?=some (.chan cap (buf.push (.agg #[Z c0,Z c1,Z c2,Z c3,Z c4])) false (a+1) b false)/\DF (λk=>k=jc) w w':=by
 refine calls_of_loneTo λcs=>?_
 have e:Frame.enter prog 265 #[.pointer (some (Y s 0)),.agg #[Z c0,Z c1,Z c2,Z c3,Z c4]] .normal=(base 265).at ⟨#[.pointer (some (Y s 0)),.agg #[Z c0,Z c1,Z c2,Z c3,Z c4],undef,undef,undef,undef,undef,undef,undef,undef,undef,undef,undef,undef],[]⟩ [.code (f265.body.getD .skip)]:=by
  simp[Frame.enter,Frame.at,func265,base,f265]
 rw[e];have hl:s<w.heap.size:=by
  exact aaG
 refine LoneTo.goes (n:=50) ?_;simp only[f265,Bw]
 s_c stepG_seq
 s_reg
 s_op
 s_op
 s_c stepG_region_end
 s_c stepG_seq
 s_c stepG_seq
 s_reg
 s_op
 s_op
 s_op
 s_op
 s_op
 s_c stepG_region_end
 s_reg
 s_op
 s_c stepG_region_end
 s_c stepG_seq
 s_reg
 s_stop
 obtain⟨d,f⟩:∃d,w.alloc (.cells #[Z c0,Z c1,Z c2,Z c3,Z c4] 170)=d:=DK;rw[f];have hB:DY w d:=by rw[<-f];exact F9
 have g:=(AB.1 i).1;have h:d.heap[jc]?=some (.chan cap buf false a b false):=by rw[hB.block jc g];exact i
 refine LoneTo.step (step_lone_select_send_room (c:=jc) (cap:=cap) (buf:=buf) (s:=a) (r:=b) (tm:=false) (stepG_comm (cases:=#[scase jc (.agg #[Z c0,Z c1,Z c2,Z c3,Z c4]) (.agg #[Z 0,Z 0,Z 0,Z 0,Z 0])]) (blocking:=false) (shape:=.select) (w':=d) I I Em (by simp[go_sem,execOp,scase,Act.eval])) h j) ?_;rw[Frame.finish_at]
 walk_nrm
 refine LoneTo.goes (n:=20) ?_
 s_op
 s_op
 s_c stepG_region_end
 s_c stepG_block
 s_cond true
 s_c stepG_seq
 s_reg
 s_op
 s_c stepG_region_end
 s_c stepG_ret'
 s_stop
 refine LoneTo.done ⟨.returned DC,_,I,⟨I,heap_setChan d jc cap _ false (a+1) b false (Ai g hB.size),?_⟩,I,I,I,I,_,func265,by simp[results,f265,Frame.at]⟩;exact(DF.J hB _).trans (Uc)
theorem ZH(w:Aa)(s jc cap a b:Nat)(buf:Array Value)(c0 c1 c2 c3 c4:Int)(h19:w.cell? (Y s 19)=some (.chan (jc)))(h:w.heap[jc]?=some (.chan cap buf false a b false))(i:cap<=buf):
  D7 265 #[.pointer (Y s 0),.agg #[Z c0,Z c1,Z c2,Z c3,Z c4]] w DI (DY w):=by
 refine calls_of_loneTo λcs=>?_
 have e:Frame.enter prog 265 #[.pointer (some (Y s 0)),.agg #[Z c0,Z c1,Z c2,Z c3,Z c4]] .normal=(base 265).at ⟨#[.pointer (some (Y s 0)),.agg #[Z c0,Z c1,Z c2,Z c3,Z c4],undef,undef,undef,undef,undef,undef,undef,undef,undef,undef,undef,undef],[]⟩ [.code (f265.body.getD .skip)]:=by
  simp[Frame.enter,Frame.at,func265,base,f265]
 rw[e];have hl:s<w.heap.size:=by
  exact aaG
 refine LoneTo.goes (n:=50) ?_;simp only[f265,Bw]
 s_c stepG_seq
 s_reg
 s_op
 s_op
 s_c stepG_region_end
 s_c stepG_seq
 s_c stepG_seq
 s_reg
 s_op
 s_op
 s_op
 s_op
 s_op
 s_c stepG_region_end
 s_reg
 s_op
 s_c stepG_region_end
 s_c stepG_seq
 s_reg
 s_stop
 obtain⟨d,f⟩:∃d,w.alloc (.cells #[Z c0,Z c1,Z c2,Z c3,Z c4] 170)=d:=DK;rw[f];have hB:DY w d:=by rw[<-f];exact F9
 have g:d.heap[jc]?=some (.chan cap buf false a b false):=by rw[hB.block jc ((AB.1 h).1)];exact h
 refine LoneTo.step (step_lone_select_send_full (c:=jc) (cap:=cap) (buf:=buf) (s:=a) (r:=b) (tm:=false) (stepG_comm (cases:=#[scase jc (.agg #[Z c0,Z c1,Z c2,Z c3,Z c4]) (.agg #[Z 0,Z 0,Z 0,Z 0,Z 0])]) (blocking:=false) (shape:=.select) (w':=d) I I Em (by simp[go_sem,execOp,scase,Act.eval])) g i) ?_;rw[Frame.finish_at]
 walk_nrm
 refine LoneTo.goes (n:=20) ?_
 s_op
 s_op
 s_c stepG_region_end
 s_c stepG_block
 s_cond false
 s_c stepG_seq
 s_reg
 s_op
 s_c stepG_region_end
 s_c stepG_ret'
 s_stop
 exact LoneTo.done ⟨.returned DI,_,I,⟨I,hB⟩,I,I,I,I,_,func265,by simp[results,f265,Frame.at]⟩
theorem XY(w:Aa)(s jc cap a b:Nat)(buf:Array Value)(c0 c1 c2 c3 c4:Int)(h19:w.cell? (Y s 19)=some (.chan (jc)))(x:w.heap[jc]?=some (.chan cap buf false a b false))(C:0<buf.size)(A:buf.getD 0 undef=.agg #[Z c0,Z c1,Z c2,Z c3,Z c4]):
  D7 95 #[.pointer (Y s 0)] w (.tuple #[.agg #[Z c0,Z c1,Z c2,Z c3,Z c4],DC]) λw'=>w'.heap[jc]?=some (.chan cap (buf.extract 1 buf) false a (b+1) false)/\DF (λk=>k=jc) w w':=by
 refine calls_of_loneTo λcs=>?_
 have e:Frame.enter prog 95 #[.pointer (some (Y s 0))] .normal=(base 95).at ⟨#[.pointer (some (Y s 0)),undef,undef,undef,undef,undef,undef,undef,undef,undef,undef,undef,undef,undef,undef,undef],[]⟩ [.code (f95.body.getD .skip)]:=by
  simp[Frame.enter,Frame.at,func95,base,f95]
 rw[e];have hl:s<w.heap.size:=by
  exact aaG
 refine LoneTo.goes (n:=50) ?_;simp only[f95,Bw]
 s_c stepG_seq
 s_reg
 s_op
 s_op
 s_c stepG_region_end
 s_c stepG_seq
 s_reg
 s_op
 s_op
 s_op
 s_op
 s_op
 s_c stepG_region_end
 s_c stepG_seq
 s_reg
 s_stop
 obtain⟨d,g⟩:∃d,w.alloc (.cells #[Z 0,Z 0,Z 0,Z 0,Z 0] 170)=d:=DK;rw[g];have hB:DY w d:=by rw[<-g];exact F9
 have l:=(AB.1 x).1;have q:d.heap[jc]?=some (.chan cap buf false a b false):=by rw[hB.block jc l];exact x
 have hz:d.heap[w.heap.size]?=some (.cells #[Z 0,Z 0,Z 0,Z 0,Z 0] 170 (0,0)):=by rw[<-g];exact AF w _
 refine LoneTo.step (step_lone_select_recv_buf (c:=jc) (cap:=cap) (buf:=buf) (closed:=false) (s:=a) (r:=b) (tm:=false) (stepG_comm (cases:=#[rcase jc (.agg #[Z 0,Z 0,Z 0,Z 0,Z 0])]) (blocking:=false) (shape:=.select) (w':=d) I I Em (by simp[go_sem,execOp,rcase,Act.eval])) q C) ?_;rw[Frame.finish_at,A]
 walk_nrm
 obtain⟨f,h⟩:∃f,d.setChan jc cap (buf.extract 1 buf.size) false a (b+1) false=f:=DK;rw[h];have m:DF (λk=>k=jc) d f:=by rw[<-h];exact Uc
 have t:f.heap[jc]?=some (.chan cap (buf.extract 1 buf.size) false a (b+1) false):=by rw[<-h];exact heap_setChan d jc cap _ false a (b+1) false (Ai l hB.size)
 have p:f.heap[w.heap.size]?=some (.cells #[Z 0,Z 0,Z 0,Z 0,Z 0] 170 (0,0)):=by
  rw[m.block _ ((AB.1 hz).1) U];exact hz
 obtain⟨d0,d1,d2,d3,d4⟩:=bC p 0 1 2 3 4;have z:∀j,f.frozen? (EN w j)=false:=λj=>Eb p
 have u:=(AB.1 p).1;have B:w.heap.size≠f.heap.size:=U;have y:f.heap.size≠w.heap.size:=U;refine LoneTo.goes (n:=30) ?_
 s_op
 s_op
 s_c stepG_region_end
 s_c stepG_block
 s_cond true
 s_c stepG_seq
 s_reg
 s_op
 s_op
 s_op
 s_c stepG_region_end
 s_c stepG_seq
 s_reg
 s_op
 s_op
 s_op
 s_c stepG_region_end
 s_c stepG_ret'
 s_stop
 have v:=(sH (F:=λk=>k=w.heap.size) (b:=w.heap.size) (Aj I) (DF.refl (λk=>k=w.heap.size) f) (Z c0) (Z c1) (Z c2) (Z c3) (Z c4)).alloc (.cells #[Z c0,Z c1,Z c2,Z c3,Z c4] 170);refine LoneTo.done ⟨.returned (.tuple #[.agg #[Z c0,Z c1,Z c2,Z c3,Z c4],DC]),_,I,⟨I,?_,?_⟩,I,I,I,I,_,func95,?_⟩
 .exact(v.block jc (Ai (Ai l hB.size) m.size) U).trans t
 .exact((DF.J hB _).trans m).andThen v (λi hi e=>by omega)
 .simp[results,f95,Frame.at,go_sem,u,d0,d1,d2,d3,d4]
theorem XX(w:Aa)(s jc cap a b:Nat)(h19:w.cell? (Y s 19)=some (.chan (jc)))(h:w.heap[jc]?=some (.chan cap #[] false a b false)):
  D7 95 #[.pointer (Y s 0)] w (.tuple #[.agg #[Z 0,Z 0,Z 0,Z 0,Z 0],DI]) (DY w):=by
 refine calls_of_loneTo λcs=>?_
 have e:Frame.enter prog 95 #[.pointer (some (Y s 0))] .normal=(base 95).at ⟨#[.pointer (some (Y s 0)),undef,undef,undef,undef,undef,undef,undef,undef,undef,undef,undef,undef,undef,undef,undef],[]⟩ [.code (f95.body.getD .skip)]:=by
  simp[Frame.enter,Frame.at,func95,base,f95]
 rw[e];have hl:s<w.heap.size:=by
  exact aaG
 refine LoneTo.goes (n:=50) ?_;simp only[f95,Bw]
 s_c stepG_seq
 s_reg
 s_op
 s_op
 s_c stepG_region_end
 s_c stepG_seq
 s_reg
 s_op
 s_op
 s_op
 s_op
 s_op
 s_c stepG_region_end
 s_c stepG_seq
 s_reg
 s_stop
 obtain⟨d,f⟩:∃d,w.alloc (.cells #[Z 0,Z 0,Z 0,Z 0,Z 0] 170)=d:=DK;rw[f];have hB:DY w d:=by rw[<-f];exact F9
 have g:d.heap[jc]?=some (.chan cap #[] false a b false):=by rw[hB.block jc ((AB.1 h).1)];exact h
 have hz:Dy d w.heap.size #[Z 0,Z 0,Z 0,Z 0,Z 0] 170:=by rw[<-f];exact AF w _
 have hzl:=(AB.1 hz).1;refine LoneTo.step (step_lone_select_default (c:=jc) (cap:=cap) (s:=a) (r:=b) (tm:=false) (stepG_comm (cases:=#[rcase jc (.agg #[Z 0,Z 0,Z 0,Z 0,Z 0])]) (blocking:=false) (shape:=.select) (w':=d) I I Em (by simp[go_sem,execOp,rcase,Act.eval])) g) ?_;rw[Frame.finish_at]
 walk_nrm
 have d0:=EI hz 0;have d1:=EI hz 1;have d2:=EI hz 2;have d3:=EI hz 3;have d4:=EI hz 4;have z:∀j,d.frozen? (EN w j)=false:=λj=>Eb hz
 refine LoneTo.goes (n:=30) ?_
 s_op
 s_op
 s_c stepG_region_end
 s_c stepG_block
 s_cond false
 s_c stepG_seq
 s_reg
 s_op
 s_op
 s_op
 s_c stepG_region_end
 s_c stepG_ret'
 s_stop
 refine LoneTo.done ⟨.returned (.tuple #[.agg #[Z 0,Z 0,Z 0,Z 0,Z 0],DI]),_,I,⟨I,?_⟩,I,I,I,I,_,func95,?_⟩
 .exact((DF.J hB (λk=>k=w.heap.size)).trans (sH (F:=λk=>k=w.heap.size) (b:=w.heap.size) (Aj I) (DF.refl (λk=>k=w.heap.size) d) (Z 0) (Z 0) (Z 0) (Z 0) (Z 0))).h (Ar _) (λk e=>by omega)
 .simp[results,f95,Frame.at,go_sem,d0,d1,d2,d3,d4]
abbrev cv(P:Pk):Value:=.agg #[Z P.f,Z P.b,Z P.H,Z P.a,Z P.c]
theorem Td{a b:Ac}(c:a.length<=1000)(d:b.length<=1000)(w:Aa):(Op.stringOp .add (str a) (str b)).run prog w=.ok (.string (str (a++b))) w:=by
 have e1:str a++str b=str (a++b):=by
  apply CJ;simp
 rw[<-e1];exact C6 w _ _ (by rw[Er,Er];omega)
theorem Nr(P:Pk)(w:Aa):D7 250 #[pv P] w (cv P) (DY w):=by
 delta D7
 go_in
 go_wp2;go_returns;exact⟨I,F9.alloc Ev _⟩
theorem ZN(a:World->Prop)
  (i:Hid (∀f,DY w f->D7 220 #[.pointer (Y s 0),cv P,S9 7 0 0 0 0 0 why 2 false ⟨#[]⟩] f Ep λe=>a e)):
  D7 249 #[.pointer (Y s 0),pv P,Z why] w Ep λe=>a e:=by
 have h:=Dx (λw=>Nr P w);have g:Hid (∀o,DY w (w.alloc o)):=λo=>F9
 delta D7
 go_in
 go_wp2_with (first|(go_at_call 250;refine cm (h _) λj b=>?_;have c:=Dx ((g _).trans (b.mono Ev));clear b)|(go_at_call 220;refine cm (i _ c) λk d=>?_))
 go_returns;exact⟨I,d⟩
abbrev pt(b:Nat):Value:=.pointer (Y b 0)
theorem eQ(a:World->Prop)(q:EB w b 5 (Z st))(h:0<=st/\st<=3)
  (p:Hid (st=3->∀d,DY w d->D7 249 #[pt s,pv P,Z 0] d Ep λe=>a e))
  (n:Hid (st=2->P.e=true->∀d,DY w d->D7 166 #[pt s,pt b] d Ep λe=>a e))
  (m:Hid (st=1->P.e=true->∀d,DY w d->D7 252 #[pt s,pv P] d Ep λe=>a e))
  (l:Hid (st=0->P.J=1->∀d,DY w d->D7 251 #[pt s,pt b,pv P] d Ep λe=>a e))
  (g:Hid (((st=1\/st=2)/\P.e=false)\/(st=0/\¬P.J=1)->∀d,DY w d->a d)):
  D7 216 #[pt s,pt b,pv P] w Ep λe=>a e:=by
 have HB:Hid (∀o,DY w (w.alloc o)):=λo=>F9
 have hl:=Gv q;obtain⟨i,cl,t,ln,r,u,pa,o,k,f⟩:=P;dsimp only at *;generalize str f=SB at *;have hc:st=0\/st=1\/st=2\/st=3:=U;clear h;rcases hc with rfl|rfl|rfl|rfl
 .by_cases hk:i=1
  .have e1:(i==1)=true:=by simpa using hk
   have HQ:=Dx (l I hk);clear hk
   delta D7
   go_in
   go_wp2_with (first|(go_at_call 251;refine cm (HQ _ (by first|exact HB _|exact Ed (HB _) _|exact(HB _).drew|exact(HB _).drew.drew|exact Ed (Ed (HB _) _) _)) λj c=>?_))
   go_returns;exact⟨I,c⟩
  .have e1:(i==1)=false:=by simpa using hk
   have HQ:=Dx (g (Am ⟨I,hk⟩));clear hk
   delta D7
   go_in
   exact aaD
 .cases k with
  |true=>
   have HQ:=Dx (m I I)
   delta D7
   go_in
   go_wp2_with (first|(go_at_call 252;refine cm (HQ _ (by first|exact HB _|exact Ed (HB _) _|exact(HB _).drew|exact(HB _).drew.drew|exact Ed (Ed (HB _) _) _)) λj c=>?_))
   go_returns;exact⟨I,c⟩
  |false=>
   have HQ:=Dx (g (Aj ⟨Aj I,I⟩))
   delta D7
   go_in
   exact aaD
 .cases k with
  |true=>
   have HQ:=Dx (n I I)
   delta D7
   go_in
   go_wp2_with (first|(go_at_call 166;refine cm (HQ _ (by first|exact HB _|exact Ed (HB _) _|exact(HB _).drew|exact(HB _).drew.drew|exact Ed (Ed (HB _) _) _)) λj c=>?_))
   go_returns;exact⟨I,c⟩
  |false=>
   have HQ:=Dx (g (Aj ⟨Am I,I⟩))
   delta D7
   go_in
   exact aaD
 .have HQ:=Dx (p I)
  delta D7
  go_in
  go_wp2_with (first|(go_at_call 249;refine cm (HQ _ (by first|exact HB _|exact Ed (HB _) _|exact(HB _).drew|exact(HB _).drew.drew|exact Ed (Ed (HB _) _) _)) λj c=>?_))
  go_returns;exact⟨I,c⟩
theorem bP(a:World->Prop)
  (HQ:Hid (∀c,DY w c->D7 215 #[pt s,.pointer none,pv P] c Ep λb=>a b)):
  D7 157 #[pt s,.pointer none,pv P] w Ep λb=>a b:=by
 have HB:Hid (∀o,DY w (w.alloc o)):=λo=>F9
 exact afC
theorem Yl(a:World->Prop)(h:EB w b 3 (Z sq))
  (f:Hid (sq<P.a->∀c,DY w c->D7 215 #[pt s,pt b,pv P] c Ep λd=>a d))
  (e:Hid (sq=P.a->∀c,DY w c->D7 216 #[pt s,pt b,pv P] c Ep λd=>a d))
  (g:Hid (P.a<sq->∀c,DY w c->a c)):
  D7 157 #[pt s,pt b,pv P] w Ep λd=>a d:=by
 have HB:Hid (∀o,DY w (w.alloc o)):=λo=>F9
 have hl:=Gv h;rcases Int.lt_trichotomy sq P.a with hc|hc|hc
 .have HQ:=Dx (f hc);have e1:decide (sq<P.a)=true:=by simpa using hc
  exact afC
 .have HQ:=Dx (e hc);have e1:decide (sq<P.a)=false:=Fy;have e2:(sq==P.a)=true:=by simpa using hc
  clear hc
  delta D7
  go_in
  go_wp2_with fail
  go_quiet (fail);go_wp2_with fail
  go_quiet (fail);go_wp2_with (first|(go_at_call 216;refine cm (HQ _ (by first|exact HB _|exact Ed (HB _) _|exact(HB _).drew|exact(HB _).drew.drew|exact Ed (Ed (HB _) _) _)) λw3 hw3=>?_))
  go_returns;exact⟨I,hw3⟩
 .have HQ:=Dx (g hc);have e1:decide (sq<P.a)=false:=Fy;have e2:(sq==P.a)=false:=Fy;clear hc
  delta D7
  go_in
  go_wp2_with fail
  go_quiet (fail);go_wp2_with fail
  go_quiet (fail);exact aaD
theorem XW(a b:Ac):str (a++b)=str a++str b:=by
 apply CJ;simp
theorem qp(w:Aa)(s b:Nat)(P:Pk)(a:Ac)(d:World->Prop)(h:EB w b 6 (.string (str a)))(x:DJ w b 6)(m:a.length<=1000)(n:P.d.length<=1000)(p:1<=P.off/\P.off<=9)(hn:¬P.Ez=P.off-1)
  (f:Hid (∀g,Below w (w.setCell (Y b 6) (.string (str (a++P.d)))) g->d g)):
  D7 262 #[pt s,pt b,pv P] w DC λk=>d k:=by
 have e:Hid (∀o v,Below (zz w) (w.setCell (Y b 6) v) ((w.setCell (Y b 6) v).alloc o)):=λo v=>(AA _ _).alloc Ev _
 have hl:=Gv h;have⟨q,cl,r,ln,j,u,pa,o,t,c⟩:=P;dsimp only[pv]at *;rw[XW a c]at f;have i:¬9223372036854775807<(str a).size+(str c).size:=by rw[Er,Er];omega
 generalize str c=SB at *;generalize str a=SA at *;have l:IntKind.i64.wrap (o-1)=o-1:=Iz;have e1:(pa==o-1)=false:=by simpa using hn
 clear hn
 delta D7
 go_in
 go_wp2_with fail
 go_region
 all_goals
  go_wp2;go_returns;exact⟨I,f _ (by first|exact e _ _|exact(e _ _).drew)⟩
theorem qm(w:Aa)(s b:Nat)(P:Pk)(c0 c1 c2 c3 c4:Int)(h:EB w b 0 (Z c0))(k:EB w b 1 (Z c1))(l:EB w b 2 (Z c2))(m:EB w b 3 (Z c3))(n:EB w b 4 (Z c4))(p:1<=P.off/\P.off<=9)(hn:P.Ez=P.off-1)
  (g:Hid (∀d,DY w d->D7 265 #[pt s,.agg #[Z c0,Z c1,Z c2,Z c3,Z c4]] d DI (DY d))):
  D7 262 #[pt s,pt b,pv P] w DI (DY w):=by
 have e:Hid (∀o,DY w (w.alloc o)):=λo=>F9
 have hl:=Gv h;have⟨q,cl,r,ln,i,u,pa,o,t,f⟩:=P;dsimp only[pv]at *;have j:IntKind.i64.wrap (o-1)=o-1:=Iz;have e1:(pa==o-1)=true:=by simpa using hn
 clear hn
 delta D7
 go_in
 go_wp2_with (first|(go_at_call 265;refine cm (g _ (e _)) λv a=>?_;have c:=Dx ((e _).trans (a.mono Ev));clear a))
 go_returns;exact⟨I,c⟩
theorem qo(w:Aa)(s b:Nat)(P:Pk)(a:Ac)(c0 c1 c2 c3 c4 st:Int)(A f:World->Prop)(k:w.cell? (Y b 0)=Z c0)(M:w.cell? (Y b 1)=Z c1)(N:w.cell? (Y b 2)=Z c2)(O:w.cell? (Y b 3)=Z c3)(Q:w.cell? (Y b 4)=Z c4)(W:1<=P.off/\P.off<=9)(hn:P.Ez=P.off-1)(S:a.length<=1000)(T:P.d.length<=1000)
  (B:Hid (∀e,DY w e->D7 265 #[pt s,.agg #[Z c0,Z c1,Z c2,Z c3,Z c4]] e DC λc=>A c/\(∀x,w.heap.size<=x->x<e->c.heap[x]?=e.heap[x]?)/\e<=c.heap.size))
  (y:Hid (∀c,A c->c.cell? (Y b 6)=some (.string (str a))/\DJ c b 6/\c.cell? (Y b 5)=Z st/\DJ c b 5))
  (p:Hid (∀c e,A c->Below c ((c.setCell (Y b 6) (.string (str (a++P.d)))).setCell (Y b 5) (Z 1)) e->f e)):
  D7 262 #[pt s,pt b,pv P] w DC λc=>f c:=by
 have z:Hid (∀o,DY w (w.alloc o)):=λo=>F9
 have hl:=Gv k;have⟨r,cl,t,ln,j,u,pa,o,v,d⟩:=P;dsimp only[pv]at *;rw[XW a d]at p;have H:¬9223372036854775807<(str a).size+(str d).size:=by rw[Er,Er];omega
 generalize str d=SB at *;generalize str a=SA at *;have L:IntKind.i64.wrap (o-1)=o-1:=Iz;have e1:(pa==o-1)=true:=by simpa using hn
 clear hn;have C:Hid (∀h:World,(∀x,w.heap.size<=x->x<(w.alloc (.cells #[Z r,Z cl,Z t,Z ln,Z j,Z u,Z pa,Z o,.bool v,.string SB] 82)).heap.size->h.heap[x]?=(w.alloc (.cells #[Z r,Z cl,Z t,Z ln,Z j,Z u,Z pa,Z o,.bool v,.string SB] 82)).heap[x]?)->h.cell? (EN w 9)=some (.string SB)):=λh J=>by
  have k:=J w.heap.size (Ar _) Ev;rw[AF w _]at k;exact EI k 9
 delta D7
 go_in
 go_wp2_with (first|(go_at_call 265;refine cm (B _ (z _)) ?_;rintro h ⟨g,i,n⟩;have m:=y h g;have⟨D,y6,K,X⟩:=m;have E:=C h i;have l:=Dx (λe=>p h e g);have F:=Gv D;have G:=Gv E;have hnb:¬b=w.heap.size:=U;have q:¬w.heap.size=b:=U;clear g i n))
 go_region
 all_goals
  go_wp2;go_returns;exact⟨I,l _ (by first|exact(AA _ _)|exact(AA _ _).drew|exact Ed (AA _ _) _)⟩
def Yf(B:Nat)(a b:Aa):Prop:=a<=b.heap.size/\∀x,B<=x->x<a->b.heap[x]?=a.heap[x]?
abbrev bx(P:Pk):Array Value:=#[Z P.J,Z P.f,Z P.b,Z P.H,Z P.a,Z P.c,Z P.Ez,Z P.off,.bool P.e,.string (str P.d)]
theorem Yf.box(h:Yf w (w.alloc o) w'):w'.heap[w.heap.size]?=o:=by
 rw[h.2 (zz w) (Ar _) Ev];exact AF w o
theorem YX{f:Ac}{n:Int}(A d:World->Prop)(K:EB w b 6 (.string (str f)))
  (c:Hid (∀w,D7 203 #[.string (str f)] w (Z n) λg=>g=w))
  (HF:Hid (n<P.Ez->∀j,DY w j->d j))
  (v:Hid (P.Ez=n->∀j,DY w j->ET 262 #[pt s,pt b,pv P] j λe g=>(e=.returned DI/\d g)\/(e=.returned DC/\A g/\Yf w j g)))
  (z:Hid (P.Ez<n->∀j,DY w j->A j))
  (E:Hid (P.e=true->∀g,A g->D7 252 #[pt s,pv P] g Ep λC=>d C))
  (D:Hid (P.e=false->∀g,A g->d g)):
  D7 251 #[pt s,pt b,pv P] w Ep λg=>d g:=by
 have p:Hid (∀o,DY w (w.alloc o)):=λo=>F9
 have hl:=Gv K;obtain⟨G,cl,H,ln,t,u,pa,o,x,q⟩:=P;dsimp only[pv]at *;generalize str q=SB at *;generalize str f=SA at *;rcases Int.lt_trichotomy pa n with hc|hc|hc
 .have e1:¬n<pa:=U;have e2:(pa==n)=false:=Fy;have l:=Dx (z hc);clear hc HF v;cases x with
  |true=>
   have m:=Dx (E I)
   delta D7
   go_in
   go_wp2_with (first|(go_at_call 203;refine cs (c _) ?_)|(go_at_call 252;refine cm (m _ (l _ (p _))) λi a=>?_))
   go_returns;exact⟨I,a⟩
  |false=>
   have k:=Dx (D I)
   delta D7
   go_in
   go_wp2_with (first|(go_at_call 203;refine cs (c _) ?_))
   go_returns;exact⟨I,k _ (l _ (p _))⟩
 .have e1:¬n<pa:=U;have e2:(pa==n)=true:=Fy;have l:=Dx (v hc);clear hc HF z v;have F:Hid (∀i:World,Yf (zz w) (w.alloc (.cells #[Z G,Z cl,Z H,Z ln,Z t,Z u,Z pa,Z o,.bool x,.string SB] 82)) i->Dy i ((zz w)) #[Z G,Z cl,Z H,Z ln,Z t,Z u,Z pa,Z o,.bool x,.string SB] 82):=λi J=>J.box
  cases x with
  |true=>
   have m:=Dx (E I)
   delta D7
   go_in
   go_wp2_with (first|(go_at_call 203;refine cs (c _) ?_)|(go_at_call 262;refine(l _ (p _)).mono ?_))
   rintro e i (⟨rfl,a⟩|⟨rfl,a,h⟩)
   .go_wp2;go_returns;exact⟨I,a⟩
   .have r:=F i h;obtain⟨k0,M,k2,N,O,Q,S,T,L,W⟩:=Yy r;have y:=Dx (m i a);clear a h r;go_wp2_with (first|(go_at_call 252;refine cm y λX B=>?_))
    go_returns;exact⟨I,B⟩
  |false=>
   have k:=Dx (D I)
   delta D7
   go_in
   go_wp2_with (first|(go_at_call 203;refine cs (c _) ?_)|(go_at_call 262;refine(l _ (p _)).mono ?_))
   rintro e i (⟨rfl,a⟩|⟨rfl,a,h⟩)
   .go_wp2;go_returns;exact⟨I,a⟩
   .have r:=F i h;have L:=EI r 8;have y:=Dx (k i a);clear a h r;go_wp2;go_returns;exact⟨I,y⟩
 .have l:=Dx (HF hc);clear z v
  delta D7
  go_in
  go_wp2_with (first|(go_at_call 203;refine cs (c _) ?_))
  go_returns;exact⟨I,l _ (p _)⟩
theorem Uj(w:Aa)(s m:Nat)(a:Af)(cap:Nat)u(e:EB w s 6 (.slice a m cap)):D7 37 #[pt s,Z u] w (.bool (decide (1<=u/\u<=m))) λd=>d=w:=by
 by_cases b:1<=u
 .by_cases c:u<=(m:Int)
  .rw[show decide (1<=u/\u<=(m:Int))=true by simp[b,c]];have e1:decide (u ≥ 1)=true:=by simpa using b
   have e2:decide (u<=(m:Int))=true:=by simpa using c
   exact wY
  .rw[show decide (1<=u/\u<=(m:Int))=false by simp[c]];have e1:decide (u ≥ 1)=true:=by simpa using b
   have e2:decide (u<=(m:Int))=false:=by simpa using c
   exact wY
 .rw[show decide (1<=u/\u<=(m:Int))=false by simp[b]];have e1:decide (u ≥ 1)=false:=Fy;exact wY
theorem pF(w:Aa)(cb lb i k:Nat)(b st c:Int)(P:Pk)(hk:k<i)(l:P.H=k)(j:EB w cb 1 (Z b))(p:EB w cb 3 (EJ lb i i))(a0:EB w lb (k*10) (Z st))(a1:EB w lb (k*10+1) (Z c)):
  D7 158 #[ptr cb,pv P] w (.bool (decide (st=1/\b=P.b/\c=P.a))) (DY w):=by
 have⟨q,cl,f,ln,a,u,pa,o,r,h⟩:=P;dsimp only[pv]at *;subst l;have⟨m,n⟩:=KM j a0;have s:0<=(k:Int):=U;have t:(k:Int)<i:=U;have HB:Hid (∀o,DY w (w.alloc o)):=λo=>F9
 generalize str h=SB at *;by_cases d:st=1
 .have e1:(st==1)=true:=by simpa using d
  by_cases e:b=f
  .have e2:(b==f)=true:=by simpa using e
   by_cases g:c=a
   .have e3:(c==a)=true:=by simpa using g
    rw[show decide (st=1/\b=f/\c=a)=true by simp[d,e,g]];clear d e g
    delta D7
    go_in
    exact xo
   .have e3:(c==a)=false:=by simpa using g
    rw[show decide (st=1/\b=f/\c=a)=false by simp[g]];clear d e g
    delta D7
    go_in
    exact xo
  .have e2:(b==f)=false:=by simpa using e
   rw[show decide (st=1/\b=f/\c=a)=false by simp[e]];clear d e
   delta D7
   go_in
   exact xo
 .have e1:(st==1)=false:=by simpa using d
  rw[show decide (st=1/\b=f/\c=a)=false by simp[d]];clear d
  delta D7
  go_in
  exact xo
theorem rY(a:World->Prop)
  (f:Hid (∀d,DY w d->D7 204 #[ptr cb,Z P.H,S9 6 0 0 0 0 0 P.Ez P.off false ⟨#[]⟩] d Ep λc=>a c)):
  D7 217 #[ptr cb,pv P] w Ep λc=>a c:=by
 have e:Hid (∀o,DY w (w.alloc o)):=λo=>F9
 delta D7
 go_in
 go_wp2_with (first|(go_at_call 204;refine cm (f _ (e _)) λg b=>?_))
 go_returns;exact⟨I,b⟩
theorem YF(w:Aa)(b k:Nat)(f:Af)(i g:Nat)(xs:List J7)(x:J7)(p:∃a n c,x.rv=.slice a n c)(h:Dy w b (tab J7.cells xs).toArray 129)(y:xs[k]?=x):
  D7 218 #[.pointer (Y b (k*10)),.slice f i g] w Ep λd=>Dy d b (tab J7.cells (xs.set k {Qb 2 x.a with rv:=.slice f i g})).toArray 129/\DF (λq=>q=b) w d:=by
 have H:=Dx (TW w b k 2 xs x p h y);have hk:=GG y;have z:Hid (∀d:World,Dy d b (tab J7.cells (xs.set k (Qb 2 x.a))).toArray 129->Dy (d.setCell (Y b (k*10+2)) (.slice f i g)) b (tab J7.cells (xs.set k {Qb 2 x.a with rv:=.slice f i g})).toArray 129/\(∃a n c,EB d b (k*10+2) (.slice a n c))/\DJ d b (k*10+2)/\b<d.heap.size):=λd s=>by
  have r:(xs.set k (Qb 2 x.a))[k]?=some (Qb 2 x.a):=by simp[hk]
  have e:=GJ (j:=2) (x':={Qb 2 x.a with rv:=.slice f i g}) (v:=.slice f i g) s r U I;simp only[A5]at e;exact⟨e.1,⟨_,_,_,(sU s r).a2⟩,Eb s,Dv s⟩
 clear h y p
 delta D7
 go_in
 go_wp2_with (first|(go_at_call 167;refine cm H ?_;rintro E ⟨l,m⟩;have A:=z E l;have⟨o,⟨F,J,G,B⟩,C,D⟩:=A;have t:=Dx o;have u:=Dx m;clear l o m))
 go_returns;exact⟨I,t,u.trans (Eg _)⟩
theorem acM{lb k:Nat}(hk:k<nl)(d:P.H=k)(c:EB w cb 3 (EJ lb nl nl))(a6:EB w lb (k*10+6) (Z ac))(b:¬P.Ez=ac):
  D7 159 #[ptr cb,pv P] w Ep (DY w):=by
 have⟨h,cl,i,ln,g,u,pa,o,j,a⟩:=P;dsimp only[pv]at *;subst d;have⟨e,f⟩:=KM c a6;have l:0<=(k:Int):=U;have m:(k:Int)<nl:=U;have e1:(pa != ac)=true:=by simpa using b
 have HB:Hid (∀o,DY w (w.alloc o)):=λo=>F9
 generalize str a=SB at *;clear b
 delta D7
 go_in
 exact xo
def E3(w V:Aa)(o:Obj)(W:Aa):Prop:=Below w V W/\W.heap[w.heap.size]?=o
theorem jj{v:Ad}(a:b<w):E3 w (w.setCell (Y b i) v) o (((w.alloc o).drewN m).setCell (Y b i) v):=by
 have e:((w.alloc o).drewN m).setCell (Y b i) v=((w.setCell (Y b i) v).alloc o).drewN m:=by
  rw[<-Ck o b i v a];rfl
 rw[e];refine⟨Ed ((AA _ _).alloc Ev _) _,?_⟩;have:=AF (w.setCell (Y b i) v) o;simpa using this
theorem EE{f:World->Prop}(P:World->Prop)(b:P W)(h:∀a,P a->f a):f W:=h W b
theorem LG(W:Aa)(hB:B<=W)(o:Obj)(n:Nat):Below B W ((W.alloc o).drewN n):=Ed ((AA _ _).alloc hB _) _
theorem qj{lb k:Nat}{n:Int}{S:Ab}(A e:World->Prop)(hk:k<nl)(L:P.H=k)(H:w.cell? (Y cb 3)=EJ lb nl nl)(a5:w.cell? (Y lb (k*10+5))=some (.string S))(a6:w.cell? (Y lb (k*10+6))=Z ac)(z6:DJ w lb (k*10+6))(M:0<=ac/\ac<=10)(y:P.Ez=ac)
  (d:Hid (∀w,D7 203 #[.string S] w (Z n) λa=>a=w))
  (x:Hid (ac+1<n->∀r,Below w (w.setCell (Y lb (k*10+6)) (Z (ac+1))) r->D7 150 #[ptr cb,Z k,DI] r Ep λa=>A a))
  (F:Hid (∀a,A a->D7 149 #[ptr cb,.pointer (Y lb (k*10))] a Ep λE=>e E))
  (t:Hid (¬ac+1<n->∀r,Below w (w.setCell (Y lb (k*10+6)) (Z (ac+1))) r->A r)):
  D7 159 #[ptr cb,pv P] w Ep λa=>e a:=by
 have⟨B,cl,C,ln,i,u,pa,o,D,j⟩:=P;dsimp only[pv]at *;subst L y;have⟨N,f⟩:=KM H a6;have X:0<=(k:Int):=U;have q2:(k:Int)<nl:=U;have e1:(pa != pa)=false:=Ev;have T:IntKind.i64.wrap (pa+1)=pa+1:=Iz;generalize str j=SB at *;have c:Hid (∀m,E3 w (w.setCell (Y lb (k*10+6)) (Z (pa+1))) (.cells #[Z B,Z cl,Z C,Z k,Z i,Z u,Z pa,Z o,.bool D,.string SB] 82) (((w.alloc (.cells #[Z B,Z cl,Z C,Z k,Z i,Z u,Z pa,Z o,.bool D,.string SB] 82)).drewN m).setCell (Y lb (k*10+6)) (Z (pa+1)))):=λm=>jj f
 have HF:Hid (∀W,E3 w (w.setCell (Y lb (k*10+6)) (Z (pa+1))) (.cells #[Z B,Z cl,Z C,Z k,Z i,Z u,Z pa,Z o,.bool D,.string SB] 82) W->W.cell? (Y lb (k*10+5))=some (.string S)/\W.cell? (Y lb (k*10+6))=some (Z (pa+1))/\W.cell? (EN w 3)=some (Z k)/\Below w.heap.size (w.setCell (Y lb (k*10+6)) (Z (pa+1))) W.drew):=λW b=>by
  refine⟨?_,?_,EI b.2 3,b.1.drew⟩
  .have z:((Y lb (k*10+6)):Addr)≠(Y lb (k*10+5)):=Ev;exact((b.1.cell (p:=(Y lb (k*10+5))) f).trans (AP (h:=z) ..)).trans a5
  .rw[b.1.cell (p:=(Y lb (k*10+6))) f];exact BU (h:=a6) ..
 by_cases l:pa+1<n
 .have v:=Dx (x l);clear x t
  delta D7
  go_in
  go_wp2_with fail
  go_quiet (fail);go_wp2_with fail
  go_quiet (fail);go_wp2_with fail
  refine EE _ (c _) ?_;intro W b;have⟨J,K,d3,hB⟩:=HF W b;have s:=Dx hB;clear b hB c;go_region_held3 (λa=>a.cell? (Y lb (k*10+5))=some (.string S)/\a.cell? (Y lb (k*10+6))=some (Z (pa+1))/\a.cell? (EN w 3)=some (Z k)) (go_keep) (first|(go_at_call 203;refine cs (d _) ?_))
  go_wp2_with (first|(go_at_call 150;refine cm (v _ s) λO q=>?_;have G:=Dx (F O q);clear q)|(go_at_call 149;refine cm G λQ g=>?_))
  go_returns;exact⟨I,g⟩
 .have v:=Dx (t l);clear x t
  delta D7
  go_in
  go_wp2_with fail
  go_quiet (fail);go_wp2_with fail
  go_quiet (fail);go_wp2_with fail
  refine EE _ (c _) ?_;intro W b;have⟨J,K,d3,hB⟩:=HF W b;have s:=Dx hB;clear b hB c;go_region_held3 (λa=>a.cell? (Y lb (k*10+5))=some (.string S)/\a.cell? (Y lb (k*10+6))=some (Z (pa+1))/\a.cell? (EN w 3)=some (Z k)) (go_keep) (first|(go_at_call 203;refine cs (d _) ?_))
  go_wp2_with (first|(go_at_call 149;refine cm (F _ (v _ s)) λQ g=>?_))
  go_returns;exact⟨I,g⟩
theorem WX(w:Aa)(cb lb bm j k:Nat)(uid c kind:Int)(X:Ad)(u:Ab)(st t i:Int)(A B C:World->Prop)(hk:k<j)
  (v:EB w cb 2 (.map (bm))) (x:EB w cb 3 (EJ lb j j)) (a0:EB w lb (k*10) (Z st)) (a1:EB w lb (k*10+1) (Z t))
  (e:(Instr.lookup 130 (.map (bm)) (Z uid) true).run prog w=.ok (.tuple #[Z kind,DC]) w)
  (h:¬st=1) (g:¬t=999)
  (l:Hid (∀b,DY w b->D7 147 #[Z kind,Z c,X] b (.string u) (DY b)))
  (m:Hid (∀b,DY w b->D7 148 #[.pointer (Y lb (k*10)),.agg #[Z uid,Z c,.string u,Z 0,.string ⟨#[]⟩,Z 0,Z 0]] b Ep λd=>A d))
  (n:Hid (∀b,A b->D7 149 #[ptr cb,.pointer (Y lb (k*10))] b Ep λd=>B d))
  (o:Hid (∀b,B b->D7 150 #[ptr cb,Z k,DI] b Ep λd=>C d))
  (r:Hid (∀b,C b->EB b lb (k*10+1) (Z i))):
  D7 88 #[ptr cb,Z k,Z uid,Z c,X] w (.tuple #[Z i,Z 0]) λb=>C b:=by
 have e1:(st==1)=false:=by simpa using h
 have e2:(t==999)=false:=by simpa using g
 have H:0<=(k:Int):=U;have J:(k:Int)<j:=U;have⟨s,f⟩:=KM v a0;clear h g
 delta D7
 go_in
 go_wp2_with (first|(go_at_call 64;go_in))
 refine cm (l _ (AA _ _)) λK a=>?_
 have d3:=(a.cell (p:=Y cb 3) s).trans x;have F:=(a.cell (p:=(Y lb (k*10))) f).trans a0;have G:=(a.cell (p:=(Y lb (k*10+1))) f).trans a1;have q:=Dx a;clear a e a0 a1 v x;go_wp2_with fail
 refine cm (m _ q) λL y=>?_
 have z:=Dx y;clear y d3 F G;go_wp2_with fail
 refine cm (n _ z) λM hB=>?_
 have D:=Dx hB;clear hB;go_wp2_with fail
 refine cm (o _ D) λN hC=>?_
 have g1:=r _ hC;have E:=Dx hC;clear hC;go_wp2;go_returns;exact⟨I,E⟩
theorem TE(w:Aa)(cb lb b:Nat)(ln uid a:Int)(X:Ad)(hk:ln<0\/b<=ln)(e:EB w cb 3 (EJ lb b b)):
  D7 88 #[ptr cb,Z ln,Z uid,Z a,X] w (.tuple #[Z 0,Z 14]) λd=>d=w:=by
 by_cases f:ln<0
 .have c:¬0<=ln:=U;clear hk;exact wy
 .have c:0<=ln:=U;have g:¬ln<(b:Int):=U;clear hk;exact wy
theorem TD(w:Aa)(cb lb bm b k:Nat)(uid a z:Int)(X:Ad)(hk:k<b)(e:EB w cb 2 (.map (bm)))(f:EB w cb 3 (EJ lb b b))(c:(Instr.lookup 130 (.map (bm)) (Z uid) true).run prog w=.ok (.tuple #[Z z,DI]) w):
  D7 88 #[ptr cb,Z k,Z uid,Z a,X] w (.tuple #[Z 0,Z 15]) λd=>d=w:=by
 have g:0<=(k:Int):=U;have h:(k:Int)<b:=U;exact wy
theorem PZ(w:Aa)(cb lb bm b k:Nat)(uid a kind:Int)(X:Ad)(n:Nat)(hk:k<b)(i:EB w cb 2 (.map (bm)))(j:EB w cb 3 (EJ lb b b))(d:(Instr.lookup 130 (.map (bm)) (Z uid) true).run prog w=.ok (.tuple #[Z kind,DC]) w)
  (c:Hid (ET 147 #[Z kind,Z a,X] w λe f=>e=EQ n 0/\DY w f)):
  ET 88 #[ptr cb,Z k,Z uid,Z a,X] w λe h=>e=EQ n 0/\DY w h:=by
 have l:0<=(k:Int):=U;have m:(k:Int)<b:=U
 delta ET
 go_in
 go_wp2_with (first|(go_at_call 64;go_in))
 refine cm c λo g=>?_
 go_wp2;exact⟨I,I,g⟩
theorem N9(w:Aa)(cb lb bm f k:Nat)(uid b kind st m er:Int)(X:Ad)(o:Ab)(hk:k<f)(i:EB w cb 2 (.map (bm)))(j:EB w cb 3 (EJ lb f f))(a0:EB w lb (k*10) (Z st))(a1:EB w lb (k*10+1) (Z m))
  (c:(Instr.lookup 130 (.map (bm)) (Z uid) true).run prog w=.ok (.tuple #[Z kind,DC]) w) (l:(st=1/\er=17)\/(¬st=1/\m=999/\er=11))
  (g:Hid (D7 147 #[Z kind,Z b,X] w (.string o) (DY w))):
  D7 88 #[ptr cb,Z k,Z uid,Z b,X] w (.tuple #[Z 0,Z er]) (DY w):=by
 have t:0<=(k:Int):=U;have u:(k:Int)<f:=U;have⟨h,e⟩:=KM i a0;have n:=Dx l;clear l
 delta D7
 go_in
 go_wp2_with (first|(go_at_call 64;go_in))
 refine cm g λv a=>?_
 have d3:=(a.cell (p:=Y cb 3) h).trans j;have r:=(a.cell (p:=(Y lb (k*10))) e).trans a0;have s:=(a.cell (p:=(Y lb (k*10+1))) e).trans a1;have d:=Dx a;clear a c a0 a1 i j;rcases Dw n with ⟨rfl,rfl⟩|⟨q,rfl,rfl⟩
 .go_wp2;go_returns;exact⟨I,d⟩
 .have e1:(st==1)=false:=by simpa using q
  go_wp2;go_returns;exact⟨I,d⟩
def PY(r:Int×Int):Ending:=if r.2=16\/r.2=4 then EQ r.2.toNat 0 else .returned (.tuple #[Z r.1,Z r.2])
theorem vK(h:R.IY k p=(f,t)):∀v out,V.IG f v=some out->out.length<=70:=by
 unfold R.IY at h;split at h
 .exact wZ
 .split at h
  .exact wZ
  .split at h
   .cases h;exact λv out h=>V.VO h Kx
   .split at h
    .exact wZ
    .split at h
     .cases h;exact λv out h=>V.TU h
     .cases h
theorem LW.J{p:Pl}(h:LW p F G w)(hu:1<=uid/\uid<=G.a):0<=GU G uid/\GU G uid<=2:=by
 have hl:(uid-1).toNat<G.a.length:=U;unfold GU;rw[Ah hl];exact h.wf.e _ (CK hl)
theorem LW.aeq{p:Pl}(h:LW p F G w)(ht:JI w){c:R.Cl}(hc:G.b[i]?=c)(ln uid b:Int)(N:-9223372036854775808<=uid/\uid<=9223372036854775807){v:List V.It}(hI:V.Ff w X v)(hn:v.length<=9000000000000):
  ET 88 #[ptr (p.cb i),Z ln,Z uid,Z b,X] w λe w'=>e=PY (R.Gc G i ln uid b v).1/\∃n,LW p n (R.Gc G i ln uid b v).2 w'/\D8 F n w w':=by
 have g:=P4 h hc;have hi:=GG hc;have aV:=(h.wf.cl i c hc).a;unfold R.Gc;rw[Ao U];by_cases h2:ln<0\/G.c.a<=ln
 .rw[Ay h2];refine(TE w (p.cb i) (p.lb i) c.a.length ln uid b X U g.a3).mono ?_;exact iE
 .rw[Ao h2];obtain⟨k,rfl⟩:∃k:Nat,ln=(k:Int):=⟨ln.toNat,U⟩;have hk:k<c.a.length:=U;rw[AY,hc];simp only[Ce,Bw];have d:=sZ (h.d i c hc) (u:=uid) N;by_cases C:uid∈c.d
  .rw[Ao (not_not_intro C)];have aq:=(h.wf.cl i c hc).d uid C;have b3:=h.wf.sv;have r:GY G c uid=some (GU G uid):=by unfold GY;rw[Ay C]
   rw[r]at d;simp only[Bw,Option.isSome_some]at d;rw[show ((G.a[(uid-1).toNat]?).map (·.J)).getD 0=GU G uid from rfl];have ah:=h.J aq;cases hs:R.IY (GU G uid) b with
   |none=>
    refine(PZ w (p.cb i) (p.lb i) (p.bm i) c.a.length k uid b (GU G uid) X 16 hk g.a2 g.a3 d (U7 _ _ ah hs X w ht)).mono ?_;exact aaO
   |some ft=>
    have⟨f,t⟩:=ft;have⟨_,hf,_,hp,_⟩:=Ng hs;simp only;cases hby:R.Fi f v with
    |none=>
     have hm:¬(V.Jk f v).1=0:=λe=>by
      all_goals grind [R.Fi]
     have h4:=V.mG hf (vK hs v) hm;refine(PZ w (p.cb i) (p.lb i) (p.bm i) c.a.length k uid b (GU G uid) X 4 hk g.a2 g.a3 d ?_).mono ?_
     .refine(OH _ _ f t hs X v w ht hI hn).mono ?_;rintro e w' ⟨⟨h0,_⟩|⟨_,rfl⟩,hb⟩;all_goals grind
     .exact aaO
    |some bs=>
     have hm:(V.Jk f v).1=0/\(V.Jk f v).2=bs:=by all_goals grind [R.Fi]
     have HW:∀w',DY w w'->D7 147 #[Z (GU G uid),Z b,X] w' (.string (str (EU b++bs))) (DY w'):=λw' hb=>by
      refine(OH _ _ f t hs X v w' (ht.h hb) (hI.h hb) hn).mono ?_;rintro e av ⟨⟨_,rfl⟩|⟨h0,_⟩,hb⟩;all_goals grind
     have hl:=Ah hk;simp only;rw[R.FH hc hl];generalize c.a[k]=l at hl ⊢;have⟨xs,x,Q,hR,hx,O,j,am,ae⟩:=h.H hc hl;have al:=(h.wf.cl i c hc).H k l hl;have o:=O.d;have m:=O.a;by_cases D:l.d=1
     .rw[Ay D];refine(N9 w (p.cb i) (p.lb i) (p.bm i) c.a.length k uid b (GU G uid) x.d x.a 17 X _ hk g.a2 g.a3 j.a0 j.a1 d (Aj ⟨o.trans D,I⟩) (HW w (AA _ _))).mono ?_;exact aaO
     .rw[Ao D];by_cases P:l.a=999
      .rw[Ay P];refine(N9 w (p.cb i) (p.lb i) (p.bm i) c.a.length k uid b (GU G uid) x.d x.a 11 X _ hk g.a2 g.a3 j.a0 j.a1 d (Am ⟨by rw[o];exact D,m.trans P,I⟩) (HW w (AA _ _))).mono ?_;exact aaO
      .rw[Ao P];have aS:=R.Nq hby;have ad:=(h.b i hi).2.1;have z:=ES (h.cl i c hc) Q Em;have ac:=h.wf.cf;unfold R.GA at ac;have ak:=Dv Q;have K:=Gv g.a0;have ao:(EU b++bs).take 2=EU b:=by simp[EU]
       generalize hM:EU b++bs=M at *;have aN:M.length<=72/\2<=M.length:=by
        rw[<-hM];simp[EU];omega
       have b1:=R.ID (s:=M) U;have b2:=al.a;have L:R.O0 ⟨l.a+1,1,[],uid,t,M,0,[],0,G.c.c,G.c.e⟩:=⟨by simp only;omega,λ_=>⟨by simp only;omega,by simp only;omega,by simp only;omega,by simp only;omega,by simp only;omega,by simp only;omega⟩⟩;have ab:(R.Eh G i k ⟨l.a+1,1,[],uid,t,M,0,[],0,G.c.c,G.c.e⟩).b[i]?=some {c with a:=c.a.set k ⟨l.a+1,1,[],uid,t,M,0,[],0,G.c.c,G.c.e⟩}:=by
        rw[R.Ft,hc];simp
       have J:(c.a.set k ⟨l.a+1,1,[],uid,t,M,0,[],0,G.c.c,G.c.e⟩)[k]?=some ⟨l.a+1,1,[],uid,t,M,0,[],0,G.c.c,G.c.e⟩:=by simp[hk]
       refine(WX w (p.cb i) (p.lb i) (p.bm i) c.a.length k uid b (GU G uid) X (str M) x.d x.a (l.a+1)
        (λT=>Dy T (p.lb i) (tab J7.cells (xs.set k ⟨1,x.a+1,Dz,uid,b,M,0,[],0,0⟩)).toArray 129/\DF (λq=>q=p.lb i) w T)
        (λW=>LW p F (R.Eh G i k ⟨l.a+1,1,[],uid,t,M,0,[],0,G.c.c,G.c.e⟩) W/\D8 F F w W)
        (λw5=>∃n,LW p n (R.EG (R.Eh G i k ⟨l.a+1,1,[],uid,t,M,0,[],0,G.c.c,G.c.e⟩) i k false) w5/\D8 F n w w5)
        hk g.a2 g.a3 j.a0 j.a1 d (by rw[o];exact D) (by rw[m];exact P) HW ?_ ?_ ?_ ?_).mono ?_
       .intro w' E;have aa:=(E.block _ ak).trans Q;refine(kP w' (p.lb i) k uid b M xs x (Lc ae) aa hx (by rw[m];omega)).mono ?_;rintro e av ⟨rfl,A,B⟩;exact⟨I,A,(DF.J E _).trans B⟩
       .rintro T ⟨A,B⟩;have d4:=(AR (B.block (p.cb i) K z)).trans g.a4;have d5:=(AR (B.block (p.cb i) K z)).trans g.a5;refine(ZR T (p.cb i) (p.lb i) k G.c.c G.c.e _ ⟨1,x.a+1,Dz,uid,b,M,0,[],0,0⟩ A (by simp[(GG hx)]) d4 d5 z).mono ?_;rintro e W ⟨rfl,S,r2⟩;simp only[A5]at S;have H:=B.trans r2;refine⟨I,h.Sr hc Q hR am H S L ⟨I,by simp only;rw[m],λ_=>rfl,λ_=>⟨I,I,I,I,I⟩,λ_=>⟨I,hp,ao⟩⟩ (Gg.nil _ _),⟨H.mono (λq _ e=>by rw[e];exact ad),λ_ q=>Aj q⟩⟩
       .rintro W ⟨A,B⟩;refine(A.piece ab J I (by simp only;omega) false).mono ?_;rintro e w5 ⟨rfl,n,S,r2⟩;exact⟨I,n,S,B.trans r2⟩
       .rintro w5 ⟨n,A,_⟩;have e1:(R.EG (R.Eh G i k ⟨l.a+1,1,[],uid,t,M,0,[],0,G.c.c,G.c.e⟩) i k false).b[i]?=some {c with a:=c.a.set k ⟨l.a+1,1,[],uid,t,M,0,[],0,G.c.c,G.c.e⟩}:=by all_goals grind [R.EG,K7]
        have⟨_,y,_,_,_,hy,ar,_⟩:=A.H e1 J;have:=ar.a1;rw[hy.a]at this;exact this
       all_goals grind [PY]
  .rw[Ay C];have r:GY G c uid=none:=by unfold GY;rw[Ao C]
   rw[r]at d;refine(TD w (p.cb i) (p.lb i) (p.bm i) c.a.length k uid b 0 X hk g.a2 g.a3 d).mono ?_;exact iE
end Go.Proofs.YtblomippkddgiabGreatDoor
