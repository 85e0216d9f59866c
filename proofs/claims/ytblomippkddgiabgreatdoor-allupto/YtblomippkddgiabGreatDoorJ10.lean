import Derived.Test.YtblomippkddgiabGreatDoorJ09
set_option maxRecDepth 100000
set_option maxHeartbeats 4000000
namespace Go.Proofs.YtblomippkddgiabGreatDoor
open Go.Proofs.Tryz RowKit
variable {F:D9}{kind life u0 uid:Int}{nm:List (List UInt8)}{lives st:List Int}{S seen:List R.Sn}{TF xs ys:List Value}{B B' N cN cS cap ci g gN gS i j j0 k m n n' s size size' sn u x:Nat}{P:Pk}{p:Pl}{M:R.Bk}{l:R.Ln}{r:R.Sn}{G G':R.Wd}{v:RV}{e e':TypeId}{J K K' bp v':Value}{W W1 w w' w1 w2 w4 w5 wz:World}
theorem Qr{α:Type}{f:α->List Value}(l:∀x,(f x)=size){xs:List α}(h:w.ownsRow 0 e size (EJ g n cap) n (tab f xs)){y y':α}{u:Ad}(v:xs[i]?=y)(t:j<size)(e1:f y'=(f y).set j u):(w.setCell (Y g (i*size+j)) u).ownsRow 0 e size (EJ g n cap) n (tab f (xs.set i y')):=by
 refine⟨by rw[F8 l,BG,<-F8 l];exact h.1,Am ?_⟩;rcases h.2 with ⟨m,_⟩|⟨s,k,a,r,o,p,hc,b,d,q⟩
 .cases m
 .cases r;have c:w.heap[g]?=some (.cells a.toList.toArray e (0,0)):=by rw[p]
  refine⟨g,cap,(a.toList.set (i*size+j) u).toArray,I,o,Ek c u,hc,b,by simpa using d,?_⟩
  grind [List.take_set,J6]
def Wy(uid:Int)(r:R.Sn):R.Sn:=if r.c=uid/\r.d<3 then {r with d:=4} else r
def Li(uid:Int)(sn:List R.Sn):Nat->List R.Sn
 |0=>sn
 |i+1=>match (Li uid sn i)[i]? with
  |none=>Li uid sn i
  |some r=>(Li uid sn i).set i (Wy uid r)
theorem OX(uid:Int)(sn:List R.Sn):∀(i j:Nat),(Li uid sn i)[j]?=if j<i then (sn[j]?).map (Wy uid) else sn[j]?
 |0,j=>by simp[Li]
 |i+1,j=>by
  have c:=OX uid sn i;unfold Li;cases hi:(Li uid sn i)[i]? with
  |none=>
   simp only;rw[c j];have a:=c i;rw[hi,Ao U]at a;by_cases e:j=i
   .subst e;rw[<-a];simp
   .by_cases b:j<i
    .rw[Ay b,Ay U]
    .rw[Ao b,Ao U]
  |some r=>
   simp only;rw[Bf,c j];have a:=c i;rw[hi,Ao U]at a;by_cases e:i=j
   .subst e;rw[Ay I,Ay (GG hi),Ay U,<-a];rfl
   .rw[Ao e];by_cases b:j<i
    .rw[Ay b,Ay U]
    .rw[Ao b,Ao U]
theorem pG{sn:List R.Sn}(h:sn.length=9):Li uid sn 9=sn.map (Wy uid):=by
 apply BF;intro j
 grind [OX]
def Lt(W:Aa)(sn:Nat)(uid:Int)(S:List R.Sn):Nat->World
 |0=>W
 |i+1=>match S[i]? with
  |none=>Lt W sn uid S i
  |some r=>if r.c=uid/\r.d<3 then (Lt W sn uid S i).setCell ⟨sn,i*10+4,none⟩ (.int .i64 4) else Lt W sn uid S i
structure bI(w1:Aa)(x sn:Nat)(uid:Int)(S:List R.Sn)(i:Nat):Prop where
 keep:DF (λk=>k=sn) w1 (Lt w1 sn uid S i)
 mem:(Lt w1 sn uid S i).heap[sn]?=some (.cells (tab Rk (Li uid S i)).toArray 227 (0,0))
 a:(Lt w1 sn uid S i).cell? (Y x 11)=some (EJ sn 9 9)
theorem bI.all{uid:Int}(hl:S.length=9)(a:sn≠x)(f:Dy w1 sn (tab Rk S).toArray 227)(k:EB w1 x 11 (EJ sn 9 9)):∀i,i<=9->bI w1 x sn uid S i
 |0,_=>⟨DF.refl _ _,f,k⟩
 |i+1,hi=>by
  have h:=bI.all (uid:=uid) hl a f k i U;obtain⟨r,g⟩:∃r,S[i]?=some r:=⟨_,Ah U⟩;have d:(Li uid S i)[i]?=some r:=by rw[OX,Ao U];exact g
  have e:Li uid S (i+1)=(Li uid S i).set i (Wy uid r):=by
   show (match (Li uid S i)[i]? with|none=>_|some r=>_)=_;rw[d]
  have e2:Lt w1 sn uid S (i+1)=if r.c=uid/\r.d<3 then (Lt w1 sn uid S i).setCell (Y sn (i*10+4)) (Z 4) else Lt w1 sn uid S i:=by
   show (match S[i]? with|none=>_|some r=>_)=_;rw[g]
  by_cases b:r.c=uid/\r.d<3
  .rw[Ay b]at e2;refine⟨?_,?_,?_⟩
   .rw[e2];exact h.keep.trans (Eg _)
   .rw[e2,e];unfold Wy;rw[Ay b];exact Fz h.mem d (j:=4) U I
   .rw[e2,AP _ _ _ _ (λq=>a (CG Addr.block q))];exact h.a
  .rw[Ao b]at e2;refine⟨?_,?_,?_⟩
   .rw[e2];exact h.keep
   .rw[e2,e];unfold Wy;rw[Ao b];have:(Li uid S i).set i r=Li uid S i:=by
     obtain⟨c,rfl⟩:=Bi.1 d;exact List.set_getElem_self c
    rw[this];exact h.mem
   .rw[e2];exact h.a
theorem bI.next(h:bI w1 x sn uid S i)(hl:S.length=9)(hi:i<9):∃r,iZ (Lt w1 sn uid S i) sn i r/\(¬(r.c=uid/\r.d<3)->Lt w1 sn uid S i=Lt w1 sn uid S (i+1))/\((r.c=uid/\r.d<3)->(Lt w1 sn uid S i).setCell (Y sn (i*10+4)) (Z 4)=Lt w1 sn uid S (i+1)):=by
 obtain⟨r,a⟩:∃r,S[i]?=some r:=⟨_,Ah U⟩;have b:(Li uid S i)[i]?=some r:=by rw[OX,Ao U];exact a
 have e2:Lt w1 sn uid S (i+1)=if r.c=uid/\r.d<3 then (Lt w1 sn uid S i).setCell (Y sn (i*10+4)) (Z 4) else Lt w1 sn uid S i:=by
  show (match S[i]? with|none=>_|some r=>_)=_;rw[a]
 exact⟨r,Kg h.mem b,λhn=>by rw[e2,Ao hn],λc=>by rw[e2,Ay c]⟩
theorem nP{b0:Bool}(hl:S.length=9)(hu:u<n)(hn:n<=255)(x7:EB w x 7 (EJ g n cap))(c1:EB w g (u*3+1) (.bool b0))(hz:DJ w g (u*3+1))(m:∀W,W=w.setCell (Y g (u*3+1)) DI->∀i,i<=9->bI W x sn (u+1) S i):
  D7 190 #[Ey x,Z (u+1)] w Ep λz=>z=Lt (w.setCell (Y g (u*3+1)) DI) sn (u+1) S 9:=by
 have E:0<=(u:Int):=U;have F:(u:Int)<n:=U;have e1:IntKind.i64.wrap ((u:Int)+1-1)=(u:Int):=Iz;have e2:IntKind.i64.wrap (u:Int)=u:=Iz;have⟨B,A⟩:=KM x7 c1;obtain⟨c,b⟩:∃c,w.setCell (Y g (u*3+1)) DI=c:=DK;have p:Hid (∀i,i<9->∃r,iZ (Lt c sn ((u:Int)+1) S i) sn i r/\(¬(r.c=(u:Int)+1/\r.d<3)->Lt c sn ((u:Int)+1) S i=Lt c sn ((u:Int)+1) S (i+1))/\((r.c=(u:Int)+1/\r.d<3)->(Lt c sn ((u:Int)+1) S i).setCell (Y sn (i*10+4)) (Z 4)=Lt c sn ((u:Int)+1) S (i+1))):=λi hi=>(m c b.symm i U).next hl hi
 have s:=m c b.symm;rw[b];have l:=Dx b;clear m b hl
 delta D7
 go_in
 go_wp2;rw[Dw l];go_loopw [4] (λiv wr=>∃i:Nat,i<=9/\iv=Z i/\wr=Lt c sn ((u:Int)+1) S i) (λiv _=>9-(intOf iv).toNat)
 case atStart=>exact⟨0,U,I,I⟩
 case round=>
  obtain⟨i,hi,rfl,a⟩:=hrel;have k:=s i hi;have j:=k.a;rw[<-a]at j;have v:=Gv j;by_cases o:i<9
  .have C:0<=(i:Int):=U;have D:(i:Int)<9:=U;have G:DJ wr sn (i*10+4):=by
    rw[a];exact Eb k.mem
   have⟨r,hc,e,f⟩:=p i o;rw[<-a]at hc e f;have⟨s0,s1,s2,s3,s4,s5,s6,s7,s8,s9⟩:=hc;have t:=Gv s0;clear k a;by_cases d:r.c=(u:Int)+1
   .have y:(r.c==(u:Int)+1)=true:=by simp[d]
    by_cases h:r.d<3
    .have HE:=Dx (f ⟨d,h⟩);have k2:decide (r.d<3)=true:=by simp[h]
     clear e f d h;go_wp2;exact aaN
    .have HE:=Dx (e (λq=>h q.2));have k2:decide (r.d<3)=false:=Fy;clear e f d h;go_wp2;exact aaN
   .have y:(r.c==(u:Int)+1)=false:=by simp[d]
    have HE:=Dx (e (λq=>d q.1));clear e f d;go_wp2;exact aaN
  .obtain rfl:i=9:=U;have HE:=Dx a;clear k a;go_wp2;go_returns;exact⟨I,HE⟩
theorem RM.aa3(h:RM x v F G w)(hl:G.J.length=9)(hn:G.a.length<=255)(h1:1<=uid)(h2:uid<=G.a):∃w1 v1 F1,ET 190 #[Ey x,Z uid] w (λe w'=>e=.returned Ep/\w'=w1)/\RM x v1 F1 (R.GR G uid) w1/\v1.S=v.S/\v1.N=v.N/\D8 F F1 w w1:=by
 obtain⟨u,rfl⟩:∃u:Nat,uid=(u:Int)+1:=⟨(uid-1).toNat,U⟩;have N:u<G.a.length:=U;obtain⟨s,L⟩:∃s,G.a[u]?=some s:=⟨_,Ah N⟩;have⟨z,hz,ak⟩:=K4 h.zs L;have hzl:v.zs.length=G.a.length:=by rw[<-h.zs,AX]
 have⟨g,cap,o,ah,f,B⟩:=Jx MD U h.a hz;have hrow:=h.a;rw[o]at hrow;have x7:EB w x 7 (EJ g v.zs.length cap):=ED h.bx 7 _ (by rw[<-o];rfl);have hk:DF (λk=>k=g) w (w.setCell (Y g (u*3+1)) DI):=Eg _;have H:¬x=g:=λe=>by
  exact wR
 have⟨aa,C⟩:=J3 hrow I;have nb:∀{b:Nat} {ys:Array Value} {t:Ag},Dy w b ys t->t≠234->¬b=g:=λA h1 e=>by
  subst e;exact ES A C h1 I
 have n:=h.c.keep hk (λA q=>nb A (by rcases q with rfl|rfl|rfl<;>decide)) (λ_ q=>q);have E:QH (w.setCell (Y g (u*3+1)) DI) F (v.zs.set u ({z.1 with T:=false},z.2)) v.J G.d:=by
  have l:∀(i:Nat) (y:R.Sv×Value),(v.zs.set u ({z.1 with T:=false},z.2))[i]?=some y->∃m,v.zs[i]?=some m/\y.2=m.2/\y.1.log=m.1.log:=λi y c=>by
   rw[Bf]at c;by_cases e:u=i
   .subst e;rw[Ay I,Ay U]at c;cases c;exact⟨z,hz,I,I⟩
   .rw[Ao e]at c;exact⟨y,c,I,I⟩
  refine⟨λy c=>?_,λi j y y' c O D=>?_,n.d⟩
  .have⟨i,hi⟩:=Bp.1 c;have⟨m,P,Q,q3⟩:=l i y hi;rw[Q,q3];exact n.c m (Ap P)
  .have⟨m,P,Q,_⟩:=l i y c;have⟨y1,S,X,_⟩:=l j y' O;rw[Q,X];exact h.c.apart i j m y1 P S D
 have⟨F',p,r⟩:=(h.kj (K:=v.V) (zs:=v.zs.set u ({z.1 with T:=false},z.2)) (hk.mono (λk _ e=>Am (by rw[o,e];rfl))) (hk.at h.bx H) (by rw[o,BG];exact(Qr MD hrow (y':=({z.1 with T:=false},z.2)) hz (j:=1) U (u:=DI) I)) (F2:=F) (λk q=>Aj q) (λ_ q=>q) (λk q=>Ai (h.lt k q) hk.size) E (λj hj=>Aj hj));have M:v.Sn≠x:=λe=>ES h.J (e ▸ h.bx) Em I
 have d:=bI.all (uid:=(u:Int)+1) hl M p.J (EI p.bx 11);have h9:=d 9 (Ar _);have⟨S,X⟩:=p.q h9.keep h9.mem;refine⟨_,{v with V:=v.V,zs:=v.zs.set u ({z.1 with T:=false},z.2)},F',nP hl U U x7 (f 1 _ U I) (B _) (λW hW=>by
  rw[hW];exact d),?_,I,I,r.trans X⟩
 have hE:R.GR G ((u:Int)+1)={G with a:=(v.zs.set u ({z.1 with T:=false},z.2)).map (·.1),J:=Li ((u:Int)+1) G.J 9}:=by
  unfold R.GR;rw[pG hl,C4,h.zs,show ((u:Int)+1-1).toNat=u by omega];congr 1;apply BF;intro j
  grind
 rw[hE];exact S
theorem RM.end_(h:RM x v F G w)(hl:G.J.length=9)(hn:G.a.length<=255)(d:1<=uid)(e:uid<=G.a):D7 190 #[Ey x,Z uid] w Ep λc=>∃a b,RM x a b (R.GR G uid) c/\a.S=v.S/\a.N=v.N/\D8 F b w c:=by
 have⟨m,l,f,H,g,i,j,k⟩:=h.aa3 hl hn d e;refine cs H ?_
 grind
theorem rJ(h:R.MX G.c G.C G.J G.d)(hu:1<=uid):R.MX (R.GR G uid).c (R.GR G uid).C (R.GR G uid).J (R.GR G uid).d:=by
 refine⟨h.ll,h.lv,by simp[R.GR,h.sl],λi r g=>?_,h.jl,h.jb⟩;have a:(G.J.map λr=>if r.c=uid/\r.d<3 then {r with d:=4} else r)[i]?=some r:=g;rw[BP]at a;cases hq:G.J[i]? with
 |none=>rw[hq]at a;cases a
 |some r0=>
  rw[hq]at a;have b:=h.sn i r0 hq;obtain rfl:=Option.some.inj a;show R.Tm (G.C.getD (i / 3) 0) (if r0.c=uid/\r0.d<3 then {r0 with d:=4} else r0);split
  .rename_i c;have f:r0.a≠0:=λe=>by
    have:=b.zero e;rw[this]at c;have:(0:Int)=uid:=c.1;omega
   grind [R.Tm]
  .exact b
theorem RM.uE(h:RM x v F G w)(d:DY w W)(f:W.grownBy wz v.N.ownBlock){name:Ac}(a:wz.ownsRow 0 9 1 K (G.e+1) (KG G.e++[.string (str name)]))(b:K.ownBlock=v.N.ownBlock\/K.ownBlock=j0)(g:w<=j0):wz.heap[x]?=w.heap[x]?/\∃c,RM x {v with N:=K} c {G with e:=G.e++[name]} (wz.setCell (Y x 5) K)/\D8 F c w (wz.setCell (Y x 5) K):=by
 have i:=h.bx;have⟨d1,d2,d3,d4⟩:=OQ (o:=5) i h.e Em d f a b g;refine⟨(Kd h.bx h.e Em d f).trans h.bx.symm,h.tQ d3 d2 ?_ d4⟩
 grind [KG]
theorem RM.mX(h:RM x v F G w)(d:DY w W)(e:W.grownBy wz v.S.ownBlock){u:Int}(a:wz.ownsRow 0 3 1 K (G.f+1) (GK G.f++[Z u]))(b:K.ownBlock=v.S.ownBlock\/K.ownBlock=j0)(g:w<=j0):wz.heap[x]?=w.heap[x]?/\∃c,RM x {v with S:=K} c {G with f:=G.f++[u]} (wz.setCell (Y x 6) K)/\D8 F c w (wz.setCell (Y x 6) K):=by
 have i:=h.bx;have⟨d1,d2,d3,d4⟩:=OQ (o:=6) i h.f Em d e a b g;refine⟨(Kd h.bx h.f Em d e).trans h.bx.symm,h.Wo d3 d2 ?_ d4⟩
 grind [GK]
theorem QH.snoc{zs:List (R.Sv×Value)}{js:List R.Jb}(h:QH w F zs J js)kind:QH w F (zs++[(⟨kind,true,[]⟩,Dz)]) J js:=by
 have a:∀(i:Nat) (y:R.Sv×Value),(zs++[(⟨kind,true,[]⟩,Dz)])[i]?=some y->zs[i]?=some y\/y=(⟨kind,true,[]⟩,Dz):=λi y b=>by
  grind
 refine⟨λz hz=>?_,λi j z y hz b c k hk=>?_,h.d⟩
 .rcases Bj.1 hz with q|q
  .exact h.c z q
  .rw[Bg.1 q];exact⟨⟨[],I,AZ _ _ _ _,λy b=>by cases b⟩,λj d=>by cases d⟩
 .rcases a i z hz with q|q
  .rcases a j y b with r|r
   .exact h.apart i j z y q r c k hk
   .rw[r];intro e;cases e
  .rw[q]at hk;cases hk
theorem RM.ZG(h:RM x v F G w)(hb:DY w W)(g:W.grownBy wz v.V.ownBlock)(c:wz.ownsRow 0 234 3 K (v.zs+1) (tab Ew v.zs++[Z kind,DC,Dz]))(f:K.ownBlock=v.V.ownBlock\/K.ownBlock=j0)(j:w<=j0):wz.heap[x]?=w.heap[x]?/\∃p d,RM x p d {G with a:=G.a++[⟨kind,true,[]⟩]} (wz.setCell (Y x 7) K)/\D8 F d w (wz.setCell (Y x 7) K):=by
 have l:=h.bx;have⟨d1,d2,d3,d4⟩:=OQ (o:=7) l h.a Em hb g c f j;refine⟨(Kd h.bx h.a Em hb g).trans h.bx.symm,?_⟩;have m:∀{b:Nat} {r:Array Value} {t:Ag},Dy w b r t->t≠186->t≠234->¬(b=x\/v.V.ownBlock=some b):=λhb h1 h2 e=>by
  exact ace
 have⟨d,i,n⟩:=h.kj (K:=K) (zs:=v.zs++[(⟨kind,true,[]⟩,Dz)]) d3 d2 (by
  rw[AJ,Jn];exact d1) (F2:=F) (λk q=>Aj q) (λ_ q=>q) (λk q=>Ai (h.lt k q) d3.size) ((h.c.keep d3 (λhb q=>m hb (by rcases q with rfl|rfl|rfl<;>decide) (by rcases q with rfl|rfl|rfl<;>decide)) (λ_ q=>q)).snoc kind) d4
 rw[C8,h.zs]at i;exact⟨_,d,i,n⟩
theorem Q9:∀l:List Int,GK l=tab (λn=>[Value.int .i64 n]) l
 |[]=>rfl
 |a :: l=>by
  have b:=Q9 l;simp only[GK,tab,Cq,Ci,List.singleton_append]at b ⊢;rw[b]
theorem RM.Qv(h:RM x v F G w)(hk:G.f[k]?=u0)u:∃g cap,v.S=EJ g G.f cap/\EB w g k (Z u0)/\DJ w g k/\∃m,RM x v m {G with f:=G.f.set k u} (w.setCell (Y g k) (Z u))/\D8 F m w (w.setCell (Y g k) (Z u)):=by
 have e1:=Q9 G.f;have hrow:=h.f;rw[e1]at hrow;have⟨g,cap,d,o,a,i⟩:=Jx (f:=λn=>[Value.int .i64 n]) (size:=1) (λ_=>rfl) U hrow hk;have c0:=a 0 (Z u0) U I;simp only[Nat.mul_one,Cz]at c0;refine⟨g,cap,d,c0,i _,?_⟩;rw[d]at hrow;have c:=Qr (f:=λn=>[Value.int .i64 n]) (size:=1) (λ_=>rfl) hrow (y':=u) hk (j:=0) U (u:=Z u) I;simp only[Nat.mul_one,Cz]at c;have b:DF (λj=>j=g) w (w.setCell (Y g k) (Z u)):=by grind [DF.setCell,DF.refl]
 have l:¬x=g:=λe=>by
  exact wR
 refine h.Wo (K:=v.S) (b.mono (λj _ e=>Am (by rw[d,e];rfl))) (b.at h.bx l) ?_ (λj p=>Aj p)
 grind [Q9]
theorem jJ:(prog.info? 9).map (λi=>(i.zero,i.size,i.bytes))=some (some (.string ⟨#[]⟩),1,16):=EL
theorem Xk:(prog.info? 3).map (λi=>(i.zero,i.size,i.bytes))=(some (Z 0),1,8):=EL
theorem sw:(prog.info? 234).map (λi=>(i.zero,i.size,i.bytes))=some (some (.agg #[Z 0,DI,Dz]),3,40):=EL
theorem LH(w:Aa)(t:Ag)(l:Ae)(j:Nat)(u:Ad)(h:l[j]?=u):(w.alloc (.cells l.toArray t)).cell? (((EN w 0):Addr).add j)=u:=by grind [Addr.add_lit,World.cell?_alloc_new]
theorem zX(w:Aa)(x:Nat)(S:Ab)(kind e0:Int)(nm:Bool)en(j k:Af)(d l i m:Nat)(H212:Hid (∀w,D7 188 #[.string S] w (.bool nm) λb=>b=w))(H213:Hid (D7 189 #[Ey x,.string S] w (Z en) λb=>b=w))(q:EB w x 5 (.slice j d l))(x7:EB w x 7 (.slice k i m))
  (h:(nm=false/\e0=10)\/(nm=true/\(kind<0\/2<kind)/\e0=9)\/(nm=true/\¬kind<0/\¬2<kind/\en<0/\d=6/\e0=12)\/(nm=true/\¬kind<0/\¬2<kind/\¬(en<0/\d=6)/\i=255/\e0=11)):
  D7 123 #[Ey x,.string S,Z kind] w (.tuple #[Z 0,Z e0]) λb=>b=w:=by
 have s:=Gv q;rcases h with ⟨a,c⟩|⟨a,c,e⟩|⟨a,c,e,n,f,g⟩|⟨a,c,e,n,f,g⟩
 .subst a c;exact pg
 .subst a e;by_cases hk:kind<0
  .exact pg
  .have o:2<kind:=U;exact pg
 .subst a f g;exact pg
 .subst a f g;by_cases r:en<0
  .have p:((d:Int)==6)=false:=Fy;exact pg
  .exact pg
theorem PH(w:Aa)(B:Nat)(hB:w=B)(t:Ag)(l:Ae)(j:Nat)(u:Ad)(h:l[j]?=u):(w.alloc (.cells l.toArray t)).cell? (((Y B 0):Addr).add j)=u:=by grind [LH]
theorem UO{a:Addr}{v:Ad}:(w.setCell a v)=w.heap.size:=by simp[World.setCell]
theorem uZ(w:Aa)(x:Nat)(v:RV)(F:D9)(G:R.Wd)(h:RM x v F G w)(name:Ac)kind(ce:¬kind<0)(cg:¬2<kind)(aq:R.Gf name=true)(al:Jv G.e name=-1)(ch:G.e.length<6)(ar:G.f=G.e.length)(cp:G.a.length<255):
  D7 123 #[Ey x,.string (str name),Z kind] w (.tuple #[Z (G.a+1),Z 0]) λw'=>∃v' F',RM x v' F' {G with e:=G.e++[name],f:=G.f++[(G.a:Int)+1],a:=G.a++[⟨kind,true,[]⟩]} w'/\D8 F F' w w':=by
 have⟨k,l⟩:=FU (λw=>PL name w) (h.entry U name);rw[aq]at k;rw[al]at l;have hzl:v.zs.length=G.a.length:=by rw[<-h.zs,AX]
 have⟨aN,cN,hN⟩:=Fa h.e;have⟨aV,cV,hV⟩:=Fa h.a;rw[hzl]at hV;have x5:EB w x 5 (.slice aN G.e.length cN):=ED h.bx 5 _ (by rw[<-hN];rfl);have x7:EB w x 7 (.slice aV G.a.length cV):=ED h.bx 7 _ (by rw[<-hV];rfl);have⟨O,P,hS⟩:=Fa h.f;have x6:EB w x 6 (.slice O G.f.length P):=ED h.bx 6 _ (by rw[<-hS];rfl);have hx:=Gv x5;have⟨HS,ab⟩:=FU hS hV;have eu:IntKind.i64.wrap ((G.a.length:Int)+1)=(G.a.length:Int)+1:=Iz;have c7:((G.e.length:Int)==6)=false:=Fy;have c8:((G.a.length:Int)==255)=false:=Fy;have⟨iS,bq,bb,be,bf⟩:=A1 jJ;have⟨iI,bp,b6,b7,b9⟩:=A1 Xk;have⟨iV,br,bg,bi,bj⟩:=A1 sw;have c:=h.e;rw[hN]at c;have⟨Q,HH,HN,aa⟩:=bE c h hN ar;clear h hN hV c aq al ar hS
 delta D7
 go_in
 go_wp2_with (first|(go_at_call 188;refine cm (k _) λw1 q=>?_;rw[q];clear q k)|(go_at_call 189;refine cm l λw1 q=>?_;rw[q];clear q l)|(at_builtin;go_must (refine AQ _ I (.tmp 72) (.tmp 74) 36 I 0 9 iS (.string ⟨#[]⟩) 1 16 underlying36 bq bb be bf I Em (.slice aN G.e.length cN) G.e.length (KG G.e) I (by exact Q.alloc _) (EN w 0) 1 1 [.string (str name)] I I (by exact LH w 9 [.string (str name)]) Vd JG U U ?_)))
 intro K1 u n am _ y;have bt:=HH.uE (W:=w.alloc (.cells #[.string (str name)] 9)) F9 (by rw[Dw HN];exact am) n (by rw[Dw HN];exact y) Ev;have⟨g,j,i,av⟩:=Ei n;subst av;have⟨s,F1,D,H⟩:=bt;have u5:=(AR s).trans x5;have z5:=(A8 s).trans (Hf HH.bx 5);have l5:=Gv u5;have u6:=(AR s).trans x6;have d:=D.f;rw[show ({v with N:=Value.slice g j i}:RV).S=.slice O G.f.length P from Dw HS]at d;have⟨T,B,ac⟩:=Ll d D H;have ci:w.heap.size<=u.heap.size:=by have:=H.H.size;simpa using this
 have co:G.f.length<=10:=by have:=Dw aa;omega
 clear n am y s D H d Q;go_wp2_with (at_builtin;go_must (refine AQ _ I (.tmp 82) (.tmp 84) 29 I 0 3 iI (Z 0) 1 8 underlying29 bp b6 b7 b9 I Em (.slice O G.f.length P) G.f.length (GK G.f) I (by exact T.alloc _) (EN u 0) 1 1 [Z ((G.a.length:Int)+1)] I I (by exact PH (u.setCell (Y x 5) (.slice g j i)) _ UO 3 [Z ((G.a.length:Int)+1)]) Vd JG U U ?_))
 intro K2 r o an _ z;have bz:=B.mX (W:=(u.setCell (Y x 5) (.slice g j i)).alloc (.cells #[Z ((G.a.length:Int)+1)] 3)) F9 (by rw[show ({v with N:=Value.slice g j i}:RV).S=.slice O G.f.length P from Dw HS];exact an) o (by rw[show ({v with N:=Value.slice g j i}:RV).S=.slice O G.f.length P from Dw HS];exact z) Ev;have⟨K,M,L,aw⟩:=Ei o;subst aw;have⟨t,F2,E,ah⟩:=bz;have b1:=B.bx;have t6:EB r x 6 (.slice O G.f.length P):=(AR t).trans (ED b1 6 _ (by rw[<-Dw HS];rfl));have bT:=(A8 t).trans (Hf b1 6);have t7:EB r x 7 (.slice aV G.a.length cV):=(AR t).trans (ED b1 7 _ (by rw[<-Dw ab];rfl));have l6:=Gv t6;have b:=E.a;rw[show v.zs.length=G.a.length from hzl]at b;have m:=Dw ab;rw[m]at b;have⟨X,C,ad⟩:=Ll b E (ac.trans ah);clear o an z t E ah b T B ac b1 u5 z5 u6;go_wp2_with (at_builtin;go_must (refine AQ _ I (.tmp 92) (.tmp 95) 180 I 0 234 iV (.agg #[Z 0,DI,Dz]) 3 40 underlying180 br bg bi bj I Em (.slice aV G.a.length cV) G.a.length (tab Ew v.zs) I (by exact X.alloc _) (EN r 0) 1 1 [Z kind,DC,Dz] I I (by exact PH (r.setCell (Y x 6) (.slice K M L)) _ UO 234 [Z kind,DC,Dz]) Vd JG U U ?_))
 intro K3 bU p ao _ A;have bS:=C.ZG (W:=(r.setCell (Y x 6) (.slice K M L)).alloc (.cells #[Z kind,DC,Dz] 234)) F9 (by rw[m];exact ao) (by rw[show ({({v with N:=Value.slice g j i}:RV) with S:=Value.slice K M L}:RV).zs.length=G.a.length from hzl];exact p) (by rw[m];exact A) Ev;have⟨cy,cC,cz,az⟩:=Ei p;subst az;have⟨J,v3,F3,ae,ak⟩:=bS;have b2:=C.bx;have s7:EB bU x 7 (.slice aV G.a.length cV):=(AR J).trans (ED b2 7 _ (by rw[<-m];rfl));have ct:=(A8 J).trans (Hf b2 7);have l7:=Gv s7;have⟨b3,b4⟩:=FU ae (ad.trans ak);clear p ao A J ae ak X C ad b2 t6 bT t7 m;go_wp2_with fail
 go_returns;exact⟨I,v3,F3,b3,b4⟩
theorem rH(G:R.Wd)uid:(R.GR G uid).a=G.a.length:=by simp[R.GR]
theorem RH(G:R.Wd)uid:(R.GR G uid).f=G.f:=rfl
theorem vd(w:Aa)(x:Nat)(v:RV)(F:D9)(G:R.Wd)(h:RM x v F G w)(z:G.J.length=9)(name:Ac)kind(k:Nat)u0(b4:¬kind<0)(b5:¬2<kind)(N:R.Gf name=true)(L:Jv G.e name=k)(ae:G.e.length<=6)(n:G.f[k]?=some u0)(av:G.f.length<=6)(ak:1<=u0)(al:u0<=G.a.length)(b7:G.a.length<255):
  D7 123 #[Ey x,.string (str name),Z kind] w (.tuple #[Z ((G.a.length:Int)+1),Z 0]) λw'=>∃v' F',RM x v' F' {R.GR G u0 with f:=(R.GR G u0).f.set k ((G.a.length:Int)+1),a:=(R.GR G u0).a++[⟨kind,true,[]⟩]} w'/\D8 F F' w w':=by
 have⟨g,i⟩:=FU (λw=>PL name w) (h.entry ae name);rw[N]at g;rw[L]at i;have hzl:v.zs.length=G.a.length:=by rw[<-h.zs,AX]
 have⟨aV,cV,hV⟩:=Fa h.a;have⟨aN,cN,hN⟩:=Fa h.e;rw[hzl]at hV;have⟨gS,cS,hS,cu,_,_⟩:=h.Qv n 0;have x5:EB w x 5 (.slice aN G.e.length cN):=ED h.bx 5 _ (by rw[<-hN];rfl);have x6:EB w x 6 (EJ gS G.f.length cS):=ED h.bx 6 _ (by rw[<-hS];rfl);have x7:EB w x 7 (.slice aV G.a.length cV):=ED h.bx 7 _ (by rw[<-hV];rfl);have hx:=Gv x6;have eu:IntKind.i64.wrap ((G.a.length:Int)+1)=(G.a.length:Int)+1:=Iz;have aw:((G.a.length:Int)==255)=false:=Fy;have b6:=GG n;obtain⟨q0,q1,q2⟩:0<=(k:Int)/\(k:Int)<(G.f.length:Int)/\¬(k:Int)<0:=U;have⟨iV,ad,aa,ab,ac⟩:=A1 sw;have⟨o,aS,Q⟩:=Ll (h.end_ z U ak al) hS n;clear h hN hV N L n
 delta D7
 go_in
 go_wp2_with (first|(go_at_call 188;refine cm (g _) λB l=>?_;rw[l];clear l g)|(go_at_call 189;refine cm i λB l=>?_;rw[l];clear l i))
 refine cm o ?_;rintro B ⟨v1,F1,b,an,am,H⟩;clear o;have⟨g1,c1,y,X,z1,F2,u,J⟩:=b.Qv (k:=k) (u0:=u0) (by rw[RH];exact Dw Q) ((G.a.length:Int)+1);rw[RH]at y;have y6:EB B x 6 (EJ g1 G.f.length c1):=ED b.bx 6 _ (by rw[<-y];rfl);have⟨s,t,c⟩:=Fa b.a;have m:v1.zs.length=G.a.length:=by rw[<-rH G u0,<-b.zs,AX]
 rw[m]at c;have y7:EB B x 7 (.slice s G.a.length t):=ED b.bx 7 _ (by rw[<-c];rfl);have ba:¬g1=x:=λe=>by
  have hr:=b.f;rw[y]at hr;have⟨b1,hc⟩:=J3 hr I;subst e;exact ES hc b.bx Em I
 have d:=u.a;rw[m,c]at d;have⟨b9,b3⟩:=KM y6 X;have⟨C,q,r,D⟩:=bE d u c (H.trans J);clear b u H J d c x5 x6 x7 cu an am;go_wp2_with (at_builtin;go_must (refine AQ _ I (.tmp 92) (.tmp 95) 180 I 0 234 iV (.agg #[Z 0,DI,Dz]) 3 40 underlying180 ad aa ab ac I Em (.slice s G.a.length t) G.a.length (tab Ew v1.zs) I (by exact C.alloc _) (EN B 0) 1 1 [Z kind,DC,Dz] I I (by exact PH (B.setCell (Y g1 k) (Z ((G.a.length:Int)+1))) _ UO 234 [Z kind,DC,Dz]) Vd JG U U ?_))
 intro K3 ao j M _ p;have ah:=q.ZG (W:=(B.setCell (Y g1 k) (Z ((G.a.length:Int)+1))).alloc (.cells #[Z kind,DC,Dz] 234)) F9 (by rw[Dw r];exact M) (by rw[m];exact j) (by rw[Dw r];exact p) Ev;have⟨bi,bp,bj,O⟩:=Ei j;subst O;have⟨A,v3,F3,E,K⟩:=ah;have T:=q.bx;have s7:EB ao x 7 (.slice s G.a.length t):=(AR A).trans (ED T 7 _ (by rw[<-Dw r];rfl));have be:=(A8 A).trans (Hf T 7);have l7:=Gv s7;have⟨P,S⟩:=FU E (D.trans K);clear j M p A E K C q D T;go_wp2_with fail
 go_returns;exact⟨I,v3,F3,P,S⟩
theorem RW.export(h:RW x v F G w)(name:Ac)kind:D7 123 #[Ey x,.string (str name),Z kind] w (.tuple #[Z (R.E4 G name kind).1.1,Z (R.E4 G name kind).1.2]) λd=>∃i f,RW x i f (R.E4 G name kind).2 d/\D8 F f w d:=by
 have j:=h.mem;have b:=h.wf;have a:=b.export name kind;have c:=b.nm;have B:=b.sv;have hzl:v.zs.length=G.a.length:=by rw[<-h.zs,AX]
 have⟨r,t,z⟩:=Fa h.e;have⟨s,u,y⟩:=Fa h.a;rw[hzl]at y;have C:EB w x 5 (.slice r G.e.length t):=ED h.bx 5 _ (by rw[<-z];rfl);have x7:EB w x 7 (.slice s G.a.length u):=ED h.bx 7 _ (by rw[<-y];rfl);have hno:=λ(e0:Int)=>zX w x (str name) kind e0 (R.Gf name) (Jv G.e name) r s G.e.length t G.a.length u (Dx λw=>PL name w) (Dx (j.entry c name)) C x7
 have same:∀{e0:Int},ET 123 #[Ey x,.string (str name),Z kind] w (λe d=>e=.returned (.tuple #[Z 0,Z e0])/\d=w)->D7 123 #[Ey x,.string (str name),Z kind] w (.tuple #[Z 0,Z e0]) λd=>∃i f,RW x i f G d/\D8 F f w d:=λhc=>hc.mono (by
  rintro e d ⟨rfl,rfl⟩;exact⟨I,v,F,h,D8.refl F _⟩)
 unfold R.E4 at a ⊢;by_cases hn:R.Gf name=false
 .rw[Ay hn];exact same (hno 10 (Aj ⟨hn,I⟩))
 .rw[Ao hn]at a ⊢;rw[Bool.not_eq_false]at hn;by_cases hk:kind<0\/2<kind
  .rw[Ay hk];exact same (hno 9 (Am (Aj ⟨hn,hk,I⟩)))
  .rw[Ao hk]at a ⊢;cases he:R.Gi G name with
   |none=>
    have n:Jv G.e name=-1:=by
     rw[j.Gi,he]
    simp only[he]at a ⊢;by_cases m:G.e.length=6
    .rw[Ay m];exact same (hno 12 (Am (Am (Aj ⟨hn,U,U,U,m,I⟩))))
    .rw[Ao m]at a ⊢;by_cases h255:G.a.length=255
     .exact acm
     .rw[Ao h255]at a ⊢;refine cm (uZ w x v F G j name kind U U hn n U b.st U) ?_;rintro d ⟨i,f,p,q⟩;exact⟨I,i,f,p.whole a h.g,q⟩
   |some k=>
    have n:Jv G.e name=(k:Int):=by
     rw[j.Gi,he]
    simp only[he]at a ⊢;have o:=(Bi.1 (R.Jp he)).1;by_cases h255:G.a.length=255
    .exact acm
    .rw[Ao h255]at a ⊢;have A:k<G.f.length:=by rw[b.st];exact o
     have l:G.f[k]?=some (G.f.getD k 0):=by grind
     have g:=b.d _ (Ap l);refine(vd w x v F G j h.g.sl name kind k (G.f.getD k 0) U U hn n c l (by rw[b.st];exact c) g.1 g.2 U).mono ?_;rintro e d ⟨rfl,i,f,p,q⟩;exact⟨I,i,f,p.whole a (rJ h.g g.1),q⟩
theorem RM.rename(h:RM x v F G w){M:Ad}(hk:DF (λk=>k=x) w w')(E:Dy w' x (Iv G.c {v with N:=K,S:=M}) 186)(hn:w'.ownsRow 0 9 1 K nm (KG nm))(D:w'.ownsRow 0 3 1 M st (GK st))(Q:∀j,K.ownBlock=some j->w<=j)(u:∀j,M.ownBlock=some j->w<=j):∃J o,RM x J o {G with e:=nm,f:=st} w'/\D8 F o w w':=by
 have⟨p,r,B⟩:=h.A;have g:∀{b:Nat} {O:Array Value} {t:Ag},Dy w b O t->t≠186->¬b=x:=λd l e=>by
  subst e;exact ES d h.bx l I
 have m:∀{n size:Nat} {e:Ag} {M:Ad} {L:Ae},w.ownsRow 0 e size M n L->e≠186->∀j,M.ownBlock=some j->¬j=x:=λT l j c=>by
  all_goals grind [J3]
 refine⟨{v with N:=K,S:=M},λk=>F k\/K.ownBlock=some k\/M.ownBlock=some k,⟨E,hn,D,h.zs,hk.row h.a (m h.a Em),h.c.keep hk (λd q=>g d (by rcases q with rfl|rfl|rfl<;>decide)) (λ_ q=>Aj q),hk.row h.X (m h.X Em),h.zc,hk.row h.cl (m h.cl Em),λi z hz=>hk.row (h.d i z hz) (m (h.d i z hz) Em),λi z hz=>?_,hk.at h.C (g h.C Em),hk.at h.J (g h.J Em),⟨Aj p,Aj r,Aj B⟩,λj c=>?_,λi z hz=>⟨Aj (h.b i z hz).1,λj c=>⟨Aj ((h.b i z hz).2 j c).1,((h.b i z hz).2 j c).2.1,λe=>?_⟩⟩,λe=>?_,h.inj,λk a=>?_⟩,⟨hk.mono (λk _ e=>by rw[e];exact p),λk a=>?_⟩⟩
 .have⟨P,l,s,C⟩:=h.ln i z hz;exact⟨P,l,hk.at s (g s Em),λy H=>(C y H).keep hk (λb A _ d=>g d Em) (λ_ q=>Aj q)⟩
 .rcases c with q|q|q
  .exact Am (Aj q)
  .exact Am (Am q)
  .exact Aj (h.rows j (Am (Am q)))
 .have:=u j e;have:=h.lt j ((h.b i z hz).2 j c).1;omega
 .have:=u v.L e;have:=h.lt v.L r;omega
 .rcases a with a|a|a
  .exact Ai (h.lt k a) hk.size
  all_goals grind [J3]
 all_goals grind
def er{α:Type}(l:List α)(k i:Nat):List α:=(l.take i).eraseIdx k
theorem jB{α:Type}(l:List α)(k:Nat):er l k 0=[]:=by simp[er]
theorem rM{α:Type}(l:List α)(k:Nat):er l k l=l.eraseIdx k:=by simp[er]
theorem aa4{α:Type}(l:List α)(k:Nat)(y:α)(h:l[k]?=y):er l k (k+1)=er l k k:=by grind [er,List.take_add_one,List.eraseIdx_cons_zero]
theorem rP{α:Type}(l:List α)(k i:Nat)(y:α)(h:l[i]?=y)(hk:¬i=k):er l k (i+1)=er l k i++[y]:=by grind [er,List.take_add_one,List.eraseIdx_of_length_le]
theorem rO{α:Type}(l:List α)(k i:Nat):(er l k i)<=l.length:=by grind [er]
theorem UD{v:Ad}(h:w.ownsRow B e size v n xs):w.ownsRow 0 e size v n xs:=by
 refine⟨h.1,?_⟩;rcases h.2 with q|⟨g,cap,a,b,_,r⟩;all_goals grind
theorem GL{v:Ad}(h:w.ownsRow B e size v n xs)(a:v.ownBlock=j):B<=j:=by
 rcases h.2 with ⟨q,_⟩|⟨g,cap,b,d,c,r⟩
 .rw[q]at a;cases a
 .rw[d]at a;cases a;exact c
theorem V9{v:Ad}(h:w.ownsRow B e size v n xs)(l:w.ownsRow B' e' size' v' n' ys)(f:e≠e')(k:DY w W)(m:W.grownBy wz v'.ownBlock):wz.ownsRow B e size v n xs:=by
 refine⟨h.1,?_⟩;rcases h.2 with q|⟨g,cap,b,o,c,a,r⟩
 .exact Aj q
 .have hl:=(AB.1 a).1;refine Am ⟨g,cap,b,o,c,?_,r⟩;rw[m.block g (Ai hl k.size) (λq=>?_),k.block g hl]
  .exact a
  .rcases l.2 with ⟨p,_⟩|⟨g2,_,j,i,_,d,_⟩
   .rw[p]at q;cases q
   .rw[i]at q;cases q;exact ES a d f I
theorem below_grown{a:Aa}{row:Option Nat}(h:DY a W)(b:W.grownBy wz row)(c:∀k,row=some k->a<=k):DY a wz:=
 ⟨b.os.trans h.os,b.tape.trans h.tape,b.output.trans h.output,Br h.size b.size,λk hk=>by
  rw[b.block k (Ai hk h.size) (λe=>by have:=c k e.symm;omega)];exact h.block k hk⟩
structure Ry(w1 wr:Aa)(nm:List (List UInt8))(st:List Int)(nv sv:Ad):Prop where
 h:Below w1.heap.size w1 wr
 n:wr.ownsRow w1.heap.size 9 1 nv nm.length (KG nm)
 s:wr.ownsRow w1.heap.size 3 1 sv st.length (GK st)
theorem Ry.start(a:Aa):Ry a a [] [] Dz Dz:=⟨AA _ _,AZ _ _ _ _,AZ _ _ _ _⟩
theorem gL{S:Ab}(r:World->Prop)(hk:k<n)(hn:nm=n)(hs:st=n)(bS:n<=6)(x6:EB w x 6 (EJ gS n cS))(cu:EB w gS k (Z u0))(m:Hid (D7 189 #[Ey x,.string S] w (Z k) λw'=>w'=w))(q:Hid (D7 190 #[Ey x,Z u0] w Ep λw'=>w'=w1))
  (y5:EB w1 x 5 (EJ gN n cN)) (y6:EB w1 x 6 (EJ gS n cS)) (hz:∀o,DJ w1 x o) (W:∀(i:Nat) (y:Ac),nm[i]?=y->EB w1 gN i (.string (str y))) (X:∀(i:Nat) y,st[i]?=some y->EB w1 gS i (Z y))
  (hP:∀wr nv sv,Ry w1 wr (nm.eraseIdx k) (st.eraseIdx k) nv sv->r ((wr.setCell (Y x 5) nv).setCell (Y x 6) sv)):
  D7 125 #[Ey x,.string S] w (Z 0) λw'=>r w':=by
 have⟨hx,bt⟩:=KM x6 cu;obtain⟨q0,q1,q2⟩:0<=(k:Int)/\(k:Int)<n/\¬(k:Int)<0:=U;have⟨iS,aS,ar,av,aw⟩:=A1 jJ;have⟨iI,aN,am,an,ao⟩:=A1 Xk;have e:=Gv y5;have⟨ah,D,HP⟩:=Ll W X hP;have ak:=hz 5;have al:=hz 6;have⟨Y5,Y6⟩:=FU y5 y6;clear W X hP hz y5 y6
 delta D7
 go_in
 go_wp2_with (first|(go_at_call 189;refine cm m λw2 d=>?_;rw[d];clear d m)|(go_at_call 190;refine cm q λw2 d=>?_;rw[d];clear d q))
 go_loopw [6,7,8] (λnv sv iv wr=>∃i:Nat,i<=n/\iv=Z i/\Ry w1 wr (er nm k i) (er st k i) nv sv) (λ_ _ iv _=>n-(intOf iv).toNat)
 case atStart=>exact⟨0,AV _,I,by rw[jB,jB];exact Ry.start w1⟩
 case round=>
  obtain⟨i,hi,rfl,hB⟩:=hrel;have⟨na,nc,g⟩:=Fa hB.n;have⟨sa,sc,h⟩:=Fa hB.s;have z5:=(hB.h.cell (p:=Y x 5) e).trans (Dw Y5);have z6:=(hB.h.cell (p:=Y x 6) e).trans (Dw Y6);have f5:=(hB.h.frozen (p:=Y x 5) e).trans ak;have f6:=(hB.h.frozen (p:=Y x 6) e).trans al;have bU:=Gv z5;have aV:=rO nm k i;have b1:=rO st k i;rw[hn]at aV;rw[hs]at b1;have p0:0<=(i:Int):=U;by_cases bz:i<n
  .have p1:(i:Int)<n:=U;by_cases A:i=k
   .subst A;have HB':Hid (Ry w1 wr (er nm i (i+1)) (er st i (i+1)) u6 u7):=by
     rw[aa4 nm i _ (Ah U),aa4 st i _ (Ah U)];exact hB
    clear hB g h;exact aco
   .obtain⟨y,hy⟩:∃y,nm[i]?=some y:=⟨_,Ah U⟩;obtain⟨t,ht⟩:∃t,st[i]?=some t:=⟨_,Ah U⟩;have cy:EB wr gN i (.string (str y)):=by
     have:=ah i y hy;exact(hB.h.cell (p:=Y gN i) (Gv this)).trans this
    have H:=D i t ht;have ct:EB wr gS i (Z t):=by
     have:=D i t ht;exact(hB.h.cell (p:=Y gS i) (Gv this)).trans this
    have bT:((i:Int)==k)=false:=Fy;have az:=hB.h.size;have e1:=rP nm k i y hy A;have e2:=rP st k i t ht A;have hN:=hB.n;rw[g]at hN;have hS:=hB.s;rw[h]at hS;have⟨HN,HS,C,E,F⟩:=Eo hN hS hB.h e1 e2;have⟨br,bi⟩:=KM cy ct;subst g h;clear hB e1 e2 hN hS hy ht;generalize er nm k i=M at *;generalize er st k i=T at *;go_wp2_with (at_builtin;go_must (refine AQ _ I (.tmp 35) (.tmp 43) 36 I w1.heap.size 9 iS (.string ⟨#[]⟩) 1 16 underlying36 aS ar av aw I Em (.slice na M.length nc) M.length (KG M) I (by exact HN.alloc _) (EN wr 0) 1 1 [.string (str y)] I I (by exact LH wr 9 [.string (str y)]) Vd JG U Fy ?_))
    intro K1 l b v _ N;have⟨b3,b7,b5,aa⟩:=Ei b;subst aa;have Q:DY wr (wr.alloc (.cells #[.string (str y)] 9)):=F9;have a:=below_grown (C.alloc az _) v (λj hj=>GL HN hj);have s:=V9 HS HN Em Q v;have v6:=(a.cell (p:=Y x 6) e).trans (Dw Y6);have vt:=(a.cell (p:=Y gS i) (Gv H)).trans H;have P:=a.size;have⟨G,B,f⟩:=Ll b a s;clear b v N Q a s HN HS C z5 z6 cy ct f5 f6;go_wp2_with (at_builtin;go_must (refine AQ _ I (.tmp 45) (.tmp 53) 29 I w1.heap.size 3 iI (Z 0) 1 8 underlying29 aN am an ao I Em (.slice sa T.length sc) T.length (GK T) I (by exact f.alloc _) (EN l 0) 1 1 [Z t] I I (by exact LH l 3 [Z t]) Vd JG U Fy ?_))
    intro K2 ba c z _ O;have⟨b4,b9,b6,ab⟩:=Ei c;subst ab;have u:DY l (l.alloc (.cells #[Z t] 3)):=F9;have K:=below_grown (B.alloc P _) z (λj hj=>GL f hj);have L:=V9 G f Em u z;have HB':Hid (Ry w1 ba (er nm k (i+1)) (er st k (i+1)) (.slice b3 b7 b5) (.slice b4 b9 b6)):=by
     rw[Dw E,Dw F];refine⟨K,?_,?_⟩
     .rw[show KG (M++[y])=KG M++[.string (str y)] by simp[KG],AJ];exact L
     .rw[show GK (T++[t])=GK T++[Z t] by simp[GK],AJ];exact c
    clear c z O u K L G B f E F v6 vt;exact aco
  .obtain rfl:i=n:=U;have J:Ry w1 wr (nm.eraseIdx k) (st.eraseIdx k) u6 u7:=by
    rw[<-rM nm k,<-rM st k,hn,hs];exact hB
   have HE:=Dx (HP wr u6 u7 J);subst g h;clear hB J HP;go_wp2_with fail
   go_returns;exact⟨I,HE⟩
theorem ga{l:List (List UInt8)}{y:Ac}(h:l[i]?=y):(KG l)[i]?=some (.string (str y)):=by simp[KG,h]
theorem Q8{l:List Int}{y:Int}(h:l[i]?=y):(GK l)[i]?=Z y:=by simp[GK,h]
theorem vv{S:Ab}(a:Hid (D7 189 #[Ey x,.string S] w (Z (-1)) λb=>b=w)):D7 125 #[Ey x,.string S] w (Z 10) λb=>b=w:=by
 delta D7
 go_in
 go_wp2_with (go_at_call 189;refine cs a ?_)
 go_returns;exact DN
theorem RW.Iy(h:RW x v F G w)(name:Ac):D7 125 #[Ey x,.string (str name)] w (Z (R.Fb G name).1) λJ=>∃H q,RW x H q (R.Fb G name).2 J/\D8 F q w J:=by
 have t:=h.mem;have c:=h.wf;have s:=c.Iy name;have n:=c.nm;have d:=t.entry n name;unfold R.Fb at s ⊢;cases he:R.Gi G name with
 |none=>
  have N:Jv G.e name=-1:=by rw[t.Gi,he]
  rw[N]at d;refine cs (vv (Dx d)) ?_
  grind [D8.refl]
 |some k=>
  have N:Jv G.e name=(k:Int):=by rw[t.Gi,he]
  rw[N]at d;simp only[he]at s ⊢;have B:=(Bi.1 (R.Jp he)).1;have ad:k<G.f.length:=by rw[c.st];exact B
  have C:G.f[k]?=some (G.f.getD k 0):=by grind
  have r:=c.d _ (Ap C);have⟨W,v1,F1,u,a,D,ah,P⟩:=t.aa3 h.g.sl c.sv r.1 r.2;have⟨gS,X,O,cu,_,_⟩:=t.Qv C 0;have x6:EB w x 6 (EJ gS G.f.length X):=ED t.bx 6 _ (by rw[<-O];rfl);have b:=a.e;obtain⟨M,L,hN⟩:∃M L,v1.N=EJ M G.e.length L:=by
   rcases b.2 with ⟨_,h0⟩|⟨g,cap,aa,hv,_⟩
   .have:G.e.length=0:=h0;omega
   .exact⟨g,cap,hv⟩
  rw[hN]at b;have y5:EB W x 5 (EJ M G.e.length L):=ED a.bx 5 _ (by rw[<-hN];rfl);have y6:EB W x 6 (EJ gS G.f.length X):=ED a.bx 6 _ (by rw[<-O,<-D];rfl);have l:=a.f;rw[D,O]at l;rw[c.st]at x6 y6;refine(gL (λJ=>∃H q,RW x H q {R.GR G (G.f.getD k 0) with e:=(R.GR G (G.f.getD k 0)).e.eraseIdx k,f:=(R.GR G (G.f.getD k 0)).f.eraseIdx k} J/\D8 F q w J) B I c.st n x6 cu (Dx d) (Dx u) y5 y6 (λo=>Eb a.bx) (λi y S=>Nb b (ga S)) (λi y S=>Nb l (Q8 S)) (λwr T sv hB=>?_)).mono ?_
  .have E:=a.bx;have hl:=(AB.1 E).1;have Q:=(hB.h.block x hl).trans E;have b1:=Ek (off:=6) (Ek (off:=5) Q T) sv;have hk:=((DF.J hB.h (λj=>j=x)).setCell (p:=Y x 5) (Aj I) T).setCell (p:=Y x 6) (Aj I) sv;have A:DF (λj=>j=x) wr ((wr.setCell (Y x 5) T).setCell (Y x 6) sv):=by grind [DF.refl,DF.setCell]
   have nx:∀{e:Ag} {K:Ad} {m size:Nat} {xs:Ae},wr.ownsRow W.heap.size e size K m xs->∀j,K.ownBlock=some j->¬j=x:=λhr j z e=>by
    have:=GL hr z;omega
   have⟨H,q,r1,r2⟩:=a.rename (nm:=G.e.eraseIdx k) (st:=G.f.eraseIdx k) hk b1 (A.row (UD hB.n) (nx hB.n)) (A.row (UD hB.s) (nx hB.s)) (λj z=>GL hB.n z) (λj z=>GL hB.s z);exact⟨H,q,r1.whole s (rJ h.g r.1),P.trans r2⟩
  grind
theorem Wm(k p:Int)(hk:0<=k/\k<=2):(R.IY k p=none/\aE k p=16)\/(R.IY k p=(Rh k p,Ri k p)/\aE k p=0/\(0<=p/\p<=1)/\(V.Pt.O7 (V.nx (Rh k p)) (Rh k p)).1=0/\∀v out,V.IG (Rh k p) v=some out->out.length<=70):=by
 have a:(k=0/\p=0)\/(k=0/\p=1)\/(k=1/\p=0)\/(k=1/\p=1)\/(k=2/\p=0)\/(¬(k=0/\p=0)/\¬(k=0/\p=1)/\¬(k=1/\p=0)/\¬(k=1/\p=1)/\¬(k=2/\p=0)):=U;rcases a with ⟨rfl,rfl⟩|⟨rfl,rfl⟩|⟨rfl,rfl⟩|⟨rfl,rfl⟩|⟨rfl,rfl⟩|⟨n1,n2,n3,n4,n5⟩
 .exact wG
 .exact wG
 .exact Am ⟨I,I,U,Kx,λv out h=>V.VO h Kx⟩
 .exact wG
 .exact Am ⟨I,I,U,Kx,λv out h=>V.TU h⟩
 .refine Aj ⟨?_,?_⟩
  .unfold R.IY;rw[Ao n1,Ao n2,Ao n3,Ao n4,Ao n5]
  .unfold aE;rw[Ao U,Ao n1,Ao n2,Ao n3,Ao n4,Ao n5]
theorem WU{t:Ab}(hc:(V.Pt.O7 (V.nx t) t).1=0)(a:∀v out,V.IG t v=some out->out.length<=70)(v:List V.It):R.Fi t v=V.IG t v:=by
 have h:=V.dD hc (a v);unfold R.Fi;cases he:V.IG t v with
 |none=>
  rw[he]at h;rw[Ao h]
 |some out=>
  rw[he]at h;simp only at h;rw[h];rfl
theorem gW{lb:Nat}{h:List (R.Ln×Value)}{V:Ad}(l':R.Ln)(m:Dy W lb (tab Ui h).toArray 222)(i:h[k]?=(l,V)):Dy (vz W lb k l') lb (tab Ui (h.set k (l',Dz))).toArray 222:=by
 have e:=GG i;have s0:=FL (V1:=V) (l1:={l with a:=l'.a}) m i (j:=0) (u:=Z l'.a) U I;have s1:=FL (V1:=V) (l1:={l with a:=l'.a,d:=l'.d}) s0 (AO e) (j:=1) (u:=Z l'.d) U I;rw[A5]at s1;have s2:=FL (V1:=Dz) (l1:={l with a:=l'.a,d:=l'.d}) s1 (AO e) (j:=2) (u:=Dz) U I;rw[A5]at s2;have s3:=FL (V1:=Dz) (l1:={l with a:=l'.a,d:=l'.d,c:=l'.c}) s2 (AO e) (j:=3) (u:=Z l'.c) U I;rw[A5]at s3;have s4:=FL (V1:=Dz) (l1:={l with a:=l'.a,d:=l'.d,c:=l'.c,to:=l'.to}) s3 (AO e) (j:=4) (u:=.string l'.to) U I;rw[A5]at s4;have s5:=FL (V1:=Dz) (l1:={l with a:=l'.a,d:=l'.d,c:=l'.c,to:=l'.to,b:=l'.b}) s4 (AO e) (j:=5) (u:=.string (str l'.b)) U I;rw[A5]at s5;have s6:=FL (V1:=Dz) (l1:={l with a:=l'.a,d:=l'.d,c:=l'.c,to:=l'.to,b:=l'.b,X:=l'.X}) s5 (AO e) (j:=6) (u:=Z l'.X) U I;rw[A5]at s6;have s7:=FL (V1:=Dz) (l1:={l with a:=l'.a,d:=l'.d,c:=l'.c,to:=l'.to,b:=l'.b,X:=l'.X,H:=l'.H}) s6 (AO e) (j:=7) (u:=.string (str l'.H)) U I;rw[A5]at s7;have s8:=FL (V1:=Dz) (l1:={l with a:=l'.a,d:=l'.d,c:=l'.c,to:=l'.to,b:=l'.b,X:=l'.X,H:=l'.H,f:=l'.f}) s7 (AO e) (j:=8) (u:=Z l'.f) U I;rw[A5]at s8;have s9:=FL (V1:=Dz) (l1:={l with a:=l'.a,d:=l'.d,c:=l'.c,to:=l'.to,b:=l'.b,X:=l'.X,H:=l'.H,f:=l'.f,C:=l'.C}) s8 (AO e) (j:=9) (u:=Z l'.C) U I;rw[A5]at s9;have g:=FL (V1:=Dz) (l1:=l') s9 (AO e) (j:=10) (u:=Z l'.e) U I;rw[A5]at g;exact g
theorem RW.acR(h:RW x v F G w){c:R.Cl}{s:R.Sv}(hc:G.b[i]?=c)(hl:c.a[k]?=l)(D:G.a[u]?=s)(J:((u:Int)+1)∈c.d)(p:c.d.length<=9000000000000):∃g cap e cb m n z A,Tk x v F G w i c g cap z A/\WE w x g G.b cap i k c.a e c.d cb m G.a n z.2.lb u (Y e 0) c.d s.J G.c.c G.c.e l:=by
 have⟨g,cap,z,A,b⟩:=h.at hc;have hi:=GG hc;have hk:=GG hl;have hu:=GG D;have r:=(h.wf.cl i c hc).a;have a:=h.d i z b.hz;rw[b.hc]at a;obtain⟨e,cb,hB⟩:∃e cb,z.2.bv=EJ e c.d.length cb:=by
  rcases a.2 with ⟨_,L⟩|⟨g,cap,H,M,_⟩;all_goals grind
 have hzl:v.zs.length=G.a.length:=by rw[<-h.zs,AX]
 have⟨zs,t,E⟩:=K4 h.zs D;have⟨m,n,C,_,d,_⟩:=Jx MD U h.a t;rw[hzl]at C;rw[hB]at a;have vk:EB w m (u*3) (Z s.J):=by
  have:=d 0 (Z zs.1.J) U I;all_goals grind
 have f:=b.c1;rw[hB]at f;have hC:=J3 h.cl (by rw[b.hC];rfl);have⟨B,q⟩:=hC;exact⟨g,cap,e,cb,m,n,z,A,b,⟨hi,hk,I,p,ED h.bx 1 _ (by rw[r];rfl),EI h.bx 2,EI h.bx 3,ED h.bx 7 _ (by rw[<-C];rfl),b.x9,f,b.c2,λj y K=>⟨I,Nb a (Q8 K)⟩,hu,h.wf.sv,vk,b.cells hl,λo=>Eb b.lb,J,⟨ES b.lb h.bx Em,ES b.lb q Em⟩⟩⟩
theorem RW.call(h:RW x v F G w)(cl li uid d:Int)(X:Ad)(arg:List V.It)(hI:V.Ff w X arg)(hn:arg.length<=9000000000000)(aa:∀c∈G.b,c.d.length<=9000000000000):
  D7 127 #[Ey x,Z cl,Z li,Z uid,Z d,X] w (.tuple #[Z (R.Gc G cl li uid d arg).1.1,Z (R.Gc G cl li uid d arg).1.2]) λo=>∃E r,RW x E r (R.Gc G cl li uid d arg).2 o/\D8 F r w o:=by
 have p:=h.wf;obtain⟨a9,B,x9⟩:∃a cap,EB w x 9 (.slice a G.b.length cap):=by
  exact abl
 have x1:=EI h.bx 1;have same:∀{e0:Int},ET 127 #[Ey x,Z cl,Z li,Z uid,Z d,X] w (λe o=>e=.returned (.tuple #[Z 0,Z e0])/\o=w)->D7 127 #[Ey x,Z cl,Z li,Z uid,Z d,X] w (.tuple #[Z 0,Z e0]) λo=>∃E r,RW x E r G o/\D8 F r w o:=λhc=>hc.mono (by
  rintro e o ⟨rfl,rfl⟩;exact⟨I,v,F,h,D8.refl F _⟩)
 have n:∀{e0:Int},ET 127 #[Ey x,Z cl,Z li,Z uid,Z d,X] w (λe o=>e=.returned (.tuple #[Z 0,Z e0])/\DY w o)->D7 127 #[Ey x,Z cl,Z li,Z uid,Z d,X] w (.tuple #[Z 0,Z e0]) λo=>∃E r,RW x E r G o/\D8 F r w o:=λhc=>hc.mono (by
  rintro e o ⟨rfl,D⟩;exact⟨I,v,F,h.h D,D8.J F D⟩)
 unfold R.Gc;by_cases T:cl<0\/(G.b.length:Int)<=cl
 .rw[Ay T];exact same (XB w x a9 _ B cl li uid d X x9 T)
 rw[Ao T];by_cases h2:li<0\/G.c.a<=li
 .rw[Ay h2];exact same (fG w x a9 _ B cl li uid d _ X x1 x9 U U h2)
 rw[Ao h2];obtain⟨i,rfl⟩:∃i:Nat,cl=(i:Int):=⟨cl.toNat,U⟩;obtain⟨k,rfl⟩:∃k:Nat,li=(k:Int):=⟨li.toNat,U⟩;obtain⟨c,hc⟩:∃c,G.b[i]?=some c:=⟨_,Ah U⟩;have al:=(p.cl i c hc).a;obtain⟨l,hl⟩:∃l,c.a[k]?=some l:=⟨_,Ah U⟩;have M:=aa c (Ap hc);simp only[AY,hc,Ce,Bw];by_cases J:uid∈c.d
 .rw[Ao (by simpa using J)];have b4:=(p.cl i c hc).d uid J;obtain⟨u,rfl⟩:∃u:Nat,uid=(u:Int)+1:=⟨(uid-1).toNat,U⟩;obtain⟨s,Q⟩:∃s,G.a[u]?=some s:=⟨_,Ah U⟩;have eu:((u:Int)+1-1).toNat=u:=U;simp only[eu,Q,Ce,Bw];have an:=p.e s (Ap Q);have⟨g,cap,gB,cb,gV,cV,z,zl,C,t⟩:=h.acR hc hl Q J M;have f:=λw=>Qn s.J d w
  rcases Wm s.J d an with ⟨g1,g2⟩|⟨g1,g2,g3,g4,g5⟩
  .rw[g1];unfold J5 at f;rw[g2]at f;exact n (nu w t d X 16 Em _ _ (Dx λw=>(f w).mono (by
    rintro e o ⟨rfl,rfl⟩;exact⟨I,AA _ _⟩)))
  .rw[g1];unfold J5 at f;rw[g2]at f;have HF:=V.nR (Rh s.J d) g4 X arg w hI hn;simp only;rw[WU g4 g5,R.FH hc hl];cases he:V.IG (Rh s.J d) arg with
   |none=>
    rw[he]at HF;exact n (Q0 w t d X 4 false _ _ (Dx f) (Dx HF) (Aj ⟨I,I⟩))
   |some out=>
    rw[he]at HF;simp only;by_cases K:l.d=1
    .rw[Ay K];exact n (Q0 w t d X 17 true _ _ (Dx f) (Dx HF) (Am (Aj ⟨I,K,I⟩)))
    rw[Ao K];by_cases P:l.a=999
    .rw[Ay P];exact n (Q0 w t d X 11 true _ _ (Dx f) (Dx HF) (Am (Am ⟨I,by simpa using K,P,I⟩)))
    rw[Ao P];have O:=(p.cl i c hc).H k l hl;have b1:=g5 arg out he;have ad:=p.cf;unfold R.GA at ad;have b2:=p.sv;have b3:=GG Q;have ah:=GG hl;have⟨_,hy,_,_⟩:=C.Zd hl;have aV:(EU d++out).length=2+out.length:=by simp[EU];omega
    have am:R.O0 ⟨l.a+1,1,[],(u:Int)+1,Ri s.J d,EU d++out,0,[],0,G.c.c,G.c.e⟩:=by
     have:=O.a;refine⟨by simp only;omega,λ_=>⟨by simp only;omega,by simp only;omega,by simp only;omega,⟨Ev,?_⟩,by simp only;omega,by simp only;omega⟩⟩;simp only;unfold R.DL;omega
    refine(ny w t d X (Rh s.J d) (Ri s.J d) (EU d) out (λo=>∃E r,RW x E r (R.EG (R.Eh G i k ⟨l.a+1,1,[],(u:Int)+1,Ri s.J d,EU d++out,0,[],0,G.c.c,G.c.e⟩) i k false) o/\D8 F r w o) (by simpa using K) (by simpa using P) O.a (by have:(EU d).length=2:=rfl;omega) (Dx f) (Dx HF) (Dx λw=>UA d w U U) (Dx λW D=>V.Ux (Rh s.J d) g4 X arg W (hI.h D) hn he) (Dx λW D=>?_)).mono ?_
    .have hW:=h.h D;have⟨g',H,z',ba,A⟩:=hW.at hc;have ez:=Option.some.inj (A.hz.symm.trans C.hz);subst ez;have⟨_,aq,_,_⟩:=A.Zd hl;have av:=(AB.1 C.lb).1;have⟨v2,F2,t1,S⟩:=hW.Qk (k:=k) hc A am I ((((((((((((Eg _).trans (Eg _)).trans (Eg _)).trans (Eg _)).trans (Eg _)).trans (Eg _)).trans (Eg _)).trans (Eg _)).trans (Eg _)).trans (Eg _)).trans (Eg _))) (gW _ A.lb aq);have ac:(R.Eh G i k ⟨l.a+1,1,[],(u:Int)+1,Ri s.J d,EU d++out,0,[],0,G.c.c,G.c.e⟩).b[i]?=some {c with a:=c.a.set k ⟨l.a+1,1,[],(u:Int)+1,Ri s.J d,EU d++out,0,[],0,G.c.c,G.c.e⟩}:=by rw[R.Ft,hc];simp
     have ak:(c.a.set k ⟨l.a+1,1,[],(u:Int)+1,Ri s.J d,EU d++out,0,[],0,G.c.c,G.c.e⟩)[k]?=some ⟨l.a+1,1,[],(u:Int)+1,Ri s.J d,EU d++out,0,[],0,G.c.c,G.c.e⟩:=AO ah;refine(t1.Wh ac ak I (by unfold R.DL;simp only;omega) false).mono ?_;rintro e o ⟨rfl,v3,F3,r1,r2⟩;refine⟨I,⟨v3,F3,r1,(D8.J F D).trans (S.trans r2)⟩,λb aS L=>?_⟩;have nF:¬F b:=λhf=>by have:=h.lt b hf;omega
     have ar:¬F2 b:=λhf=>by
      rcases S.fresh b hf with q|q
      .exact nF q
      .omega
     rw[r2.H.block b (Ai L S.H.size) ar,S.H.block b L nF]
    grind
 .rw[Ay (by simpa using J)];have⟨g,cap,z,zl,C⟩:=h.at hc;have m:=h.d i z C.hz;rw[C.hc]at m;have⟨ab,cb,hB⟩:=Fa m;have N:=C.c1;rw[hB]at N;rw[hB]at m;refine same (fH w x g _ cap i k c.a.length (match ab with|some a=>a.block|none=>0) c.d.length cb ab uid d X c.d (GG hc) (GG hl) I M (by rw[al];exact x1) C.x9 N (λj y hy=>?_) J);rcases m.2 with ⟨_,h0⟩|⟨g',H,aN,hv,_⟩
  .have:=GG hy;omega
  .cases hv;exact⟨I,Nb m (Q8 hy)⟩
theorem KA.afb{G:Nat}{t:Tw}(n:DY W1 w2)(h:KA N t G' w2 w4)(l:W1<=G)(m:G<w2)(hn:¬t.A G)(hk:DF (λk=>k=G) w4 w5):KA N t G' W1 w5:=by
 have⟨d,f,b,g,j⟩:=h;have a:¬d.A G:=λq=>by
  rcases b.fresh G q with q|q
  .exact hn q
  .omega
 refine⟨d,f.y hk (λk q e=>a (e ▸ q)),?_,g,j⟩;have c:=(D8.J t.A n).trans b;exact⟨c.H.andThen hk (λi hi e=>by omega),c.fresh⟩
theorem RE(w i:Aa)(D X:Ad)(t:Tw)(o:LD)(hk:o.J=11)(A B:Int)(r s u v:World->Prop)(d:(w.alloc (.cells #[ptr t.p.x,Ey t.x] 106)).alloc (.cells o.cells 84)=i)(f:Bx w t o i)
  (j:Hid (D7 110 #[o.L] i X λa=>Bx w t o a/\r a))
  (k:Hid (∀a,r a->D7 52 #[ptr t.p.x,Z o.a,Z o.b,Z o.c,Z o.d,X] a (.tuple #[Z A,Z B]) λa=>Bx w t o a/\s a))
  (l:Hid (∀a,s a->D7 127 #[Ey t.x,Z o.a,Z o.b,Z o.c,Z o.d,o.L] a (.tuple #[Z A,Z B]) λa=>Bx w t o a/\u a))
  (m:Hid (∀a,u a->D7 113 #[X,o.L] a DC λa=>v a)):
  D7 74 #[D,t.val,o.val] w DC λa=>v a:=by
 have h:=Dx d;have N:=Dv f.t;have O:=Dv f.o;have M:(o.J==11)=true:=by rw[hk];rfl
 have E:=EI f.o 8;clear d f hk
 delta D7
 go_in
 go_wp2_with fail
 rw[Dw h];refine cm j ?_;rintro Q ⟨b,x⟩;have l1:=Dv b.t;have l2:=Dv b.o;have e0:=EI b.t 0;obtain⟨e2,e3,e4⟩:=TH b.o 2 3 4;have e5:=EI b.o 5;have n:=Dx (k _ x);clear b x j k E;go_wp2_with fail
 refine cm n ?_;rintro S ⟨b,y⟩;have l1:=Dv b.t;have l2:=Dv b.o;have F:=EI b.t 1;obtain⟨G,H,J,K,L⟩:=bC b.o 2 3 4 5 8;have p:=Dx (l _ y);clear b y n l e0 e2 e3 e4 e5;go_wp2_with fail
 refine cm p ?_;rintro T ⟨b,z⟩;have l1:=Dv b.t;have l2:=Dv b.o;have g8:=EI b.o 8;have q:=Dx (m _ z);clear b z p m F G H J K L;go_wp2_with fail
 refine cm q λW C=>?_
 have g:=Dx C;clear C q g8;have c:=Dx OM;go_wp2_with fail
 refine cm (c _ _) λP e=>?_
 rw[e];clear e P;go_wp2;go_returns;exact⟨I,g⟩
theorem Ys{t:Tw}(h:Ii N t w){o:LD}(hk:o.J=11){v:List V.It}(T:V.Ff w o.L v)(z:v≠[]->∀b off n c,o.L=.slice (Y b off) n c->¬t.A b)(hn:v.length<=9000000000000)(ht:JI w)(X:N<=9000000000000)(hc:Ya o.c):
  D7 74 #[bp,t.val,o.val] w DC λd=>KA N t (R.Gc t.G o.a o.b o.c o.d v).2 w d:=by
 have⟨i,E,F,k,C,f⟩:=Jc h o;have r:=T.h F;have J:=ht.h F;have G:Bd N (R.Gc t.G o.a o.b o.c o.d v).2:=Bd.call h.bd _ _ _ _ _;have⟨la,S,A,P,_⟩:=id T;cases la with
 |none=>
  have x:v=[]:=by grind
  subst x;have hX:∀W,V.Ff W Dz []:=λW=>⟨none,0,I,Ar _,Aj I⟩
  refine(RE w i bp Dz t o hk (R.Gc t.G o.a o.b o.c o.d []).1.1 (R.Gc t.G o.a o.b o.c o.d []).1.2 (λd=>d=i) (λd=>Mid N t (R.Gc t.G o.a o.b o.c o.d []).2 i d) (λd=>KA N t (R.Gc t.G o.a o.b o.c o.d []).2 i d) (λd=>KA N t (R.Gc t.G o.a o.b o.c o.d []).2 i d) E k ?_ ?_ ?_ ?_).mono ?_
  .rw[A];refine cs (V.sO _ _ i) ?_;exact⟨I,k,I⟩
  .rintro d rfl;refine cm (C.l.call J o.a o.b o.c o.d hc (hX _) hn) ?_;rintro m ⟨F',l,g⟩
   grind [Ii.tH,Bx.stays]
  .intro d p;have L:V.Ff d o.L []:=by
    rw[A];exact⟨none,S,I,P,Aj I⟩
   have u:=k.stays p f;refine cm (p.r.call o.a o.b o.c o.d o.L [] L hn (λc hc=>Br (h.bd.b c hc) X)) λw3 y=>?_
   refine⟨I,?_,p.done y G⟩;have⟨v',E',_,g2⟩:=y;exact⟨g2.H.at u.t (λq=>f _ (Ar _) (Am q)),g2.H.at u.o (λq=>f _ U (Am q))⟩
  .intro d B;rw[A];refine cs (V.pM _ _ _ d) ?_;exact⟨I,B⟩
  grind [KA.ahead]
 |some ad=>
  have H:∀W,DY i W->V.Ff W o.L v:=λW j=>r.h j
  have M:v≠[]->∀b off n c,o.L=.slice (some (Y b off)) n c->¬t.F b:=λx b off n c e q=>z x b off n c e (Aj q)
  have K:v≠[]->ad.block≠i.heap.size:=λx e=>by
   have⟨a,c,e1,_,q⟩:=r
   grind
  refine(RE w i bp (EJ i.heap.size v.length (v.length+6)) t o hk (R.Gc t.G o.a o.b o.c o.d v).1.1 (R.Gc t.G o.a o.b o.c o.d v).1.2
   (λd=>DY i d/\V.I9 d i.heap.size (v.length+6) 0 (v++List.replicate 6 V.Iu))
   (λd=>∃m,DY i m/\i.heap.size<m.heap.size/\Mid N t (R.Gc t.G o.a o.b o.c o.d v).2 m d/\V.I9 d i.heap.size (v.length+6) 0 (v++List.replicate 6 V.Iu)/\V.Ff d o.L v)
   (λd=>∃m,DY i m/\i.heap.size<m.heap.size/\KA N t (R.Gc t.G o.a o.b o.c o.d v).2 m d/\V.I9 d i.heap.size (v.length+6) 0 (v++List.replicate 6 V.Iu)/\V.Ff d o.L v)
   (λd=>KA N t (R.Gc t.G o.a o.b o.c o.d v).2 i d) E k ?_ ?_ ?_ ?_).mono ?_
  .rw[A]at r ⊢;refine cm (V.sN i ad S v r hn) ?_;rintro d ⟨hl,j⟩;exact⟨I,⟨(j.block _ (Dv k.t)).trans k.t,(j.block _ (Dv k.o)).trans k.o⟩,j,hl⟩
  .rintro d ⟨j,hl⟩;have D:=C.h j;have u:Bx w.heap.size t o d:=⟨(j.block _ (Dv k.t)).trans k.t,(j.block _ (Dv k.o)).trans k.o⟩;refine cm (D.l.call (J.h j) o.a o.b o.c o.d hc (hl.J I U) hn) ?_;rintro m ⟨F',l,g⟩;have p:=D.tH l g;exact⟨I,u.stays p f,d,j,hl.lt,p,hl.keep g.H (λq=>C.off (Ar _) (Aj q)),(H _ j).keep g.H M⟩
  .rintro d ⟨m,j,s,p,hl,hi⟩;have Q:Bx w.heap.size t o m:=⟨(j.block _ (Dv k.t)).trans k.t,(j.block _ (Dv k.o)).trans k.o⟩;have u:=Q.stays p f;refine cm (p.r.call o.a o.b o.c o.d o.L v hi hn (λc hc=>Br (h.bd.b c hc) X)) λw3 y=>?_
   have B:=p.done y G;have⟨v',E',_,g2⟩:=y;exact⟨I,⟨g2.H.at u.t (λq=>f _ (Ar _) (Am q)),g2.H.at u.o (λq=>f _ U (Am q))⟩,m,j,s,B,hl.keep g2.H (λq=>C.off (Ar _) (Am q)),hi.keep g2.H (λx b off n c e q=>z x b off n c e (Am q))⟩
  .rintro d ⟨m,j,s,B,hl,hi⟩;rw[A]at hi ⊢;refine cm (V.dW d ad S i.heap.size v hn hi K hl) λw3 O=>?_
   exact⟨I,KA.afb j B (Ar _) s (C.off (Ar _)) O⟩
  grind [KA.ahead]
namespace V
variable {x:It}{b c1 c2 lc:Nat}{O T lv:Value}{w0 wr:World}
theorem Yu(w:Aa)(k:Kp):∀(j:Nat) (u:Ad),k.cells[j]?=u->(w.alloc (.cells #[k.l,k.g1,k.g2,k.g3,Z k.n,Z k.x.1,.string k.x.2] 155)).cell? (((EN w 0):Addr).add j)=u:=by
 intro j u a;rw[Bc,Cr,Bb w _ _ j];rw[<-a,<-CO];rfl
theorem ac9(a a1 a2 a3:Af)(n0 n1 n2 n3 c0 c1 c2 c3 i:Nat)(x:It):∀u∈(Kp.mk (.slice a n0 c0) (.slice a1 n1 c1) (.slice a2 n2 c2) (.slice a3 n3 c3) i x).cells,u.oneCell'=true:=by
 intro u hu;simp only[Kp.cells,CX,List.not_mem_nil,or_false]at hu;rcases hu with rfl|rfl|rfl|rfl|rfl|rfl|rfl<;>rfl
theorem qi.drew{a:List (Value×Nat)}(h:qi w0 w O x B a wr):qi w0 w O x B a wr.drew:=⟨h.size,h.box,h.keep,h.h.drew,h.marks⟩
theorem cZ(w0 w:Aa)(b B:Nat)(L:List Kp)(lv:Ad)(r l:Af)(s on m:Nat)(x:It)(hx:x=(-1000-(L:Int),Xq))(ao:L.length<=1000000000000)(be:on<=100000)
  (o:Bo b L lv (.slice r L s) w) (S:DY w0 w) (hB:B<=w) (M:∀j,(Value.slice l on m).ownBlock=some j->B<=j)
  (hO:∀j,(Value.slice l on m).ownBlock=some j->(j<w/\w0<=j)/\j≠b/\(Value.slice r L s).ownBlock≠j/\∀k∈L,∀t∈k.lists,t.1.ownBlock≠j)
  (J:E1 w0 w (.slice l on m) on x 0 (w.alloc (.cells #[Z x.1,.string x.2] 73))):
  D7 117 #[.pointer (Y b 1),.slice l on m] w Ep λw'=>∃K' k,Bo b (L++[k]) lv K' w'/\D8 (λj=>OY b L (.slice r L s) j\/(Value.slice l on m).ownBlock=j) (OY b (L++[k]) K') w w':=by
 have⟨HI,y,aa,K,ab⟩:=Eo J o S hO M;have al:=Dv o.cell;have hb:w.cell? (Y b 1)=some (.slice r L.length s):=by simp[World.cell?,o.cell]
 have⟨x0,x1⟩:=x;have aN:=(Prod.mk.inj hx).1.symm;have T:=(Prod.mk.inj hx).2;have ae:=Dx T;clear J o hO M hx T S;simp only at HI;have bb:(⟨#[109,97,114,107]⟩:Ab)=x1:=ae.symm;obtain⟨v,D⟩:∃v,v=L.length:=⟨_,rfl⟩;rw[<-D]at hb aN ao;have f:=Dx D;clear D
 delta D7
 go_in
 go_wp2;go_loopw [5] (λiv wr=>∃i:Nat,i<=on/\iv=Z i/\E1 w0 w (.slice l on m) on (x0,x1) i wr) (λiv _=>on-(intOf iv).toNat)
 case atStart=>exact⟨0,AV _,I,HI⟩
 case round=>
  obtain⟨i,hi,rfl,O⟩:=hrel;by_cases aq:i<on
  .have⟨G,cap,N,W,am,hG,P⟩:=O.step aq;obtain rfl:l=some (Y G 0):=by injection N
   have⟨c0,c1⟩:=N7 O.box;have⟨d0,d1,e0,e1⟩:=W.has am;have z0:=W.thaw (i*2);have z1:=W.thaw (i*2+1);have ad:=Dx P;clear O W P N;go_wp2;go_roundw
   case rel=>exact⟨i+1,U,Kc,ad⟩
   case measure=>exact Kt
  .obtain rfl:i=on:=U;have hM:=adI O (Dw ab);have q:∀j,(Value.slice l i m).ownBlock=some j->j<w.heap.size/\w0.heap.size<=j:=λj X=>(K j X).1
   have⟨a1,c1,w1,ar,z⟩:=X3 hM (n:=i) Ev 1 U hB q;have⟨a2,c2,w2,av,A⟩:=X3 z (n:=i) Ev 2 U hB q;have⟨a3,c3,d,aw,a⟩:=X3 A (n:=i) Ev 3 U hB q;have⟨p0,p1⟩:=N7 hM.box;have⟨q0,q1⟩:=N7 z.box;have⟨r0,r1⟩:=N7 A.box;have⟨s0,s1⟩:=N7 a.box;have ah:d.cell? (Y b 1)=some (.slice r v s):=by
    have hc:=y.cell;rw[Dw f];simp[World.cell?,a.keep b al (λe=>(K b e).2.1 rfl),hc]
   have ba:=a.size;have F:d.ownsRow 0 155 7 (.slice r v s) v (QQ L):=by
    have hr:=y.row;rw[Dw f];exact Jl hr λg hg=>a.keep g ((hr.lt g hg).2) (λe=>(K g e).2.2.1 hg)
   have bf:=a.h.size;have ak:b<d.heap.size:=U;have b9:(d.alloc (.cells #[.slice l i m,.slice a1 (i+1) c1,.slice a2 (i+2) c2,.slice a3 (i+3) c3,Z i,Z x0,.string x1] 155)).drew.cell? (Y b 1)=some (.slice r v s):=
    (((AA d.heap.size d).alloc (Ar _) _).cell (p:=Y b 1) ak).trans ah
   obtain⟨n1,n2,n3,n4⟩:¬d.heap.size=b/\¬b=d.heap.size/\¬d.heap.size=w.heap.size/\¬w.heap.size=d.heap.size:=U;have ac:=Dx a;have⟨j0,an,aS,aV,b1⟩:=A1 ac3;clear O hM z A a q;go_wp2_with (first
    |(at_builtin;refine wpList_append_run rfl (.tmp 26) (.tmp 28) 37 rfl _ _ _ _ rfl rfl ar ?_)
    |(at_builtin;refine wpList_append_run rfl (.tmp 30) (.tmp 33) 37 rfl _ _ _ _ rfl rfl av ?_)
    |(at_builtin;refine wpList_append_run rfl (.tmp 35) (.tmp 39) 37 rfl _ _ _ _ rfl rfl aw ?_))
   go_region_law (refine FM I (.tmp 45) (.tmp 54) 76 I 0 155 j0 _ 7 128 underlying76 an aS aV b1 I Em (.slice r v s) v (QQ L) I (by exact World.ownsRow.alloc (w:=d.drew) F _) (EN d 0) 1 1 (Kp.mk (.slice l i m) (.slice a1 (i+1) c1) (.slice a2 (i+2) c2) (.slice a3 (i+3) c3) i (x0,x1)).cells I I (by exact Yu d.drew (Kp.mk (.slice l i m) (.slice a1 (i+1) c1) (.slice a2 (i+2) c2) (.slice a3 (i+3) c3) i (x0,x1))) (by exact ac9 _ _ _ _ _ _ _ _ _ _ _ _ _ _) JG U (AV _) ?_;intro K' w5 c h Q;have⟨va,vn,vc,az⟩:=Ei c;subst az;rw[Dw f]at c;have E:=yw y aa ac.drew U (λj X=>⟨(K j X).1.1,(K j X).2⟩) c (by rw[<-Dw f];exact h) (by rw[<-Dw f];simpa using Q);have⟨C,u⟩:=E;have k1:w5.cell? (Y b 1)=some (.slice r L.length s):=(by simp[World.cell?,C]);have k2:w5.frozen? (Y b 1)=false:=(by simp[World.frozen?,C]))
   all_goals
    have H:=Dx u;clear u c h Q C k1 k2;go_wp2
    go_end0
    exact⟨I,_,_,H⟩
theorem VG(w0 w:Aa)(b:Nat)(L:List Kp)(lv K O:Ad)(v:List It)(hBk:Bo b L lv K w)(hb0:DY w0 w)(hR:w.ownsRow w0 73 2 O v (flat v))(hL:L.length<=1000000000000)(hv:v.length<=100000)
  (d:∀j,OY b L K j->j<w0):
  D7 117 #[.pointer (Y b 1),O] w Ep λc=>∃a k,Bo b (L++[k]) lv a c/\D8 (λj=>OY b L K j\/O.ownBlock=j) (OY b (L++[k]) a) w c:=by
 exact aff
theorem Mv(h:Marks B x w T k):Ff w T (List.replicate k x):=by
 refine KW (B:=B) ?_;rw[BN];exact h
theorem YI:∀(L:List Kp) (i:Nat) (k:Kp),L[i]?=some k->∀j,j<7->(QQ L)[i*7+j]?=k.cells[j]?
 |[],i,k,h,j,_=>by simp at h
 |y :: L,0,k,h,j,hj=>by
  simp at h;subst h;simp only[QQ,Dt,Cr];rw[A6 (by simp[Kp.cells];omega)]
 |y :: L,i+1,k,h,j,hj=>by
  simp only[List.getElem?_cons_succ]at h;simp only[QQ];rw[Bq (by simp[Kp.cells];omega)];rw[show (i+1)*7+j-y.cells.length=i*7+j by simp[Kp.cells];omega];exact YI L i k h j hj
structure Seen(w:Aa)(g i:Nat)(la a1 a2 a3:Af)(lc c1 c2 c3 n:Nat)(x0:Int)(x1:Ab):Prop where
 e0:w.cell? (Y g (i*7))=some (.slice la n lc)
 e1:w.cell? (Y g (i*7+1))=some (.slice a1 (n+1) c1)
 e2:w.cell? (Y g (i*7+2))=some (.slice a2 (n+2) c2)
 e3:w.cell? (Y g (i*7+3))=some (.slice a3 (n+3) c3)
 e4:w.cell? (Y g (i*7+4))=some (Z n)
 e5:w.cell? (Y g (i*7+5))=some (Z x0)
 e6:w.cell? (Y g (i*7+6))=some (.string x1)
 small:n<=100000
 s0:∀w',Below w.heap.size w w'->Calls prog 80 #[.slice la n lc,Z n,Tp (x0,x1)] w' λe w''=>e=.returned (.bool true)/\Below w'.heap.size w' w''
 s1:∀w',Below w.heap.size w w'->Calls prog 80 #[.slice a1 (n+1) c1,Z ((n:Int)+1),Tp (x0,x1)] w' λe w''=>e=.returned (.bool true)/\Below w'.heap.size w' w''
 s2:∀w',Below w.heap.size w w'->Calls prog 80 #[.slice a2 (n+2) c2,Z ((n:Int)+2),Tp (x0,x1)] w' λe w''=>e=.returned (.bool true)/\Below w'.heap.size w' w''
 s3:∀w',Below w.heap.size w w'->Calls prog 80 #[.slice a3 (n+3) c3,Z ((n:Int)+3),Tp (x0,x1)] w' λe w''=>e=.returned (.bool true)/\Below w'.heap.size w' w''
theorem Fa(h:Marks B x w T n):∃a c,T=.slice a n c:=by
 rcases h.2 with ⟨d,e⟩|⟨g,cap,b,d,_⟩;all_goals grind
theorem yx{L:List Kp}(h:Bo b L lv K w)(hi:i<L):∃g A,K=EJ g L A/\g<w/\∃f a1 a2 a3 m c1 c2 c3 n B x1,Seen w g i f a1 a2 a3 m c1 c2 c3 n B x1:=by
 obtain⟨k,hk⟩:∃k,L[i]?=some k:=⟨_,Ah hi⟩;have p:=h.a k (Ap hk);have d:=YI L i k hk;have a:=h.row;rcases a.2 with ⟨q,G⟩|⟨g,cap,y,q,_,e,_⟩
 .omega
 .subst q;have hc:=λj z u hu=>a.cells (g:=g) I (i*7+j) u ((d j z).trans hu)
  have⟨l,g1,g2,g3,n,x⟩:=k;simp only[Kp.lists,CX,List.not_mem_nil,or_false,forall_eq_or_imp,forall_eq]at p;have⟨hn,⟨C,r⟩,⟨D,s⟩,⟨E,t⟩,⟨F,v⟩⟩:=p;obtain⟨f,m,rfl⟩:=Fa r;obtain⟨a1,c1,rfl⟩:=Fa s;obtain⟨a2,c2,rfl⟩:=Fa t;obtain⟨a3,c3,rfl⟩:=Fa v;refine⟨g,cap,I,Dv e,f,a1,a2,a3,m,c1,c2,c3,n,x.1,x.2,?_⟩;simp only[Bc,Cr]at hc;refine⟨hc 0 U _ I,hc 1 U _ I,hc 2 U _ I,hc 3 U _ I,hc 4 U _ I,hc 5 U _ I,hc 6 U _ I,hn,λo c=>?_,λo c=>?_,λo c=>?_,λo c=>?_⟩
  .exact OV ((Mv r).h c) U
  .have:=OV ((Mv s).h c) U
   grind
  .have:=OV ((Mv t).h c) U
   grind
  .have:=OV ((Mv v).h c) U
   grind
abbrev acT(la a1 a2 a3:Af)(lc c1 c2 c3 n:Nat)(x0:Int)(x1:Ab):Obj:=.cells #[.slice la n lc,.slice a1 (n+1) c1,.slice a2 (n+2) c2,.slice a3 (n+3) c3,Z n,Z x0,.string x1] 155
structure Nl(w:Aa)(A:Nat)(la a1 a2 a3:Af)(lc c1 c2 c3 n:Nat)(x0:Int)(x1:Ab):Prop where
 l1:w.cell? (Y A 1)=some (.slice a1 (n+1) c1)
 l2:w.cell? (Y A 2)=some (.slice a2 (n+2) c2)
 l3:w.cell? (Y A 3)=some (.slice a3 (n+3) c3)
 l4:w.cell? (Y A 4)=some (Z n)
 l5:w.cell? (Y A 5)=some (Z x0)
 l6:w.cell? (Y A 6)=some (.string x1)
theorem dx{a a1 a2 a3:Af}{c3:Nat}{b:Int}{x1:Ab}(c:Below (wr+1) (wr.alloc (acT a a1 a2 a3 lc c1 c2 c3 n b x1)) w'):Nl w' wr a a1 a2 a3 lc c1 c2 c3 n b x1:=by
 refine⟨?_,?_,?_,?_,?_,?_⟩<;>exact(c.cell Ev).trans (Bb wr _ _ _)
theorem cK(w:Aa)(b:Nat)(L:List Kp)(lv K:Ad)(a:Bo b L lv K w)(H:L.length<=1000000000000):
  D7 44 #[.pointer (Y b 1)] w DC (DY w):=by
 have⟨v,f,O,hk⟩:=Ei a.row;subst hk;have d:f=L.length:=by
  rcases a.row.2 with ⟨r,h0⟩|⟨g,cap,G,r,_⟩
  .cases r;omega
  .cases r;rfl
 have p:=Dx d;rw[<-d]at H;have o:=Dx a;clear a d
 delta D7
 go_in
 go_wp2;go_loopw [3] (λiv wr=>∃i:Nat,i<=f/\iv=Z i/\DY w wr) (λiv _=>f-(intOf iv).toNat)
 case atStart=>exact⟨0,AV _,I,AA _ _⟩
 case round=>
  obtain⟨i,hi,rfl,e⟩:=hrel;have c:=o.h e;have M:wr.cell? (Y b 1)=some (.slice v f O):=by simp[World.cell?,c.cell]
  by_cases q:i<f
  .have⟨g,P,u,N,x,a1,a2,a3,y,c1,c2,c3,n,z,x1,J⟩:=yx c (i:=i) (by rw[<-Dw p];exact q);obtain rfl:v=some (Y g 0):=by injection u
   have⟨e0,e1,e2,e3,e4,e5,e6,hn,s0,s1,s2,s3⟩:=J;have⟨C,D,E,F,h⟩:=Eo s0 s1 s2 s3 e;clear c u s0 s1 s2 s3 e;go_wp2_with fail
   have b0:DY wr (wr.alloc (acT x a1 a2 a3 y c1 c2 c3 n z x1)):=F9;have hz:(wr.alloc (acT x a1 a2 a3 y c1 c2 c3 n z x1)).heap.size=wr.heap.size+1:=Ev;refine cm (C _ b0) λw1 d1=>?_
   rw[hz]at d1;have t:=b0.trans (d1.mono U);have⟨Q,S,T,W,X,p6⟩:=dx d1;have⟨j,s⟩:=FU t d1;clear b0 t d1 hz;go_wp2_with fail
   refine cm (D _ j) λw2 d2=>?_
   have m:=Dx (s.trans (d2.mono (by have:=s.size;simpa using this)));have k:=Dx (j.trans (d2.mono j.size));have⟨q1,q2,q3,q4,q5,q6⟩:=dx (Dw m);clear d2 Q S T W X p6;go_wp2_with fail
   refine cm (E _ k) λw3 d3=>?_
   have B:=Dx (m.trans (d3.mono (by have:=m.size;simpa using this)));have l:=Dx (k.trans (d3.mono k.size));have⟨r1,r2,r3,r4,r5,r6⟩:=dx (Dw B);clear d3 q1 q2 q3 q4 q5 q6;go_wp2_with fail
   refine cm (F _ l) λw4 d4=>?_
   have A:=Dx (l.trans (d4.mono l.size));clear d4 r1 r2 r3 r4 r5 r6;go_wp2;go_roundw
   case rel=>exact⟨i+1,U,Kc,h.trans (A.mono h.size)⟩
   case measure=>exact Kt
  .have h:=Dx e;clear e c;go_wp2
   go_ret
   exact⟨I,h⟩
end V
theorem qU:∀args w,(callFunc 117 args).run prog w=.ok (.enter 117 args) w:=λ_ _=>rfl
theorem oS(w N:Aa)(b:Nat)(t:Tw)(o:LD)(hk:o.J=12)(st m er:Int)(F:Af)(H G:Nat)(M:Option Addr->Nat->Nat->World->Prop)(Q4:World->Prop)(A:(w.alloc (.cells #[ptr t.p.x,Ey t.x] 106)).alloc (.cells o.cells 84)=N)(s:Bx w t o N)(ar:b<w)
  (H1:Hid (ET 19 #[ptr t.p.x,Z o.a,Z o.b] N λe d=>∃a on c,e=.returned (.tuple #[.agg #[Z st,Z m,.slice a on c],Z er])/\DY N d/\M a on c d))
  (H2:Hid (∀a on c l d,M a on c l->DY l d->D7 128 #[Ey t.x,Z o.a,Z o.b] d (.tuple #[.agg #[Z st,Z m,.slice F H G],Z er]) (DY d)))
  (H3:Hid (∀a on c l d,M a on c l->DY l d->D7 116 #[.slice a on c,.slice F H G] d DC (DY d)))
  (H4:Hid (∀a on c l d,M a on c l->DY l d->D7 117 #[.pointer (Y b 1),.slice a on c] d Ep λJ=>(∀k,l.heap.size<=k->k<d->J.heap[k]?=d.heap[k]?)/\Q4 J)):
  D7 74 #[ptr b,t.val,o.val] w DC λd=>Q4 d:=by
 have X:=Dx A;have aN:=Dv s.t;have aS:=Dv s.o;have c0:=EI s.t 0;have av:(o.J==11)=false:=by rw[hk];rfl
 obtain⟨d2,d3⟩:=VL s.o 2 3;have x:=Dx s;clear A s hk
 delta D7
 go_in
 go_wp2_with fail
 rw[Dw X];refine H1.mono ?_;rintro e f ⟨a,on,c,rfl,p,q1⟩;have E:Bx w.heap.size t o f:=⟨(p.block _ (Dv x.t)).trans x.t,(p.block _ (Dv x.o)).trans x.o⟩;have l1:=Dv E.t;have l2:=Dv E.o;have e1:=EI E.t 1;obtain⟨e2,e3⟩:=VL E.o 2 3;have ab:b<f.heap.size:=U;obtain⟨G2,G3,G4,g⟩:=bE (H2 a on c f) (H3 a on c f) (H4 a on c f) q1;clear E q1 p H1 H2 H3 H4 c0 d2 d3 x;go_wp2_with fail
 have y:DY f (f.alloc (.cells #[Z st,Z m,.slice a on c] 64)):=F9;have P:=AF f (.cells #[Z st,Z m,.slice a on c] 64);obtain⟨W3,B⟩:∃W3,f.alloc (.cells #[Z st,Z m,.slice a on c] 64)=W3:=DK;rw[B]at y P ⊢;refine cm (G2 W3 g y) λK q=>?_
 have h:=(q.block _ (Dv P)).trans P;have bT:=y.trans (q.mono y.size);have s2:=EI h 2;have ls:=Dv h;obtain⟨v,L⟩:=FU h bT;clear B y P q h bT e1 e2 e3 l1 l2 G2;go_wp2_with fail
 have z:DY K (K.alloc (.cells #[Z st,Z m,.slice F H G] 64)):=F9;have Q:=AF K (.cells #[Z st,Z m,.slice F H G] 64);obtain⟨W5,C⟩:∃W5,K.alloc (.cells #[Z st,Z m,.slice F H G] 64)=W5:=DK;rw[C]at z Q ⊢;have O:=L.trans (z.mono L.size);refine cm (G3 W5 g O) λw6 j=>?_
 have i:=(j.block _ (Ai ls z.size)).trans ((z.block _ ls).trans v);have n:=(j.block _ (Dv Q)).trans Q;have bW:=O.trans (j.mono O.size);have s2:=EI i 2;have l6:=Dv i;have l7:=Dv n;have az:=Ai ab bW.size;obtain⟨T,W,G5⟩:=Ll i n (G4 w6.drew g bW.drew);have aa:=L.size;clear C z Q O j i n bW G3 G4 v L g;go_wp2_with fail
 go_region_law (refine FG I 117 #[.tmp 98,.tmp 100] #[78,37] I qU #[.pointer (some (Y b 1)),.slice a on c] I _ G5 ?_;rintro e w7 ⟨rfl,r,q4⟩;have t0:=(r f.heap.size (Ar _) l6).trans (Dw T);have t1:=(r K.heap.size aa l7).trans (Dw W);have S:=Dx q4;clear r q4;refine⟨_,I,?_⟩)
 obtain⟨a0,a1⟩:=VL t0 0 1;obtain⟨b0,b1⟩:=VL t1 0 1;have la:=Dv t0;have aw:=Dv t1;have u:=Dx OM;clear t0 t1;go_wp2_with fail
 refine cm (u _ _) λw8 D=>?_
 rw[D];clear D w8;go_wp2;go_returns;exact⟨I,S⟩
theorem SI(a:G.J[i]?=r)(P:Pk):R.N0 G i P=if P.J=6 then (if r.a=P.a/\r.d=3/\P.off=R.DL r.D/\P.Ez=r.at'/\r.at'<R.DL r.D-1 then R.JF (R.EA G i {r with at':=r.at'+1}) i else G) else if r.a=P.a then R.Hl G i P else if P.a<r.a then G else Zm G i r P:=by grind [R.N0,Zm,Ks,R.F7]
theorem LW.jg(h:LW p F G w)(k:R.Inv M G)(b:R.EP G)(g:G.J[i]?=r){d:R.Cd}(j:R.Lm M G P d i)(hk:(P.J=1/\P.off=R.DL d.h/\P.d=R.EY d.h P.Ez)\/P.J=3):
  D7 157 #[ptr p.s,Gh p.t G.J i,pv P] w Ep λw'=>NM p F w (R.N0 G i P) w':=by
 have s:=j.right.2.2.2.2.1;rw[SI g,Ao U];have a:Gh p.t G.J i=if r.a=0 then .pointer none else ptr (p.t.ql i):=by
  unfold Gh;rw[g];rfl
 have up:∀{K:R.Wd} {c w':Aa},DY w c->NM p F c K w'->NM p F w K w':=λhb ⟨t,F',q1,q2⟩=>⟨t,F',q1,(D8.J F hb).trans q2⟩
 by_cases e:r.a=0
 .rw[a,Ay e,Ao U,Ao U];refine bP _ (λc hb=>?_);have q:=(h.h hb).aeX k b g j hk U U;rw[a,Ay e]at q;refine cm q λw' m=>?_
  exact⟨I,up hb m⟩
 .have⟨y,n,_⟩:=h.q g e;have c3:=(X8 n.blk).a3;rw[n.rel.a]at c3;rw[a,Ao e];refine Yl _ c3 (λo c hb=>?_) (λf c hb=>?_) (λl c hb=>?_)
  .rw[Ao U,Ao U];have q:=(h.h hb).aeX k b g j hk U U;rw[a,Ao e]at q;refine cm q λw' m=>?_
   exact⟨I,up hb m⟩
  .rw[Ay f];refine cm ((h.h hb).ac8 k (n.h hb) j hk f) ?_;exact wJ
  .rw[Ao U,Ay l];exact NM.of (h.h hb) (D8.J F hb)
theorem sM{t:SP}{nm:Nat}{c:R.Cf}(hi:i<3):(IW n nm t c lives seen)[7+i]?=Z (lives.getD i 0):=by
 have h:i=0\/i=1\/i=2:=U;rcases h with rfl|rfl|rfl<;>rfl
theorem OL(a:G.C.getD P.f.toNat 0<P.b):R.Ib G P=Hu G G.a (G.C.set P.f.toNat P.b) (Nu G.J P.f.toNat) G.d:=by grind [R.Ib,Nu]
theorem Xi{cs:Ae}(h:Dy w s cs.toArray 144):Dy (GF w s ci life) s ((((cs.set (7+ci) (Z life)).set (10+3*ci) (.pointer none)).set (10+3*ci+1) (.pointer none)).set (10+3*ci+2) (.pointer none)).toArray 144/\DF (λk=>k=s) w (GF w s ci life):=by grind [DF,Ek,Eg]
theorem LW.acO(h:LW p F G w)(hI:R.Inv M G)(g:R.EP G)(s:EC P)(hp:R.Tj M G.a (-1) P):
  D7 93 #[ptr p.s,pv P] w Ep λf=>NM p F w (R.KB G P) f:=by
 have⟨d,hd,hu,hk⟩:=hp;have⟨_,ao,ar,aq,O,_⟩:=id s;have H:(P.J=1/\P.off=R.DL d.h/\P.d=R.EY d.h P.Ez)\/P.J=3\/P.J=6:=by
  rcases hk with ⟨T,_,W,q3⟩|⟨_,q,_⟩|⟨q,_⟩|⟨_,q⟩|⟨_,q,_⟩|⟨q,_⟩|⟨_,q,_⟩
  .exact Aj ⟨T,W,q3⟩
  .omega
  .exact Am (Aj q)
  .omega
  .omega
  .exact Am (Am q)
  .omega
 generalize hci:P.f.toNat=ci;generalize hni:P.H.toNat=ni;obtain⟨z,E,B,v⟩:P.f=(ci:Int)/\P.H=(ni:Int)/\3*ci+ni<9/\(3*ci+ni) / 3=ci:=U;have c7:EB w p.s (7+ci) (Z (G.C.getD ci 0)):=E7 h.a.bs (sM U);have aa:10+ci*3+ni=10+(3*ci+ni):=U;have D:EB w p.s (10+ci*3+ni) (Gh p.t G.J (3*ci+ni)):=by
  rw[aa];exact E7 h.a.bs (Ox p.t G.J p.n p.nm G.c G.C B)
 have eA:R.KB G P=if P.b<G.C.getD ci 0 then G else R.N0 (R.Ib G P) (3*ci+ni) P:=by
  unfold R.KB;rw[hci,hni]
 rw[eA];have up:∀{K:R.Wd} {l f:Aa},DY w l->NM p F l K f->NM p F w K f:=λhb ⟨t,F',T,W⟩=>⟨t,F',T,(D8.J F hb).trans W⟩
 rcases Int.lt_trichotomy P.b (G.C.getD ci 0) with hc|hc|hc
 .rw[Ay hc];refine cm (oR c7 z U hc) λf hb=>?_
  exact xf
 .rw[Ao U];have eL:R.Ib G P=G:=by
   unfold R.Ib;rw[hci,Ao U]
  rw[eL];have C:R.Lm M G P d (3*ci+ni):=⟨s,hd,hu,by rw[v];exact hc,by rw[hci,hni]⟩;have hr:=hI.A B;have⟨o,ho⟩:=M8 p.t G.J (3*ci+ni);rw[<-hc]at c7;rw[ho]at D;refine ig _ c7 D z E U U (λk6 l hb=>?_) (λah l hb=>?_) (λad l hb=>?_)
  .have q:=(h.h hb).aeK hr (P:=P) O.1;rw[ho]at q;refine cm q λf m=>?_
   refine⟨I,?_⟩;rw[SI hr,Ay k6];exact up hb m
  .have q:=(h.h hb).jg hI g hr C (by
    rcases H with q|q|q
    .exact Aj q
    .exact Am q
    .omega)
   rw[ho]at q;refine cm q λf m=>?_
   exact⟨I,up hb m⟩
  .omega
 .rw[Ao U];have J:G.C.getD P.f.toNat 0<P.b:=by rw[hci];exact hc
  have b:=hI.C s hd;have a:=g.C P;have⟨o0,d0⟩:=M8 p.t G.J (3*ci);have⟨o1,d1⟩:=M8 p.t G.J (3*ci+1);have⟨o2,d2⟩:=M8 p.t G.J (3*ci+2);have cq:∀j,j<3->EB w p.s (10+ci*3+j) (Gh p.t G.J (3*ci+j)):=λj hj=>by
   have e:10+ci*3+j=10+(3*ci+j):=U;rw[e];exact E7 h.a.bs (Ox p.t G.J p.n p.nm G.c G.C U)
  have f0:=cq 0 U;rw[Cz,Cz,d0]at f0;have f1:=cq 1 U;rw[d1]at f1;have f2:=cq 2 U;rw[d2]at f2;have⟨n,r⟩:=Xi (ci:=ci) (life:=P.b) h.a.bs;have Q:=h.a.forget h.g.ll U r n;have y:=b.ws;have x:=b.wf;rw[OL J,hci]at b a y x;have A:=h.OW Q r (GD.one h.a.bs Em) (λ_ q=>q) (λk hf=>Ai (h.lt k hf) r.size) x y (λi c _ u=>rfl);have ac:D8 F F w (GF w p.s ci P.b):=⟨r.mono (λk _ e=>by rw[e];exact h.a.A.1),λ_ q=>Aj q⟩;rw[OL J,hci];generalize hG2:Hu G G.a (G.C.set ci P.b) (Nu G.J ci) G.d=G2 at b a A;have hr2:=b.A B;have N:R.EZ G2 (3*ci+ni)=R.Ic:=by
   rw[<-hG2]at hr2 ⊢;exact acp
  have L:Gh p.t G2.J (3*ci+ni)=.pointer none:=by
   unfold Gh;rw[hr2,N];rfl
  have C:R.Lm M G2 P d (3*ci+ni):=⟨s,hd,hu,by
   rw[v,<-hG2];show P.b=(G.C.set ci P.b).getD ci 0;rw[Bu,Bf,Ay I,Ay (by rw[h.g.ll];omega)];rfl,by rw[hci,hni]⟩
  have S:(GF w p.s ci P.b).heap.size=w.heap.size:=Ev;have X:∀{K:R.Wd} {l f:Aa},Below (GF w p.s ci P.b).heap.size (GF w p.s ci P.b) l->NM p F l K f->NM p F w K f:=λhb ⟨t,F',T,W⟩=>⟨t,F',T,(ac.trans (D8.J F hb)).trans W⟩
  refine oQ _ c7 f0 f1 f2 (λj=>Eb h.a.bs) z E U U hc (λk6 l hb=>?_) (λah l hb=>?_) (λad l hb=>?_)
  .rw[<-S]at hb;have q:=(A.h hb).aeK hr2 (P:=P) O.1;rw[L]at q;refine cm q λf m=>?_
   refine⟨I,?_⟩;rw[SI hr2,Ay k6];exact X hb m
  .rw[<-S]at hb;have q:=(A.h hb).jg b a hr2 C (by
    rcases H with q|q|q
    .exact Aj q
    .exact Am q
    .omega)
   rw[L]at q;refine cm q λf m=>?_
   exact⟨I,X hb m⟩
  .omega
theorem pJ(w:Aa)(s ci a:Nat)(c1 c3 c4:Int)(d:ci<3)(c:a<3)(b:EB w s (10+ci*3+a) (.pointer none)):
  D7 96 #[ptr s,.agg #[Z ci,Z c1,Z a,Z c3,Z c4]] w DI (DY w):=by
 have HB:Hid (∀o n,DY w ((w.alloc o).drewN n)):=λo n=>Ed F9 n
 have hl:=Gv b;obtain⟨e,f,g,h⟩:0<=(ci:Int)/\(ci:Int)<3/\0<=(a:Int)/\(a:Int)<3:=U;exact po
theorem iN(w:Aa)(s q ci h:Nat)(c1 c3 c4 a b c st:Int)(m:ci<3)(j:h<3)(i:EB w s (10+ci*3+h) (ptr q))(d0:EB w q 0 (Z ci))(d1:EB w q 1 (Z a))(d2:EB w q 2 (Z h))(d3:EB w q 3 (Z b))(d4:EB w q 4 (Z c))(l:EB w q 5 (Z st)):
  D7 96 #[ptr s,.agg #[Z ci,Z c1,Z h,Z c3,Z c4]] w (.bool (decide (a=c1/\b=c3/\c=c4/\st=1))) (DY w):=by
 have HB:Hid (∀o n,DY w ((w.alloc o).drewN n)):=λo n=>Ed F9 n
 have⟨hl,k⟩:=KM i d0;obtain⟨p,r,t,u⟩:0<=(ci:Int)/\(ci:Int)<3/\0<=(h:Int)/\(h:Int)<3:=U;by_cases d:a=c1
 .have e1:(a==c1)=true:=by simpa using d
  by_cases e:b=c3
  .have e2:(b==c3)=true:=by simpa using e
   by_cases f:c=c4
   .have e4:(c==c4)=true:=by simpa using f
    by_cases g:st=1
    .have e5:(st==1)=true:=by simpa using g
     rw[show decide (a=c1/\b=c3/\c=c4/\st=1)=true by simp[d,e,f,g]];clear d e f g;exact po
    .have e5:(st==1)=false:=by simpa using g
     rw[show decide (a=c1/\b=c3/\c=c4/\st=1)=false by simp[g]];clear d e f g;exact po
   .have e4:(c==c4)=false:=by simpa using f
    rw[show decide (a=c1/\b=c3/\c=c4/\st=1)=false by simp[f]];clear d e f;exact po
  .have e2:(b==c3)=false:=by simpa using e
   rw[show decide (a=c1/\b=c3/\c=c4/\st=1)=false by simp[e]];clear d e;exact po
 .have e1:(a==c1)=false:=by simpa using d
  rw[show decide (a=c1/\b=c3/\c=c4/\st=1)=false by simp[d]];clear d;exact po
theorem af9:∀args w,(callFunc 97 args).run prog w=.ok (.enter 97 args) w:=λ_ _=>rfl
def ac7(j:R.Jb):Obj:=.cells #[Z j.f,Z j.b,Z j.H,Z j.a,Z j.c] 170
theorem gQ(w0:Aa)(s:Nat)(A:List R.Jb->World->Prop)(B C:R.Jb->List R.Jb->World->Prop)(o p:World->Prop)(r:World->Nat)(h:List R.Jb)(hA:A h w0)
  (l:Hid (∀js w,A js w->r w=js))
  (HT0:Hid (∀w,A [] w->D7 95 #[ptr s] w (.tuple #[.agg #[Z 0,Z 0,Z 0,Z 0,Z 0],DI]) λc=>∀i,DY c i->o i))
  (g:Hid (∀j js w,A (j :: js) w->D7 95 #[ptr s] w (.tuple #[.agg #[Z j.f,Z j.b,Z j.H,Z j.a,Z j.c],DC]) λc=>∀i,DY c i->B j js i))
  (n:Hid (∀j js w,B j js w->ET 96 #[ptr s,.agg #[Z j.f,Z j.b,Z j.H,Z j.a,Z j.c]] w λe c=>DY w c/\((e=.returned DI/\A js c)\/(e=.returned DC/\C j js c))))
  (HC:Hid (∀j js w,C j js w->∃ci ni q:Nat,j.f=ci/\j.H=ni/\ci<3/\ni<3/\EB w s (10+ci*3+ni) (ptr q)/\D7 97 #[ptr s,ptr q] w.drew Ep λc=>p c)):
  ET 56 #[ptr s] w0 λe c=>(e=.returned (Z 19)/\o c)\/(e=.returned (Z 0)/\p c):=by
 have k:=Dx hA;clear hA
 delta ET
 go_in
 go_wp2_with fail
 refine wp_scope_jumps 0 (λa w=>∃(js:List R.Jb) (u1 u3 u4 u5 u6 u7 u8 u9 u10 u11 u12 u13 u14 u15 u16 u17 u18 u19 u20 u21 u22 u23 u24 u25 u26 u27 u28:Ad),a={tmps:=#[ptr s,u1,Z 0,u3,u4,u5,u6,u7,u8,u9,u10,u11,u12,u13,u14,u15,u16,u17,u18,u19,u20,u21,u22,u23,u24,u25,u26,u27,u28],defers:=[]}/\A js w) (λ_ w=>r w) I ?first ?pass
 case pass=>
  rintro a w ⟨js,u1,u3,u4,u5,u6,u7,u8,u9,u10,u11,u12,u13,u14,u15,u16,u17,u18,u19,u20,u21,u22,u23,u24,u25,u26,u27,u28,rfl,hA⟩;have m:=l js w hA;clear k;cases js with
  |nil=>
   exact abg
  |cons j js=>
   have HQ:=Dx (g j js w hA);clear hA;go_wp2_with (first|(go_at_call 95;refine cm HQ λw1 hw1=>?_;have HP:=Dx (n j js _ (hw1 _ ((AA _ _).alloc (Ar _) (ac7 j))));clear hw1))
   refine HP.mono ?_;rintro e w2 ⟨hb2,⟨rfl,b⟩|⟨rfl,hC2⟩⟩
   .have f:=Dx b;have d:=l js w2 b;clear b hb2;go_wp2
    go_step3
    exact⟨I,⟨js,_,_,_,_,_,_,_,_,_,_,_,_,_,_,_,_,_,_,_,_,_,_,_,_,_,_,_,I,f⟩,by rw[d,m];simp⟩
   exact afk
 case first=>
  have hA:=Dw k;clear k;generalize w0=w at hA ⊢;generalize h=js at hA;go_wp2_with fail
  go_step3
  cases js with
  |nil=>
   exact abg
  |cons j js=>
   have HQ:=Dx (g j js w hA);clear hA;go_wp2_with (first|(go_at_call 95;refine cm HQ λw1 hw1=>?_;have HP:=Dx (n j js _ (hw1 _ ((AA _ _).alloc (Ar _) (ac7 j))));clear hw1))
   refine HP.mono ?_;rintro e w2 ⟨hb2,⟨rfl,b⟩|⟨rfl,hC2⟩⟩
   .have f:=Dx b;have d:=l js w2 b;clear b hb2;go_wp2
    go_step3
    exact⟨I,⟨js,_,_,_,_,_,_,_,_,_,_,_,_,_,_,_,_,_,_,_,_,_,_,_,_,_,_,_,I,f⟩⟩
   exact afk
theorem zo:(prog.info? 99).map (λi=>(i.zero,i.size,i.bytes))=some (some (.agg #[Z 0,.nilIface,Dz]),3,48):=EL
def KT(kind:Int):TypeId:=if kind=0 then 320 else if kind=1 then 324 else 327
theorem lV(w:Aa)kind(hk:0<=kind/\kind<=2):D7 199 #[Z kind] w (.iface (KT kind) (ptr w)) λb=>Fp b (λk=>k=w) [] w Dz kind (.iface (KT kind) (ptr w))/\DY w b/\w<b.heap.size:=by
 have hc:kind=0\/kind=1\/kind=2:=U;rcases hc with rfl|rfl|rfl
 .have H:Hid (∀W,W=w.alloc (.cells #[.int .u16 0] 323)->Fp W (λk=>k=w.heap.size) [] w.heap.size Dz 0 (.iface (KT 0) (ptr w.heap.size))/\DY w W/\w.heap.size<W.heap.size):=λW a=>by
   subst a;exact⟨.counter I (AF w _) I,F9,Ev⟩
  exact wS
 .have H:Hid (∀W,W=w.alloc (.cells #[Dz] 326)->Fp W (λk=>k=w.heap.size) [] w.heap.size Dz 1 (.iface (KT 1) (ptr w.heap.size))/\DY w W/\w.heap.size<W.heap.size):=λW a=>by
   subst a;refine⟨.MZ I (AF w _) ⟨I,Aj ⟨I,I⟩⟩ (λj c=>by cases c),F9,Ev⟩
  exact wS
 .have H:Hid (∀W,W=w.alloc (.cells #[Dz,Dz,Dz] 329)->Fp W (λk=>k=w.heap.size) [] w.heap.size Dz 2 (.iface (KT 2) (ptr w.heap.size))/\DY w W/\w.heap.size<W.heap.size):=λW a=>by
   subst a;exact⟨.P9 _ _ _ I (AF w _) I (Aj ⟨I,none,I⟩) (Aj ⟨I,none,I⟩) (Aj ⟨I,none,I⟩),F9,Ev⟩
  exact wS
structure Tg(w:Aa)(s:Nat)(cs:Ae)(K:Ad)(m:Nat)(TF:Ae)(kind:Int)(K':Ad)(w':Aa):Prop where
 cell:w'.heap[s]?=some (.cells (cs.set 6 K').toArray 144 (0,0))
 row:w'.ownsRow 0 99 3 K' (m+1) (TF++[Z kind,.iface (KT kind) (ptr w.heap.size),.slice none 0 0])
 wk:Fp w' (λk=>k=w.heap.size) [] w.heap.size (.slice none 0 0) kind (.iface (KT kind) (ptr w.heap.size))
 at':K'.ownBlock=K.ownBlock\/∃j,K'.ownBlock=some j/\w.heap.size<j
 H:DF (λk=>k=s\/K.ownBlock=some k) w w'
theorem kN{V:Aa}{cs:Ae}(h:w.heap[s]?=some (.cells cs.toArray 144 (0,0)))(a:w.ownsRow 0 99 3 K m TF)(y:DY w W)(x:Fp W (λk=>k=w) [] w (.slice none 0 0) kind (.iface (KT kind) (ptr w)))(E:w<W.heap.size)(l:DY W V)
  (j:V.grownBy wz K.ownBlock) (f:wz.ownsRow 0 99 3 K' (m+1) (TF++[Z kind,.iface (KT kind) (ptr w),.slice none 0 0])) (C:K'.ownBlock=K.ownBlock\/K'.ownBlock=j0) (F:W<=j0):wz.heap[s]?=some (.cells cs.toArray 144 (0,0))/\Tg w s cs K m TF kind K' (wz.setCell (Y s 6) K'):=by
 have v:=K5 a h Em;have u:=(AB.1 h).1;have r:s<V.heap.size:=Ai U l.size;have i:wz.heap[s]?=some (.cells cs.toArray 144 (0,0)):=by
  rw[j.block s r (λe=>v e.symm),l.block s U,y.block s u];exact h
 have d:K'.ownBlock≠some s:=by grind
 have o:DF (λk=>k=s\/K.ownBlock=some k) W V:=DF.J l _;have c:DF (λk=>k=s\/K.ownBlock=some k) W (wz.setCell (Y s 6) K'):=(o.grown j (λk hk=>Aj (Am hk))).setCell (p:=Y s 6) (Aj (Aj I)) _;refine⟨i,⟨Ek (cs:=cs) (off:=6) i K',Jl f (λg j=>AU _ _ _ _ (λe=>d (by rw[j];exact CG some e))),?_,?_,(DF.J y _).trans c⟩⟩
 .refine x.keep c (λb A t z n G D B=>?_) (λ_ q=>q);subst n;rcases B with e|e
  .omega
  .have:=(Ba a _ e).2;omega
 grind
theorem uu(w:Aa)kind(T:Ag)(b:Nat)(j:Nat)(u:Ad)(h:([Z kind,.iface T (ptr b),Dz]:Ae)[j]?=u):(w.alloc (.cells #[Z kind,.iface T (ptr b),Dz] 99)).cell? (((EN w 0):Addr).add j)=u:=by grind [Addr.add_lit,World.cell?_alloc_new]
theorem aey:∀args w,(callFunc 199 args).run prog w=.ok (.enter 199 args) w:=λ_ _=>rfl
theorem kM{c:Nat}{cs:Ae}{a:Af}(hk:0<=kind/\kind<=2)(h:Dy w s cs.toArray 144)(C:cs[6]?=some (.slice a m c))(o:w.ownsRow 0 99 3 (.slice a m c) m TF)(hm:m<=300):
  D7 145 #[ptr s,Z kind] w (Z (m+1)) λr=>∃b,Tg w s cs (.slice a m c) m TF kind b r:=by
 have HF:=Dx (λw=>lV w kind hk);have M:Hid (∀{W V i:Aa} {b:Ad} {j0:Nat},DY w W->Fp W (λk=>k=w.heap.size) [] w.heap.size Dz kind (.iface (KT kind) (ptr w.heap.size))->w.heap.size<W.heap.size->DY W V->V.grownBy i (Value.slice a m c).ownBlock->i.ownsRow 0 99 3 b (m+1) (TF++[Z kind,.iface (KT kind) (ptr w.heap.size),Dz])->(b.ownBlock=(Value.slice a m c).ownBlock\/b.ownBlock=some j0)->W.heap.size<=j0->Dy i s cs.toArray 144/\Tg w s cs (.slice a m c) m TF kind b (i.setCell (Y s 6) b)):=λa1 a2 a3 a4 a5 a6 a7 a8=>kN h o a1 a2 a3 a4 a5 a6 a7 a8
 have c6:=ED h 6 _ (by simpa using C);have X:DJ w s 6:=Eb h;have hl:=Dv h;have K:Hid (∀i:World,Dy i s cs.toArray 144->EB i s 6 (.slice a m c)/\DJ i s 6):=λi L=>⟨ED L 6 _ (by simpa using C),Eb L⟩
 have A:=Dx o;have⟨i0,hi,G,H,J⟩:=A1 zo;obtain⟨g,d⟩:∃g:Value->World->Prop,g=λb r=>Tg w s cs (.slice a m c) m TF kind b r:=DR
 have N:Hid (∀b r,Tg w s cs (.slice a m c) m TF kind b r->g b r):=λb r q=>by rw[d];exact q
 have O:Hid (∀e r,e=Ending.returned (Z ((m:Int)+1))/\(∃b,g b r)->e=Ending.returned (Z ((m:Int)+1))/\∃b,Tg w s cs (.slice a m c) m TF kind b r):=λe r ⟨q1,b,q2⟩=>⟨q1,b,by rw[d]at q2;exact q2⟩
 clear d;refine Calls.mono ?_ (Dw O);generalize KT kind=FT at *;clear h o C hk;go_enter func145,ntmps145;go_wp2_with fail
 go_region_law (first
  |(refine FG rfl 199 #[.tmp 11] #[3] rfl aey #[Z kind] rfl _ (HF _) ?_;rintro e y ⟨rfl,x,j,E⟩;have Q:s<y.heap.size:=Ai hl j.size;have u:=Dx (Mg j);have B:=Dx x;have T:DJ y s 6:=(j.frozen (p:=Y s 6) hl).trans X;have P:EB y s 6 (.slice a m c):=(j.cell (p:=Y s 6) hl).trans c6;clear j x;refine⟨_,rfl,?_⟩)
  |(refine FM rfl (.tmp 9) (.tmp 14) 135 rfl 0 99 i0 (.agg #[Z 0,.nilIface,Dz]) 3 48 underlying135 hi G H J rfl Em (.slice a m c) m TF rfl (by exact(ER A u).alloc _) (EN y 0) 1 1 [Z kind,.iface FT (ptr w.heap.size),Dz] rfl rfl (by exact uu y kind FT w.heap.size) Vd JG U U ?_;intro v' i f l v;have⟨va,vc,F⟩:=Fa f;subst F;have D:=M u B E F9 l f v Ev;have⟨t,n⟩:=D;have z:=Dx (N _ _ n);have d1:=(K i t).1;have z1:=(K i t).2;have S:=Dv t;clear f l v t n))
 all_goals
  go_wp2;go_returns;exact⟨I,_,z⟩
end Go.Proofs.YtblomippkddgiabGreatDoor
