import Derived.Test.YtblomippkddgiabGreatDoorJ08
set_option maxRecDepth 100000
set_option maxHeartbeats 4000000
namespace Go.Proofs.YtblomippkddgiabGreatDoor
open Go.Proofs.Tryz RowKit
variable {F F' F2:D9}{acked cl host kind li life ln pieces rt seq state tr tries uid wait y:Int}{zl:List (R.Ln×Value)}{bound lv st xs:List Int}{fl:List R.Fl}{sn:List R.Sn}{name s:List UInt8}{N N' b cV cap cb cc d g gB gV i j j0 k lo lo' n n' nV nb nl o o' rc rn size u x:Nat}{f m:Nat→Bool}{a ab ra:Option Addr}{pk:Pk}{c:R.Cl}{z:R.Cl×CE}{l l' l1:R.Ln}{r1:R.Sn}{G G':R.Wd}{v v':RV}{e:TypeId}{J K K' V' V1:Value}{W w w' w1 w2 wz:World}
abbrev Tw.val(t:Tw):Value:=.agg #[ptr t.p.x,Ey t.x]
theorem Bn.le(h:Bn N G)(a:N<=N'):Bn N' G:=λc hc=>Br (h c hc) a
theorem Bn.sm(h:Bn N G)(d:R.Sm G G'):Bn N G':=λc hc=>by
 have⟨i,hi⟩:=Bp.1 hc;have⟨c0,a,_,b,_⟩:=d.cl.each i c hi;rw[b];exact h c0 (Ap a)
theorem Bn.h(h:Bn N G)(i k:Int)(l:R.Ln):Bn N (R.Eh G i k l):=λc hc=>by
 have⟨j,a⟩:=Bp.1 hc;unfold R.Eh at a;simp only[Df]at a;cases hq:G.b[j]? with
 |none=>rw[hq]at a;cases a
 |some c0=>
  rw[hq]at a;have b:=h c0 (Ap hq);obtain rfl:=Option.some.inj a;split<;>exact b
theorem Bn.call(h:Bn N G)(cl li uid a:Int)(arg:List R.It):Bn N (R.Gc G cl li uid a arg).2:=by
 unfold R.Gc;split
 .exact h
 split
 .exact h
 split
 .exact h
 split
 .exact h
 split
 .exact h
 simp only;split
 .exact h
 split
 .exact h
 exact(h.h _ _ _).sm (R.Sm.piece _ _ _ _)
theorem Bn.export(h:Bn N G)(name:Ac)kind:Bn N (R.E4 G name kind).2:=by
 unfold R.E4;split
 .exact h
 split
 .exact h
 split
 .split
  .exact h
  split<;>exact h
 .split<;>exact h
theorem Bn.Iy(h:Bn N G)(name:Ac):Bn N (R.Fb G name).2:=by
 unfold R.Fb;split<;>exact h
theorem Bn.import(h:Bn N G)cl(name:Ac):Bn (N+1) (R.FV G cl name).2:=by
 unfold R.FV;split
 .exact h.le U
 split
 .exact h.le U
 .intro c hc;have⟨j,a⟩:=Bp.1 hc
  grind [Bn]
theorem Bn.drop(h:Bn N G)i:Bn N (R.JM G i).2:=by
 unfold R.JM;split<;>exact h
theorem Bn.copy(h:Bn N G)i:Bn N (R.JA G i).2:=by grind [Bn,R.JA]
theorem Bn.Sf(h:Bn N G)(i a b:Int):Bn N (R.Jz G i a b).2:=by grind [Bn,R.Jz]
theorem Bd.tick(h:Bd N G):Bd N (R.Ni G):=⟨h.b.sm (R.Sm.tick G),h.iv.imp λ_ q=>q.tick,h.rm.tick⟩
theorem Bd.serve(h:Bd N G):Bd N (R.FQ G).2:=by
 have⟨M,q⟩:=h.iv;exact⟨h.b.sm (R.Sm.serve q),⟨M,q.FQ⟩,h.rm.serve⟩
theorem Bd.Ki(h:Bd N G)i:Bd N (R.Fv G i).2:=⟨h.b.sm (R.Sm.Ki G i),h.iv.imp λ_ q=>q.Ki i,by obtain⟨M,q⟩:=h.iv;exact h.rm.Ki q i⟩
theorem Bd.call(h:Bd N G)(cl li uid a:Int)(arg:List R.It):Bd N (R.Gc G cl li uid a arg).2:=⟨h.b.call _ _ _ _ _,by
 have⟨M,q⟩:=h.iv;have⟨b,_,c⟩:=q.call cl li uid a arg;exact⟨b,c⟩,h.rm.call _ _ _ _ _⟩
theorem Bd.export(h:Bd N G)(name:Ac)kind:Bd N (R.E4 G name kind).2:=⟨h.b.export _ _,h.iv.imp λ_ q=>q.export _ _,h.rm.export _ _⟩
theorem Bd.Iy(h:Bd N G)(name:Ac):Bd N (R.Fb G name).2:=⟨h.b.Iy _,h.iv.imp λ_ q=>q.Iy _,h.rm.Iy _⟩
theorem Bd.import(h:Bd N G)cl(name:Ac):Bd (N+1) (R.FV G cl name).2:=⟨h.b.import _ _,h.iv.imp λ_ q=>q.imports _ _,h.rm.imports _ _⟩
theorem Bd.drop(h:Bd N G)i:Bd N (R.JM G i).2:=⟨h.b.drop _,h.iv.imp λ_ q=>q.drop _,h.rm.drop _⟩
theorem Bd.copy(h:Bd N G)i:Bd N (R.JA G i).2:=⟨h.b.copy _,h.iv.imp λ_ q=>q.copy _,h.rm.copy _⟩
theorem Bd.Sf(h:Bd N G)(i a b:Int):Bd N (R.Jz G i a b).2:=⟨h.b.Sf _ _ _,h.iv.imp λ_ q=>q.Sf _ _ _,h.rm.Sf _ _ _⟩
def KA(N:Nat)(t:Tw)(G':R.Wd)(w w':Aa):Prop:=∃t',Ii N t' w'/\D8 t.A t'.A w w'/\t'.p.x=t.p.x/\t'.x=t.x/\t'.G=G'
structure Mid(N:Nat)(t:Tw)(G':R.Wd)(w w1:Aa):Prop where
 a:Ii N t w
 l:∃p' F',LW p' F' G' w1/\D8 t.F F' w w1/\p'.x=t.p.x
theorem Mid.r{t:Tw}(h:Mid N t G' w w1):RW t.x t.v t.E t.G w1:=by
 have⟨b,a,_,g,_⟩:=h.l;exact h.a.left g
theorem Mid.stays{t:Tw}(h:Mid N t G' w w1){o:Obj}(hk:w.heap[k]?=o)(hn:¬t.A k):w1.heap[k]?=o:=by
 have⟨b,a,_,g,_⟩:=h.l;exact g.H.at hk (λf=>hn (Aj f))
theorem Mid.h{t:Tw}(h:Mid N t G' w w1)(b:DY w1 w2):Mid N t G' w w2:=by
 have⟨c,a,l,g,e⟩:=h.l;exact⟨h.a,c,a,l.h b,g.trans (D8.J a b),e⟩
theorem Mid.done{t:Tw}(h:Mid N t G' w w1)(c:∃b a,RW t.x b a G' w2/\D8 t.E a w1 w2)(d:Bd N' G'):KA N' t G' w w2:=by
 have⟨k,j,l,g,e⟩:=h.l;have⟨b,a,r,g2⟩:=c;have⟨f,i⟩:=h.a.both l g r g2 d;exact⟨_,f,i,e,I,I⟩
theorem Ii.mid{t:Tw}(h:Ii N t w)(hl:NM t.p t.F w G' w1):Mid N t G' w w1:=by grind [NM,Mid]
theorem Ii.tH{t:Tw}(h:Ii N t w)(l:LW t.p F' G' w1)(g:D8 t.F F' w w1):Mid N t G' w w1:=⟨h,_,F',l,g,rfl⟩
theorem Ii.adh{t:Tw}(h:Ii N t w)(a:DY w w1):Mid N t t.G w w1:=⟨h,_,t.F,h.l.h a,D8.J _ a,rfl⟩
theorem Mid.rD{t:Tw}(h:Mid N t t.G w w1)(a:DY w1 w2):KA N t t.G w w2:=h.done ⟨_,_,h.r.h a,D8.J _ a⟩ h.a.bd
theorem KA.ahead{t:Tw}(e:DY w w1)(h:KA N t G' w1 w2):KA N t G' w w2:=by
 have⟨f,a,b,c,d⟩:=h;exact⟨f,a,(D8.J _ e).trans b,c,d⟩
theorem KA.le{t:Tw}(h:KA N t G' w w1)(e:N<=N'):KA N' t G' w w1:=by
 have⟨f,a,b,c,d⟩:=h;exact⟨f,⟨a.l,a.r,a.ap,Bd.le a.bd e⟩,b,c,d⟩
theorem Ii.off{t:Tw}(h:Ii N t w)(hk:w<=k):¬t.A k:=λq=>by have:=h.lt k q;omega
theorem WO(w:Aa)(t:Tw)(o:LD):DY w ((w.alloc (.cells #[ptr t.p.x,Ey t.x] 106)).alloc (.cells o.cells 84))/\((w.alloc (.cells #[ptr t.p.x,Ey t.x] 106)).alloc (.cells o.cells 84)).heap[w.heap.size]?=some (.cells #[ptr t.p.x,Ey t.x] 106 (0,0))/\((w.alloc (.cells #[ptr t.p.x,Ey t.x] 106)).alloc (.cells o.cells 84)).heap[w.heap.size+1]?=some (.cells o.cells 84 (0,0)):=by
 have a:(w.alloc (.cells #[ptr t.p.x,Ey t.x] 106)).heap.size=w.heap.size+1:=Ev;refine⟨F9.alloc U _,?_,?_⟩
 .rw[AL _ _ _ U];exact AF w _
 .have:=AF (w.alloc (.cells #[ptr t.p.x,Ey t.x] 106)) (.cells o.cells 84);rw[a]at this;exact this
theorem OM(n:Int)(w:Aa):D7 66 #[Z n] w (Z n) λa=>a=w:=by
 delta D7
 go_in
 go_wp2;go_returns;exact DN
structure Bx(b:Nat)(t:Tw)(o:LD)(w:Aa):Prop where
 t:w.heap[b]?=some (.cells #[ptr t.p.x,Ey t.x] 106 (0,0))
 o:w.heap[b+1]?=some (.cells o.cells 84 (0,0))
theorem Bx.stays{t:Tw}{o:LD}(h:Bx b t o w)(c:Mid N t G' w w1)(a:∀k,b<=k->¬t.A k):Bx b t o w1:=by grind [Bx,Mid.stays]
theorem Jc{t:Tw}(h:Ii N t w)(o:LD):∃b,(w.alloc (.cells #[ptr t.p.x,Ey t.x] 106)).alloc (.cells o.cells 84)=b/\DY w b/\Bx w t o b/\Ii N t b/\∀k,w.heap.size<=k->¬t.A k:=by
 have⟨a,c,d⟩:=WO w t o;exact⟨_,I,a,⟨c,d⟩,h.h a,λk hk=>h.off hk⟩
namespace V
variable {E F:D9}{u v:World}
theorem Y9(h:Go.Proofs.YtblomippkddgiabGreatDoor.DF F u v)(n:Nat):Go.Proofs.YtblomippkddgiabGreatDoor.DF F u (v.drewN n):=⟨h.os,h.tape,h.output,h.size,h.block⟩
theorem Ff.keep{V:Ad}{v:List It}(h:Ff w V v)(hk:Go.Proofs.YtblomippkddgiabGreatDoor.DF E w w')(hn:v≠[]->∀b off n c,V=.slice (Y b off) n c->¬E b):Ff w' V v:=by grind [Ff,Go.Proofs.YtblomippkddgiabGreatDoor.DF,World.cell?_of_block]
theorem I9.keep{G m:Nat}{l:List It}(h:I9 w G m k l)(hk:Go.Proofs.YtblomippkddgiabGreatDoor.DF E w w')(hn:¬E G):I9 w' G m k l:=by grind [I9,Go.Proofs.YtblomippkddgiabGreatDoor.DF]
theorem dW(w:Aa)(o:Addr)(cap G:Nat)(v:List It)(hn:v.length<=9000000000000)(A:Ff w (.slice (o) v cap) v)(J:v≠[]->o.block≠G)(m:I9 w G (v+6) 0 (v++List.replicate 6 Iu)):
  D7 113 #[EJ G v (v+6),.slice (o) v cap] w DC λS=>Go.Proofs.YtblomippkddgiabGreatDoor.DF (λk=>k=G) w S:=by
 obtain⟨n,g⟩:∃n,n=v.length:=DR;have E:=notNil o n cap;have⟨F,y⟩:=FU Tx A;rw[<-g]at y m;rw[<-g];have l:=Dx g;have P:n<=9000000000000:=U;have H:=Dx m;clear g hn A m
 delta D7
 go_in
 go_wp2;go_loopw [7,8] (λok iv wr=>ok=DC/\∃i:Nat,i<=n+6/\iv=Z i/\I9 wr G (n+6) i (v++List.replicate 6 Iu)/\Go.Proofs.YtblomippkddgiabGreatDoor.DF (λk=>k=G) w wr) (λ_ iv _=>n+6-(intOf iv).toNat)
 case atStart=>exact⟨I,0,U,I,H,Go.Proofs.YtblomippkddgiabGreatDoor.DF.refl _ w⟩
 case round=>
  obtain⟨rfl,i,O,rfl,m,q⟩:=hrel;by_cases t:i<n+6
  .have r:=Dx m;have j:=Dx q;clear m q;go_wp2_with fail
   refine cm (F _) λw1 d=>?_
   have a:=r.h d;have f:=j.trans (Go.Proofs.YtblomippkddgiabGreatDoor.DF.J d _);obtain⟨x,h⟩:∃x,(v++List.replicate 6 Iu)[i]?=some x:=⟨_,Ah (by rw[AJ,BN,<-Dw l];exact t)⟩;have⟨c0,c1⟩:=a.at (Ar _) h;have T:=a.thaw (i*2);have W:=a.thaw (i*2+1);have M:=a.lt;have N:¬w1.heap.size=G:=U;have D:¬G=w1.heap.size:=U;have⟨HL1,HBT⟩:=FU a f;by_cases s:i<n
   .have p:v[i]?=some x:=by rwa [A6 (by rw[<-Dw l];exact s)]at h
    have⟨b,off,z,B,K,d0,d1⟩:=(y.keep f (λQ b off n c e=>by injection e with e1;injection e1 with e1;rw[<-show o.block=b by rw[e1]];exact J Q)).at p;obtain rfl:o=(Y b off):=by
     injection B with h1;injection h1
    have L:¬w1.heap.size=b:=U;have C:¬b=w1.heap.size:=U;clear a f h p d B;exact afG
   .have u:x=Iu:=by
     rw[Bq (by rw[<-Dw l];omega),Be]at h;split at h
     .cases h;rfl
     .cases h
    subst u;clear a f h d;exact afG
  .clear m;have j:=Dx q;clear q;go_wp2
   go_ret
   exact⟨I,j⟩
end V
theorem Kd{cs:Array Value}{t:Ag}{xs:Ae}(c:w.heap[x]?=some (.cells cs t (0,0)))(a:w.ownsRow 0 e size K n xs)(b:e≠t)(d:DY w W)(g:W.grownBy wz K.ownBlock):wz.heap[x]?=some (.cells cs t (0,0)):=by
 have hl:=(AB.1 c).1;rw[g.block x (Ai hl d.size) (λf=>Fg a c b f.symm),d.block x hl];exact c
theorem OQ{cs:Ae}{t:Ag}{xs i:Ae}(r:Dy w x cs.toArray t)(f:w.ownsRow 0 e size K n xs)(b:e≠t)(h:DY w W)(q:W.grownBy wz K.ownBlock)(a:wz.ownsRow 0 e size K' n' i)(m:K'.ownBlock=K.ownBlock\/K'.ownBlock=j0)(u:w<=j0):
  (wz.setCell (Y x o) K').ownsRow 0 e size K' n' i/\Dy (wz.setCell (Y x o) K') x (cs.set o K').toArray t/\DF (λk=>k=x\/K.ownBlock=k) w (wz.setCell (Y x o) K')/\∀j,K'.ownBlock=some j->K.ownBlock=j\/w<=j:=by
 have c:=Kd r f b h q;have g:Dy (wz.setCell (Y x o) K') x (cs.set o K').toArray t:=Ek c K';refine⟨?_,g,?_,λj d=>?_⟩
 .have hk:=DF.setCell (F:=λk=>k=x) (DF.refl _ wz) (p:=Y x o) (Aj I) K';exact hk.row a (λj d l=>Fg a c b (l ▸ d))
 .have s:DF (λk=>k=x\/K.ownBlock=some k) w W:=DF.J h _
  grind [DF.grown,DF.setCell]
 grind
theorem Jx{α:Type}{f:α->List Value}(a:∀x,(f x)=size)(p:0<size){xs:List α}(h:w.ownsRow 0 e size K n (tab f xs)){y:α}(c:xs[i]?=y):∃g cap,K=EJ g n cap/\g<w/\(∀j u,j<size->(f y)[j]?=some u->w.cell? (Y g (i*size+j))=u)/\∀o,DJ w g o:=by
 have hi:=GG c;have hl:=h.1;rw[F8 a]at hl;rcases h.2 with ⟨_,k⟩|⟨g,cap,d,rfl,_,b,hc,_,q,r⟩
 .subst k;exfalso;have l:size*xs.length=0:=by simpa using hl
  have:=Nat.mul_pos p (Nat.lt_of_le_of_lt (AV i) hi);omega
 .refine⟨g,cap,I,(AB.1 b).1,λj u m hu=>?_,λo=>Eb b⟩;have hn:i*size+j<n*size:=by
   have:size*xs.length=n*size:=hl;have l:(i+1)*size<=xs.length*size:=BL _ hi
   grind
  have:=Jh a xs i j y c m
  grind [World.cell?]
def Vf(b:Bool):Int:=if b then 1 else 0
def Mh(w:Aa)(G N lo:Nat)(f:Nat->Bool):Prop:=∃cur,w.heap[G]?=some (.cells cur 5 (0,0))/\cur=N/\∀k,lo<=k->k<N->cur[k]?=some (.int .u8 (Vf (f k)))
theorem Mh.at{G:Nat}(h:Mh w G N lo f)(a:lo<=k)(b:k<N):w.cell? (Y G k)=some (.int .u8 (Vf (f k))):=by grind [Mh,World.cell?]
theorem Mh.thaw{G:Nat}(h:Mh w G N lo f)(o:Nat):DJ w G o:=by grind [Mh,World.frozen?]
theorem Mh.lt{G:Nat}(h:Mh w G N lo f):G<w:=by grind [Mh]
theorem Mh.set{G:Nat}(h:Mh w G N lo f)(k:Nat)(b:Bool)n(hn:n=Vf b):Mh (w.setCell (Y G k) (.int .u8 n)) G N lo (λj=>if j=k then b else f j):=by
 have⟨a,c,d,i⟩:=h;refine⟨a.setIfInBounds k (.int .u8 n),Io c _,by simpa using d,λj e g=>?_⟩
 grind
theorem Mh.to{G:Nat}{g:Nat->Bool}(h:Mh w G N lo f)(b:lo<=lo')(a:∀k,lo'<=k->k<N->f k=g k):Mh w G N lo' g:=by grind [Mh]
theorem kX{b:UInt8}{r:Nat}(h:r<8):jh b r=decide (b.toNat / 2 ^ (7-r) % 2=1):=by
 have H:∀n,n<256->∀r,r<8->(BitVec.ofNat 16 (n*256)).getMsbD r=decide (n / 2 ^ (7-r) % 2=1):=Kx;exact H b.toNat b.toNat_lt r h
theorem mH:Mh (w.alloc (.cells (madeCells (Value.int .u8 0).cells (N*1)) 5)) w N 0 (λ_=>false):=by
 refine⟨_,AF w _,by rw[Dg];omega,λk _ hk=>?_⟩;have e:(Value.int .u8 0).cells=#[.int .u8 0]:=rfl;rw[e,<-Array.getElem?_toList,toList_madeCells_one,Be,Ay U];rfl
def ML(m:Nat->Bool)(i k:Nat):Bool:=decide (k<i)&&m k
theorem oN(h:m i=true)(k:Nat):(if k=i then true else ML m i k)=ML m (i+1) k:=by grind [ML]
theorem vT(h:m i=false)(k:Nat):ML m i k=ML m (i+1) k:=by grind [ML]
theorem oL(h:∀k,i<=k->m k=false):ML m i k=m k:=by grind [ML]
theorem Zh(l:Ac)(k:Nat)(h:8*l<=k):Ql l k=false:=by grind [Ql]
theorem oM(l:Ac)(w:Aa)(hl:l.length<=1000):
  D7 260 #[.string (str l)] w (EJ w (8*l+16) (8*l+16)) λD=>Mh D w (8*l+16) 0 (Ql l)/\DY w D:=by
 obtain⟨S,o⟩:∃S,S=str l:=DR;obtain⟨n,hn⟩:∃n,n=l.length:=DR;have Q:(S.size:Int)=(n:Int):=by rw[o,Er,hn]
 have⟨i0,hi,z,A,B⟩:=A1 info5;obtain⟨M,u⟩:∃M,M=madeCells (Value.int .u8 0).cells ((8*n+16)*1):=DR;have L:∀W:World,(Instr.makeSlice 281 (Z (8*(n:Int)+16)) (Z (8*(n:Int)+16))).run prog W=.ok (EJ (zz W) (8*n+16) (8*n+16)) (W.alloc (.cells M 5)):=λW=>by
  have h:=run_make (P:=prog) W 281 5 i0 (.int .u8 0) underlying281 hi z .i64 .i64 (8*(n:Int)+16) (8*(n:Int)+16) U (BK _) (by rw[B];omega) U;have e:(8*(n:Int)+16).toNat=8*n+16:=U;rw[A,e,<-u]at h;exact h
 have F:Hid (Mh (w.alloc (.cells M 5)) (zz w) (8*n+16) 0 (λ_=>false)):=by rw[u];exact mH
 have s:=Dx ((AA (zz w) w).alloc (Ar _) (.cells M 5));rw[<-o,<-hn];have E:Hid (∀i q r:Nat,i=8*q+r->r<8->(p:q<S.size)->Ql l i=decide ((S[q]).toNat / 2 ^ (7-r) % 2=1)):=by
  intro i q r hi x p;have H:l[q]?=some (S[q]):=by subst o;exact K8 l q p
  unfold Ql;rw[show i / 8=q by omega,show i % 8=r by omega,H];exact kX x
 have t:Hid (∀k,8*n<=k->Ql l k=false):=by rw[hn];exact Zh l
 have N:n<=1000:=U;have j:S.size=n:=U;have g:=Dx j;clear u o hn hl j;generalize Ql l=m at *
 delta D7
 go_in
 go_wp2;go_loopw [4] (λiv wr=>∃i:Nat,i<=8*n/\iv=Z i/\Mh wr (zz w) (8*n+16) 0 (ML m i)/\DY w wr) (λiv _=>8*n-(intOf iv).toNat)
 case atStart=>exact⟨0,AV _,I,F.to (Ar _) (λk _ _=>by simp[ML]),s⟩
 case round=>
  obtain⟨i,hi,rfl,b,c⟩:=hrel;by_cases K:i<8*n
  .obtain⟨q,r,f,y⟩:∃q r:Nat,i=8*q+r/\r<8:=⟨i / 8,i % 8,U,U⟩;have p:q<S.size:=by have:=Dw g;omega
   have d:=E i q r f y p;have J:=b.at (k:=i) (AV _) U;have T:=b.thaw i;have hc:=(S[q]).toNat_lt;have d1:(i:Int) / 8=(q:Int):=U;have d2:(i:Int) % 8=(r:Int):=U;have O:(q:Int)<n:=by have:=Dw g;omega
   have⟨HBT,HBL⟩:=FU b c;clear b c;have G:=Dx f;clear f;generalize hC:S[q].toNat=C at *;have a:=Dx d;clear d;have x:r=0\/r=1\/r=2\/r=3\/r=4\/r=5\/r=6\/r=7:=U;rcases x with rfl|rfl|rfl|rfl|rfl|rfl|rfl|rfl
   .have hcmp:(((C:Int) / 128 % 2==1))=m i:=by
     rw[Dw a,BH];simp;omega
    exact Ef
   .have hcmp:(((C:Int) / 64 % 2==1))=m i:=by
     rw[Dw a,BH];simp;omega
    exact Ef
   .have hcmp:(((C:Int) / 32 % 2==1))=m i:=by
     rw[Dw a,BH];simp;omega
    exact Ef
   .have hcmp:(((C:Int) / 16 % 2==1))=m i:=by
     rw[Dw a,BH];simp;omega
    exact Ef
   .have hcmp:(((C:Int) / 8 % 2==1))=m i:=by
     rw[Dw a,BH];simp;omega
    exact Ef
   .have hcmp:(((C:Int) / 4 % 2==1))=m i:=by
     rw[Dw a,BH];simp;omega
    exact Ef
   .have hcmp:(((C:Int) / 2 % 2==1))=m i:=by
     rw[Dw a,BH];simp;omega
    exact Ef
   .have hcmp:(((C:Int) % 2==1))=m i:=by
     rw[Dw a,BH];simp;omega
    exact Ef
  .have v:i=8*n:=U;have⟨HBT,HBL⟩:=FU b c;clear b c hi;subst v;go_wp2
   go_ret
   exact⟨I,HBT.to (Ar _) (λk _ hk=>oL t),HBL⟩
def Nj(m:Nat->Bool)(i j k:Nat):Bool:=JL m i k ^^ (decide (k-i<j)&&Og (k-i))
theorem pD(m:Nat->Bool)(i k:Nat):JL m i k=Nj m i 0 k:=by
 simp[Nj]
theorem xH(hk:i<=k)(a:Og j=true):(if k=i+j then !(JL m i (i+j)) else Nj m i j k)=Nj m i (j+1) k:=by
 unfold Nj;by_cases h:k=i+j
 .subst h;rw[Ay I,show i+j-i=j by omega,a];simp
 .rw[Ao h];congr 2;rw[decide_eq_decide];omega
theorem aaR(hk:i<=k)(a:Og j=false):Nj m i j k=Nj m i (j+1) k:=by
 unfold Nj;by_cases h:k=i+j
 .subst h;rw[show i+j-i=j by omega,a];simp
 .congr 2;rw[decide_eq_decide];omega
theorem aaP(m:Nat->Bool)(i j:Nat):Nj m i j (i+j)=JL m i (i+j):=by
 unfold Nj;rw[show i+j-i=j by omega];simp
theorem lT(h:17<=d):Og d=false:=by
 unfold Og;simp;omega
theorem xG(hk:i<k)(a:JL m i i=true):Nj m i 17 k=JL m (i+1) k:=by
 rw[TG m hk,a];unfold Nj;by_cases h:k-i<17
 .simp[h]
 .rw[lT U];simp
theorem pC(hk:i<k)(a:JL m i i=false):JL m i k=JL m (i+1) k:=by
 rw[TG m hk,a];simp
theorem my(R:BitVec 16)(t:Nat)(a:t<16):((R.toNat / 2 ^ (16-(t+1)):Nat):Int)=2*((R.toNat / 2 ^ (16-t):Nat):Int)+Vf (R.getMsbD t):=by
 have e1:R.getMsbD t=decide (R.toNat / 2 ^ (15-t) % 2=1):=by
  rw[BitVec.getMsbD_eq_getLsbD,show decide (t<16)=true by simpa using a,Bool.true_and,BitVec.getLsbD,Nat.testBit_eq_decide_div_mod_eq,show 16-1-t=15-t by omega]
 have e2:R.toNat / 2 ^ (16-t)=R.toNat / 2 ^ (15-t) / 2:=by
  rw[show 16-t=(15-t)+1 by omega,Nat.pow_succ,Nat.div_div_eq_div_mul]
 rw[e1,e2,show 16-(t+1)=15-t by omega];generalize R.toNat / 2 ^ (15-t)=x;unfold Vf;by_cases h:x % 2=1
 .simp[h];omega
 .simp[h];omega
def Ej:ByteArray:=⟨#[49,49,48,48,48,48,48,48,48,48,48,48,48,48,49,48,49]⟩
theorem acQ:∀j (h:j<Ej.size),(((Ej[j]).toNat:Int)==49)=Og j:=by
 have:∀j,j<17->∀(h:j<Ej.size),(((Ej[j]).toNat:Int)==49)=Og j:=Kx;intro j h;exact this j (by have e:Ej.size=17:=rfl;omega) h
theorem di{t:Nat}(h:∀k,n<=k->m k=false):JL m n (n+t)=(reg m n).getMsbD t:=by grind [JL]
theorem Uz(l:Ac)(w:Aa)(hl:l.length<=1000):D7 236 #[.string (str l)] w (Z (Kb l)) (DY w):=by
 have O:=Dx (oM l w hl);have P:Hid (Kb l=((reg (Ql l) (8*l.length)).toNat:Int)):=by
  show _=_;rw[zP];rfl
 have W:=Zh l;rw[Dw P];clear P;have ad:((str l).size:Int)=(l.length:Int):=by rw[Er]
 generalize hS:str l=S at *;clear hS;generalize Ql l=m at *;generalize l.length=n at *;obtain⟨R,E⟩:∃R,R=reg m (8*n):=DR;have r:=Dx R.isLt;rw[<-E];have z:=Dx E;clear E;have p:=Dx acQ;have q:Ej.size=17:=rfl;unfold Ej at p q
 delta D7
 go_in
 go_wp2_with fail
 refine cm O ?_;rintro w1 ⟨s,f⟩;have⟨x,y⟩:=FU s f;clear s f O;go_wp2;generalize ({data:=#[49,49,48,48,48,48,48,48,48,48,48,48,48,48,49,48,49]}:Ab)=BY at *;have aa:(BY.size:Int)=17:=U;clear q;go_loopw [5] (λiv wr=>∃i:Nat,i<=8*n/\iv=Z i/\Mh wr w.heap.size (8*n+16) i (JL m i)/\DY w wr) (λiv _=>8*n-(intOf iv).toNat)
 case atStart=>exact⟨0,AV _,I,x.to (Ar _) (λk _ _=>(dm m k).symm),y⟩
 case round=>
  obtain⟨i,hi,rfl,a,b⟩:=hrel;by_cases ac:i<8*n
  .have c:=a.at (k:=i) (Ar _) U;have⟨h,g⟩:=FU a b;clear a b;cases hx:JL m i i with
   |true=>
    have F:wr.cell? (EN w i)=some (.int .u8 1):=by rw[c,hx];rfl
    clear c;have C:=Dx hx;clear hx;go_wp2;go_loopw [6] (λN o=>∃j:Nat,j<=17/\N=Z j/\Mh o w.heap.size (8*n+16) i (Nj m i j)/\DY w o) (λN _=>17-(intOf N).toNat)
    case atStart=>exact⟨0,AV _,I,h.to (Ar _) (λk _ _=>pD m i k),g⟩
    case round=>
     obtain⟨j,hj,rfl,a,b⟩:=hrel;by_cases T:j<17
     .have J:j<BY.size:=U;have u:=p j J;have c:=a.at (k:=i+j) U U;rw[aaP]at c;have ae:=a.thaw (i+j);have ab:(j:Int)<17:=U;have H:(i:Int)+(j:Int)<8*(n:Int)+16:=U;have⟨e,d⟩:=FU a b;clear a b;cases hf:Og j with
      |true=>
       rw[hf]at u;have HF:=Dx hf;clear hf;go_wp2;go_roundw
       case rel=>exact⟨j+1,U,Kc,(e.set (i+j) (!(JL m i (i+j))) _ (by unfold Vf;cases JL m i (i+j)<;>rfl)).to (Ar _) (λk hk _=>xH hk HF),d.setCell Ev _⟩
       case measure=>exact Kt
      |false=>
       rw[hf]at u;have HF:=Dx hf;clear hf;go_wp2;go_roundw
       case rel=>exact⟨j+1,U,Kc,e.to (Ar _) (λk hk _=>aaR hk HF),d⟩
       case measure=>exact Kt
     .have K:j=17:=U;subst K;have⟨e,d⟩:=FU a b;clear a b;go_wp2;go_roundw
      case rel=>exact⟨i+1,U,Kc,e.to U (λk hk _=>xG U C),d⟩
      case measure=>exact Kt
   |false=>
    have F:wr.cell? (EN w i)=some (.int .u8 0):=by rw[c,hx];rfl
    clear c;have C:=Dx hx;clear hx;go_wp2;go_roundw
    case rel=>exact⟨i+1,U,Kc,h.to U (λk hk _=>pC U C),g⟩
    case measure=>exact Kt
  .have G:i=8*n:=U;have⟨h,g⟩:=FU a b;clear a b hi;subst G;go_wp2;go_loopw [7,8] (λnv iv o=>∃t:Nat,t<=16/\iv=Z (8*(n:Int)+(t:Int))/\nv=Z ((R.toNat / 2 ^ (16-t):Nat):Int)/\o=wr) (λ_ iv _=>8*n+16-(intOf iv).toNat)
   case atStart=>
    refine⟨0,AV _,Kc,?_,I⟩;have:=Dw r;rw[Nat.div_eq_of_lt U];rfl
   case round=>
    obtain⟨t,ht,rfl,rfl,rfl⟩:=hrel;by_cases v:t<16
    .have c:=h.at (k:=8*n+t) U U;rw[di (Dw W),<-Dw z]at c;have A:=Dx (my R t v);have X:0<=Vf (R.getMsbD t)/\Vf (R.getMsbD t)<=1:=by unfold Vf;split<;>omega
     have L:(R.toNat / 2 ^ (16-t):Nat)<65536:=by
      have:=Dw r;have h2:=Nat.div_le_self R.toNat (2 ^ (16-t));omega
     generalize Vf (R.getMsbD t)=B at *;generalize R.toNat / 2 ^ (16-t)=Q at *;have H:8*(n:Int)+(t:Int)<8*(n:Int)+16:=U;go_wp2;go_roundw
     case rel=>exact⟨t+1,U,Kc,by rw[Dw A],BR⟩
     case measure=>exact Kt
    .have M:t=16:=U;subst M;have L:=Dw r;have D:R.toNat / 2 ^ (16-16)=R.toNat:=Ev;rw[D];go_wp2
     go_ret
     exact⟨I,g⟩
theorem P7(w:Aa)(a b:Int):(convert 281 9 (EJ w 2 2)).run prog (w.alloc (.cells #[.int .u8 a,.int .u8 b] 5))=.ok (.string (str [b8 a,b8 b])) (w.alloc (.cells #[.int .u8 a,.int .u8 b] 5)):=by
 exact abF
theorem UA(n:Int)(w:Aa)(a:0<=n)(b:n<=65535):
  D7 192 #[Z n] w (.string (str (EU n))) (DY w):=by
 have hc:=P7 w (n / 256) (n % 256);have e:EU n=[b8 (n / 256),b8 (n % 256)]:=rfl;exact abu
def Sb(w:Aa)(G N i:Nat)(xs:List Int):Prop:=∃cur,w.heap[G]?=some (.cells cur 5 (0,0))/\cur=N/\∀k x,k<i->xs[k]?=some x->cur[k]?=some (.int .u8 x)
theorem Sb.cell{G:Nat}(h:Sb w G N i xs)(hk:k<N):∃v,EB w G k v:=by
 have⟨a,b,c,_⟩:=h;exact⟨_,ED b k _ (Array.getElem?_eq_getElem U)⟩
theorem Sb.thaw{G:Nat}(h:Sb w G N i xs)(o:Nat):DJ w G o:=by grind [Sb,Hf]
theorem Sb.set{G:Nat}(h:Sb w G N i xs){x:Int}(d:xs[i]?=x)(hi:i<N):Sb (w.setCell (Y G i) (.int .u8 x)) G N (i+1) xs:=by
 have⟨a,b,c,r⟩:=h;refine⟨a.setIfInBounds i (.int .u8 x),Io b _,by simpa using c,λk y hk e=>?_⟩
 grind
theorem Sb.conv{G:Nat}(h:Sb w G N N xs)(b:N=xs)(f:∀x∈xs,0<=x/\x<=255):(convert 281 9 (EJ G N N)).run prog w=.ok (.string (str (xs.map b8))) w:=by
 have⟨a,c,e,r⟩:=h;have:=C5 (P:=prog) w 281 9 5 (Y G 0) N (xs.map b8) underlying281 EL underlying9 λj d=>?_
 all_goals grind [Addr.add_lit,ED,FP]
theorem XC(xs:List Int)(G c:Nat)(w:Aa)(D:G<w)(f:∀i x,xs[i]?=some x->EB w G i (Z x))(b:∀x∈xs,0<=x/\x<=255)(hl:xs.length<=1000):
  D7 235 #[EJ G xs c] w (.string (str (xs.map b8))) (DY w):=by
 have⟨i0,hi,u,v,y⟩:=A1 info5;obtain⟨n,hn⟩:∃n,n=xs.length:=DR;obtain⟨M,q⟩:∃M,M=madeCells (Value.int .u8 0).cells (n*1):=DR;have E:∀W:World,(Instr.makeSlice 281 (Z n) (Z n)).run prog W=.ok (EJ (zz W) n n) (W.alloc (.cells M 5)):=λW=>by
  have h:=run_make (P:=prog) W 281 5 i0 (.int .u8 0) underlying281 hi u .i64 .i64 (n:Int) (n:Int) U (BK _) (by rw[y];omega) U;rw[v,AY,<-q]at h;exact h
 have C:Hid (Sb (w.alloc (.cells M 5)) (zz w) n 0 xs):=⟨M,AF w _,by rw[q,Dg];omega,λk x hk=>by omega⟩;have⟨l,m,A⟩:=Ll ((AA (zz w) w).alloc (Ar _) (.cells M 5)) f b;obtain⟨B,a⟩:∃B,B=str (xs.map b8):=DR;rw[<-hn,<-a];have o:=Dx a;clear a;have z:=Dx hn;have F:n<=1000:=U;clear q f b hl hn
 delta D7
 go_in
 go_wp2;go_loopw [4] (λiv wr=>∃i:Nat,i<=n/\iv=Z i/\Sb wr (zz w) n i xs/\DY w wr) (λiv _=>n-(intOf iv).toNat)
 case atStart=>exact⟨0,AV _,I,C,l⟩
 case round=>
  obtain⟨i,hi,rfl,d,e⟩:=hrel;by_cases g:i<n
  .obtain⟨x,b⟩:∃x,xs[i]?=some x:=⟨_,Ah (by have:=Dw z;omega)⟩;have K:=A x (Ap b);have r:=(e.cell (p:=Y G i) D).trans (m i x b);have⟨L,J⟩:=d.cell g;have H:=d.thaw i;have HF:=Dx (d.set b g);have j:=Dx (e.setCell (show (zz w)<=((EN w i):Addr).block from Ar _) (.int .u8 x));clear d e b;go_wp2;go_roundw
   case rel=>exact⟨i+1,U,Kc,HF,j⟩
   case measure=>exact Kt
  .have t:i=n:=U;subst t;have s:=d.conv z (Dw A);have j:=Dx e;clear d e;rw[<-Dw o]at s;go_wp2
   go_ret
   exact⟨I,j⟩
theorem Qs(a b:Ac):str a++str b=str (a++b):=by
 apply CJ;simp
theorem sR(W:Aa)(xs:List Int)(t:Ag):∀(i:Nat) x,xs[i]?=some x->(W.alloc (.cells (xs.map (Value.int .i64)).toArray t)).cell? (EN W i)=Z x:=by grind [World.cell?_alloc_new]
theorem Ph(p:Pk)(w:Aa)(hr:EC p):D7 187 #[pv p] w (.string (str (Gq p))) (DY w):=by
 have W:=Mm hr;have z:Hid (Gq p=Ha p++EU (Kb (Ha p))):=rfl;have y:Hid (Ha p=([p.J,p.f,p.b,p.H,p.a / 256,p.a % 256,p.c,p.Ez,p.off,N3 p.e,(p.d.length:Int)]:List Int).map b8++p.d):=rfl;have q:=Dx (JZ p);rw[Dw z];clear z;generalize Ha p=H at *;obtain⟨k,c,f,ln,b,u,pa,o,e,a⟩:=p;obtain⟨b1,b2,b3,b4,b5,b6,b7,Q,_⟩:=hr;simp only at b1 b2 b3 b4 b5 b6 b7 Q W;show ET 187 #[S9 k c f ln b u pa o e (str a)] w _;have qY:0<=N3 e/\N3 e<=1:=by unfold N3;split<;>omega
 have A:Hid (∀x∈([k,c,f,ln,b / 256,b % 256,u,pa,o,N3 e,(a.length:Int)]:List Int),0<=x/\x<=255):=by
  intro x hx;simp only[CX,List.not_mem_nil,or_false]at hx;omega
 obtain⟨i,h⟩:∃i,w.alloc (.cells #[Z k,Z c,Z f,Z ln,Z b,Z u,Z pa,Z o,.bool e,.string (str a)] 82)=i:=DK;have s:Dy i w.heap.size #[Z k,Z c,Z f,Z ln,Z b,Z u,Z pa,Z o,.bool e,.string (str a)] 82:=by
  rw[<-h];exact AF w _
 have X:i.heap.size=w.heap.size+1:=by rw[<-h];simp
 have G:Hid (DY w i):=by
  rw[<-h];exact F9
 have j:=Dx (XC [k,c,f,ln,b / 256,b % 256,u,pa,o,N3 e,(a.length:Int)] i.heap.size 11 ((i.alloc (.cells (([k,c,f,ln,b / 256,b % 256,u,pa,o,N3 e,(a.length:Int)]:List Int).map (Value.int .i64)).toArray 3)).drew) Ev (sR i _ 3) A Ev);rw[X]at j;have L:Hid (IntKind.i64.wrap (b.tdiv 256)=b / 256):=by
  show _=_;rw[CM U];exact wrap_i64_ediv _ _ U U U
 have M:Hid (b.tmod 256=b % 256):=Ca U;have K:Hid (∀w,D7 236 #[.string (str H)] w (Z (Kb H)) (DY w)):=λw=>Uz H w (by rw[Dw q];simp only;omega)
 have P:=Dx (λw=>UA (Kb H) w (Nt H).1 (Nt H).2);have O:=Dx (Qs H (EU (Kb H)));have N:Hid (str (([k,c,f,ln,b / 256,b % 256,u,pa,o,N3 e,(a.length:Int)]:List Int).map b8)++str a=str H):=by
  show _=_;rw[Dw y,Qs]
 have E:H.length=11+a.length:=Dw q;have S:∀w,(Op.stringOp .add (str (([k,c,f,ln,b / 256,b % 256,u,pa,o,N3 e,(a.length:Int)]:List Int).map b8)) (str a)).run prog w=.ok (.string (str H)) w:=λw=>by
  rw[<-Dw N];exact C6 w _ _ (by rw[Er,Er];simp;omega)
 have T:∀w,(Op.stringOp .add (str H) (str (EU (Kb H)))).run prog w=.ok (.string (str (H++EU (Kb H)))) w:=λw=>by
  rw[<-Dw O];exact C6 w _ _ (by rw[Er,Er];simp[EU];omega)
 clear E;generalize Kb H=C at *;generalize str (H++EU C)=ST at *;generalize str (EU C)=S2 at *;generalize str H=SH at *;generalize str (([k,c,f,ln,b / 256,b % 256,u,pa,o,N3 e,(a.length:Int)]:List Int).map b8)=SN at *;have ab:((str a).size:Int)=(a.length:Int):=by rw[Er]
 generalize str a=SB at *;obtain⟨c0,c1,c2,c3,c4,c5,c6,c7,c8,c9⟩:=Yy s;have J:=Dx h;have r:Hid ((i.alloc (.cells (([k,c,f,ln,b / 256,b % 256,u,pa,o,N3 e,(a.length:Int)]:List Int).map (Value.int .i64)).toArray 3)).drew.heap[w.heap.size]?=some (.cells #[Z k,Z c,Z f,Z ln,Z b,Z u,Z pa,Z o,.bool e,.string SB] 82)):=(AL _ _ _ U).trans s;have g:=Dx ((G.alloc U (.cells (([k,c,f,ln,b / 256,b % 256,u,pa,o,N3 e,(a.length:Int)]:List Int).map (Value.int .i64)).toArray 3)).drew);clear y q A h;clear s;cases e;all_goals
  first|rw[show N3 true=1 from rfl]at j r g|rw[show N3 false=0 from rfl]at j r g
  go_enter func187,ntmps187;go_wp2_with fail
  rw[Dw J];go_region_held3 (λm=>m.cell? (EN w 0)=some (Z k)/\m.cell? (EN w 1)=some (Z c)/\m.cell? (EN w 2)=some (Z f)/\m.cell? (EN w 3)=some (Z ln)/\m.cell? (EN w 4)=some (Z b)/\m.cell? (EN w 5)=some (Z u)/\m.cell? (EN w 6)=some (Z pa)/\m.cell? (EN w 7)=some (Z o)/\m.cell? (EN w 9)=some (.string SB)) (go_keep)
   ((go_at_call 235;rw[Dw L,Dw M];refine cm j λn l=>?_;have aa:=l.size;have d:=(l.block w.heap.size Fy).trans (Dw r);have f0:n.cell? (EN w 0)=some (Z k):=EI d 0;have f1:n.cell? (EN w 1)=some (Z c):=EI d 1;have f2:n.cell? (EN w 2)=some (Z f):=EI d 2;have f3:n.cell? (EN w 3)=some (Z ln):=EI d 3;have f4:n.cell? (EN w 4)=some (Z b):=EI d 4;have f5:n.cell? (EN w 5)=some (Z u):=EI d 5;have f6:n.cell? (EN w 6)=some (Z pa):=EI d 6;have f7:n.cell? (EN w 7)=some (Z o):=EI d 7;have f9:n.cell? (EN w 9)=some (.string SB):=EI d 9;clear d;have t:=Dx (g.trans (l.mono Fy));clear l))
  go_wp2_with fail
  refine cm (K _) λw2 B=>?_
  have v:=Dx (t.trans (B.mono t.size));clear B;go_wp2_with fail
  refine cm (P _) λw3 D=>?_
  have F:=Dx (v.trans (D.mono v.size));clear D;go_wp2
  go_ret
  exact⟨I,F⟩
theorem dZ:(prog.info? 278).map (λi=>(i.zero,i.size,i.bytes))=some (some (.agg #[Z 0,.string ⟨#[]⟩,DI]),3,32):=EL
theorem Zu{S:Ab}(j:Nat)(u:Ad)(h:([Z host,.string S,DI]:Ae)[j]?=u):(w.alloc (.cells #[Z host,.string S,DI] 278)).cell? (((EN w 0):Addr).add j)=u:=by grind [Addr.add_lit,World.cell?_alloc_new]
def Jy(w:Aa)(x:Nat)(c:R.Cf)(v:RV)(fl:List R.Fl)(w':Aa):Prop:=∃K,w'.ownsRow 0 278 3 K fl (tab FN fl)/\w'.heap[x]?=some (.cells (Iv c {v with Fl:=K}) 186 (0,0))/\DF (λk=>k=x\/v.Fl.ownBlock=k) w w'/\∀j,K.ownBlock=some j->v.Fl.ownBlock=j\/w<=j
theorem RM.zb(h:RM x v F G w)(c:Jy w x G.c v fl w'):∃b a,RM x b a {G with D:=fl} w'/\D8 F a w w':=by grind [Jy,RM.Ms]
theorem RW.zb(h:RW x v F G w)(b:R.Wf {G with D:=fl})(d:Jy w x G.c v fl w'):∃c a,RW x c a {G with D:=fl} w'/\D8 F a w w':=by
 have⟨c,a,e,f⟩:=h.toRM.zb d;exact⟨c,a,⟨e,b,h.g⟩,f⟩
theorem gD{c:R.Cf}{to:Int}(hx:w.heap[x]?=some (.cells (Iv c v) 186 (0,0)))(d:w.ownsRow 0 278 3 v.Fl fl (tab FN fl))(hl:fl.length<40)(hr:EC pk):
  D7 131 #[Ey x,Z to,pv pk] w Ep λz=>Jy w x c v (fl++[⟨to,Gq pk,false⟩]) z:=by
 obtain⟨a,W,C⟩:=Fa d;obtain⟨m,H⟩:∃m,fl.length=m:=DK;have ab:(m:Int)<40:=U;rw[H]at C;obtain⟨i0,hi,P,Q,S⟩:=A1 dZ;have A:=Dx (λw=>Ph pk w hr);obtain⟨B,q⟩:∃B,B=str (Gq pk):=DR;obtain⟨G,r⟩:∃G,G=tab FN fl:=DR;have e:Hid (∀(z:Aa) (K:Ad),z.ownsRow 0 278 3 K (m+1) (G++[Z to,.string B,DI])->z.heap[x]?=some (.cells (Iv c {v with Fl:=K}) 186 (0,0))->DF (λk=>k=x\/v.Fl.ownBlock=some k) w z->(∀j,K.ownBlock=some j->v.Fl.ownBlock=some j\/w.heap.size<=j)->Jy w x c v (fl++[⟨to,Gq pk,false⟩]) z):=λz K X h2 h3 h4=>⟨K,by
  rw[Jn,AJ,H,<-r];rw[q]at X;exact X,h2,h3,h4⟩
 rw[<-q]at A;rw[H,<-r,C]at d;generalize Jy w x c v (fl++[⟨to,Gq pk,false⟩])=Post at *;have h:w.heap[x]?=some (.cells [Z c.b,Z c.a,Z c.c,Z c.e,Z c.d,v.N,v.S,v.V,.slice a m W,v.C,EJ v.L 3 3,EJ v.Sn 9 9,v.J].toArray 186 (0,0)):=by
  rw[hx,<-C]
 rw[C]at e;clear r H hl hx q C;obtain⟨k,cl,li,ln,sq,u,pa,o,pl,l⟩:=pk;show ET 131 #[Ey x,Z to,.agg #[Z k,Z cl,Z li,Z ln,Z sq,Z u,Z pa,Z o,.bool pl,.string (str l)]] w _;obtain⟨J,p⟩:∃J,w.alloc (.cells #[Z k,Z cl,Z li,Z ln,Z sq,Z u,Z pa,Z o,.bool pl,.string (str l)] 82)=J:=DK;have T:Hid (DY w J):=by
  rw[<-p];exact ku
 have N:=Dv h;have x8:=EI h 8;obtain⟨L,M,n⟩:=Ll p h d;clear p h d;go_enter func131,ntmps131;go_wp2_with fail
 rw[Dw L];refine cm (A _) λw1 E=>?_
 have t:=T.trans (E.mono T.size);have y:=(t.block x N).trans (Dw M);have y8:=EI y 8;have aa:=Dv y;have g:=Dx t;clear E t y x8;go_wp2_with (at_builtin;go_must (refine AQ _ I (.tmp 19) (.tmp 23) 181 I 0 278 i0 (.agg #[Z 0,.string ⟨#[]⟩,DI]) 3 32 underlying181 hi P Q S I Em (.slice a m W) m G I (by exact(ER n g).alloc _) (EN w1 0) 1 1 [Z to,.string B,DI] I I (by exact Zu) Vd JG U U ?_))
 intro v' wz f b _ D;obtain⟨va,vn,vc,O⟩:=Ei f;subst O;have s:DY w (w1.alloc (.cells #[Z to,.string B,DI] 278)):=g.alloc g.size _;have i:=Kd M n Em s b;have F:=OQ (o:=8) M n Em s b f D (by have:=g.size;simp;omega);obtain⟨d1,d2,d3,d4⟩:=F;have HP:=Dx (e _ _ d1 d2 d3 d4);have g8:=EI i 8;have gz:=Hf i 8;have ac:=Dv i;clear f b D i d1 d2 d3 d4 s e y8;go_wp2_with fail
 go_returns;exact⟨I,HP⟩
theorem gy{to:Int}(x8:EB w x 8 (.slice a 40 cc)):D7 131 #[Ey x,Z to,pv pk] w Ep (DY w):=by
 have hl:=Gv x8
 delta D7
 go_in
 go_wp2;go_returns;exact⟨I,F9⟩
theorem RM.UL(h:RM x v F G w)(k:G.D.length<=40)to(d:Pk)(l:EC d):D7 131 #[Ey x,Z to,pv d] w Ep λb=>∃j f,RM x j f (R.E9 G to d) b/\D8 F f w b/\j.zc=v.zc:=by
 unfold R.E9;by_cases hl:G.D.length<40
 .rw[Ay hl];refine cm (gD h.bx h.X hl l) λb n=>?_
  exact⟨I,(by grind [Jy,RM.YV])⟩
 .rw[Ao hl];have⟨a,m,g⟩:=Fa h.X;have c:G.D.length=40:=U;rw[c]at g;refine(gy (ED h.bx 8 _ (by rw[<-g];rfl))).mono ?_;rintro e b ⟨rfl,i⟩;exact⟨I,v,F,h.h i,D8.J F i,I⟩
theorem RM.send(h:RM x v F G w)(b:G.D.length<=40)to(a:Pk)(c:EC a):D7 131 #[Ey x,Z to,pv a] w Ep λw'=>∃v' F',RM x v' F' (R.E9 G to a) w'/\D8 F F' w w':=by
 refine cm (h.UL b to a c) ?_;exact wV
theorem ai(G:R.Wd)to(a:Pk):(R.E9 G to a).c=G.c/\(R.E9 G to a).C=G.C/\(R.E9 G to a).J=G.J/\(R.E9 G to a).d=G.d:=by grind [R.E9]
theorem RW.UL(h:RW x v F G w)to(a:Pk)(e:EC a):D7 131 #[Ey x,Z to,pv a] w Ep λd=>∃c b,RW x c b (R.E9 G to a) d/\D8 F b w d/\c.zc=v.zc:=by
 refine cm (h.toRM.UL h.wf.X to a e) ?_;rintro d ⟨c,b,f,g,i⟩;refine⟨I,c,b,⟨f,h.wf.J e,?_⟩,g,i⟩;have⟨e1,e2,e3,e4⟩:=ai G to a;rw[e1,e2,e3,e4];exact h.g
theorem RW.send(h:RW x v F G w)to(a:Pk)(b:EC a):D7 131 #[Ey x,Z to,pv a] w Ep λw'=>∃v' F',RW x v' F' (R.E9 G to a) w'/\D8 F F' w w':=by
 refine cm (h.UL to a b) ?_;exact wV
theorem Rc{α:Type}{l:List α}{y:α}(h:l[i]?=y):l.set i y=l:=by grind [List.set_getElem_self]
theorem K4{α β:Type}{f:α->β}{l:List α}{m:List β}(h:l.map f=m){y:β}(a:m[i]?=y):∃z,l[i]?=some z/\f z=y:=by grind
structure Tk(x:Nat)(v:RV)(F:D9)(G:R.Wd)(w:Aa)(i:Nat)(c:R.Cl)(g cap:Nat)(z:R.Cl×CE)(zl:List (R.Ln×Value)):Prop where
 hC:v.C=EJ g G.b.length cap
 hz:v.zc[i]?=some z
 hc:z.1=c
 hzl:zl.map (·.1)=c.a
 lt:g<w.heap.size
 c0:w.cell? (Y g (i*3))=some (Z c.b)
 c1:w.cell? (Y g (i*3+1))=some z.2.bv
 c2:w.cell? (Y g (i*3+2))=some (EJ z.2.lb c.a.length c.a.length)
 x9:w.cell? (Y x 9)=some (EJ g G.b.length cap)
 lb:w.heap[z.2.lb]?=some (.cells (tab Ui zl).toArray 222 (0,0))
 rs:∀y∈zl,Rs w F y.2 y.1
theorem RM.at(h:RM x v F G w)(hc:G.b[i]?=c):∃g cap z j,Tk x v F G w i c g cap z j:=by
 have⟨z,hz,f⟩:=K4 h.zc hc;have d:v.zc.length=G.b.length:=by rw[<-h.zc,AX]
 have⟨g,cap,hC,e,a,_⟩:=Jx P5 U h.cl hz;have⟨j,l1,l2,l3⟩:=h.ln i z hz;rw[d]at hC;have b:=f;refine⟨g,cap,z,j,⟨hC,hz,b,by rw[l1,b],e,?_,?_,?_,?_,l2,l3⟩⟩
 .have:=a 0 (Z z.1.b) U I;rw[b]at this;exact this
 .exact a 1 z.2.bv U I
 .have:=a 2 (EJ z.2.lb z.1.a.length z.1.a.length) U I;rw[b]at this;exact this
 .exact ED h.bx 9 _ (by rw[<-hC];rfl)
theorem RW.at(h:RW x v F G w)(hc:G.b[i]?=c):∃g cap z a,Tk x v F G w i c g cap z a:=h.toRM.at hc
theorem Tk.Zd(h:Tk x v F G w i c g cap z zl)(hl:c.a[k]?=l):∃V,zl[k]?=some (l,V)/\Rs w F V l/\∀j u,j<11->(Ui (l,V))[j]?=some u->EB w z.2.lb (k*11+j) u:=by
 have⟨y,b,a⟩:=K4 h.hzl hl;have e:=h.rs y (Ap b);have⟨m,f⟩:=y;simp only at a;subst a;refine⟨f,b,e,λj u d hu=>?_⟩;have:=Jh jO zl k j _ b d;rw[hu]at this;exact E7 h.lb this
theorem Tk.H(h:Tk x v F G w i c g cap z zl)(hl:c.a[k]?=l)(d:l.d≠2):zl[k]?=(l,Dz)/\l.D=[]/\∀j u,j<11->(Ui (l,Dz))[j]?=some u->EB w z.2.lb (k*11+j) u:=by
 have⟨V,f,a,m⟩:=h.Zd hl;have b:=a.no d;have n:V=.slice none 0 0:=by
  rcases a.it with ⟨_,e⟩|⟨_,_,_,_,e,_⟩
  .exact e
  .exact absurd b e
 grind
def RV.h(v:RV):List Nat:=v.zc.map λz=>z.2.lb
theorem RV.eU(h:v'.zc=v.zc):v'.h=v.h:=by unfold RV.h;rw[h]
theorem RM.M5(h:RM x v F G w)(hc:G.b[i]?=c)(r:Tk x v F G w i c g cap z zl)(N:Rs w F V' l')(hk:DF (λb=>b=z.2.lb) w w')(P:Dy w' z.2.lb (tab Ui (zl.set k (l',V'))).toArray 222):∃O K,RM x O K (R.Eh G i k l') w'/\D8 F K w w'/\O.h=v.h:=by
 have⟨f1,f2,f3⟩:=h.A;have hi:=GG hc;have o:=r.lb;have s:∀{b:Nat} {ys:Array Value} {t:Ag},Dy w b ys t->t≠222->¬b=z.2.lb:=λD L e=>by
  subst e;exact ES D o L I
 have u:∀{n size:Nat} {e:Ag} {M:Ad} {xs:Ae},w.ownsRow 0 e size M n xs->e≠222->∀j,M.ownBlock=some j->¬j=z.2.lb:=λN L j hj=>by
  grind [J3]
 have hz:=r.hz;have l:∀(j:Nat) (y:R.Cl×CE),(v.zc.set i ({c with a:=c.a.set k l'},z.2))[j]?=some y->∃f,v.zc[j]?=some f/\y.2=f.2/\y.1.d=f.1.d/\(i≠j->y=f)/\(i=j->y=({c with a:=c.a.set k l'},z.2)/\f=z):=λj y d=>by
  rw[Bf]at d;by_cases m:i=j
  .subst m;rw[Ay I,Ay (GG hz)]at d;cases d;exact⟨z,hz,I,by rw[r.hc],λq=>absurd I q,λ_=>⟨I,I⟩⟩
  grind
 have hC:tab bD (v.zc.set i ({c with a:=c.a.set k l'},z.2))=tab bD v.zc:=by
  have e:bD ({c with a:=c.a.set k l'},z.2)=(bD z).set 0 (Z c.b):=by
   simp[bD,<-r.hc]
  rw[<-J6 P5 v.zc i 0 z _ (Z c.b) hz U e];rw[<-r.hc];exact Rc (Jh P5 v.zc i 0 z hz U)
 refine⟨{v with zc:=v.zc.set i ({c with a:=c.a.set k l'},z.2)},F,⟨hk.at h.bx (s h.bx Em),hk.row h.e (u h.e Em),hk.row h.f (u h.f Em),h.zs,hk.row h.a (u h.a Em),h.c.keep hk (λo q=>s o (by rcases q with rfl|rfl|rfl<;>decide)) (λ_ q=>q),hk.row h.X (u h.X Em),?_,?_,λj y d=>?_,λj y d=>?_,hk.at h.C (s h.C Em),hk.at h.J (s h.J Em),h.A,h.rows,λj y d=>?_,h.sL,λa b y y' d H C=>?_,λk E=>Ai (h.lt k E) hk.size⟩,⟨hk.mono (λb _ e=>by rw[e];exact(h.b i z hz).1),λ_ E=>Aj E⟩,?_⟩
 .have:(R.Eh G i k l').b=G.b.set i {c with a:=c.a.set k l'}:=by
   apply BF;intro j
   grind [R.Ft]
  rw[this,<-h.zc,C4]
 .show w'.ownsRow 0 189 3 v.C (v.zc.set i _).length _;rw[hC,BG];exact hk.row h.cl (u h.cl Em)
 .have⟨f,p,A,Q,_⟩:=l j y d;rw[A,Q];exact hk.row (h.d j f p) (u (h.d j f p) Em)
 .have⟨f,p,A,_,S,T⟩:=l j y d;by_cases m:i=j
  .have⟨e1,e2⟩:=T m;rw[e1];refine⟨zl.set k (l',V'),by rw[C4,r.hzl],P,λy d=>?_⟩;rcases BJ d with q|q
   .exact(r.rs y q).keep hk (λb B _ o=>s o Em) (λ_ q=>q)
   .rw[q];exact N.keep hk (λb B _ o=>s o Em) (λ_ q=>q)
  .rw[S m];have⟨J,l1,l2,l3⟩:=h.ln j f p;exact⟨J,l1,hk.at l2 ((h.inj j i f z p hz (λe=>m e.symm)).1),λy d=>(l3 y d).keep hk (λb B _ o=>s o Em) (λ_ q=>q)⟩
 .have⟨f,p,A,_⟩:=l j y d;rw[A];exact h.b j f p
 .have⟨f,p,A,_⟩:=l a y d;have⟨y1,W,X,_⟩:=l b y' H;rw[A,X];exact h.inj a b f y1 p W C
 grind [RV.h,List.map_set,Rc]
theorem RM.mB(h:RM x v F G w)(hc:G.b[i]?=c)(f:Tk x v F G w i c g cap z zl)(j:Rs w F V' l')(hk:DF (λb=>b=z.2.lb) w w')(e:Dy w' z.2.lb (tab Ui (zl.set k (l',V'))).toArray 222):∃d a,RM x d a (R.Eh G i k l') w'/\D8 F a w w':=by grind [RM.M5]
theorem RW.Qk(h:RW x v F G w)(hc:G.b[i]?=c)(j:Tk x v F G w i c g cap z zl)(d:R.O0 l')(l:l'.D=[])(hk:DF (λb=>b=z.2.lb) w w')(f:Dy w' z.2.lb (tab Ui (zl.set k (l',Dz))).toArray 222):∃e a,RW x e a (R.Eh G i k l') w'/\D8 F a w w':=by
 have⟨e,a,m,n⟩:=h.toRM.mB hc j (Rs.nil w F l) hk f;exact⟨e,a,⟨m,h.wf.h d,h.g⟩,n⟩
theorem LB(l:Ac)(a b:Nat):(str l).extract a b=str ((l.drop a).take (b-a)):=by
 exact wO
theorem Ma(s:Ac)(k:Nat)(hk:8*k<=s)(e:s.length<=1000)(w:Aa):D7 193 #[.string (str s),Z k] w (.tuple #[.string (str (R.EY s k)),Z (R.DL s)]) λd=>d=w:=by
 have c:=Er s;have e1:IntKind.i64.wrap ((s.length:Int)+7)=(s.length:Int)+7:=Iz;have e2:IntKind.i64.wrap (((s.length:Int)+7).tdiv 8)=R.DL s:=by
  unfold R.DL;rw[show (s.length:Int)+7=((s.length+7:Nat):Int) by omega,show (8:Int)=((8:Nat):Int) from rfl,<-Int.ofNat_tdiv,BS];omega
 have e3:IntKind.i64.wrap (8*(k:Int))=8*(k:Int):=Iz;have e4:IntKind.i64.wrap (8*(k:Int)+8)=8*(k:Int)+8:=Iz;obtain⟨f,g,h,i⟩:(0:Int)<=8*(k:Int)/\(8*(k:Int)).toNat=8*k/\(8*(k:Int)+8).toNat=8*k+8/\(0:Int)<=8*(k:Int)+8:=U;by_cases hl:(s.length:Int)<=8*(k:Int)+8
 .have a:str (R.EY s (k:Int))=(str s).extract (8*k) s.length:=by
   rw[LB];unfold R.EY;rw[AY,A7 Fy,A7 Ev]
  rw[a];exact ko
 .have a:str (R.EY s (k:Int))=(str s).extract (8*k) (8*k+8):=by
   rw[LB];unfold R.EY;rw[AY,Nat.add_sub_cancel_left]
  have b:8*k+8<=s.length:=U;rw[a];exact ko
theorem XL{lb:Nat}{to b cm:Ab}(hi:i<n)(hk:k<nl)(x9:w.cell? (Y x 9)=EJ g n cap)(c0:w.cell? (Y g (i*3))=Z life)(c2:w.cell? (Y g (i*3+2))=EJ lb nl nl)
  (l0:w.cell? (Y lb (k*11))=Z seq) (l1:w.cell? (Y lb (k*11+1))=Z state) (l2:w.cell? (Y lb (k*11+2))=some (.slice ra rn rc)) (l3:w.cell? (Y lb (k*11+3))=Z uid) (l4:w.cell? (Y lb (k*11+4))=some (.string to)) (l5:w.cell? (Y lb (k*11+5))=some (.string b)) (l6:w.cell? (Y lb (k*11+6))=Z acked) (l7:w.cell? (Y lb (k*11+7))=some (.string cm)) (l8:w.cell? (Y lb (k*11+8))=Z pieces) (l9:w.cell? (Y lb (k*11+9))=Z wait) (l10:w.cell? (Y lb (k*11+10))=Z tries):
  D7 130 #[Ey x,Z i,Z k,Z kind] w (.agg #[Z kind,Z i,Z life,Z k,Z seq,Z uid,Z 0,Z 1,DI,.string ⟨#[]⟩]) (DY w):=by
 obtain⟨e,f,h,j⟩:0<=(i:Int)/\(i:Int)<n/\0<=(k:Int)/\(k:Int)<nl:=U;have⟨d,c,hl⟩:=Va x9 c0 l0
 delta D7
 go_in
 go_wp2_with fail
 go_region_held3 (λa=>a.cell? (Y x 9)=some (EJ g n cap)/\a.cell? (Y g (i*3))=some (Z life)/\a.cell? (DG w 0)=some (Z seq)/\a.cell? (DG w 3)=some (Z uid)) (go_keep) (fail)
 go_wp2;go_returns;exact⟨I,((F9.alloc Ev _).drew)⟩
structure xX(w:Aa)(lb k:Nat)(l:R.Ln):Prop where
 l0:w.cell? (Y lb (k*11))=some (Z l.a)
 l1:w.cell? (Y lb (k*11+1))=some (Z l.d)
 l2:∃a n c,w.cell? (Y lb (k*11+2))=some (.slice a n c)
 l3:w.cell? (Y lb (k*11+3))=some (Z l.c)
 l4:w.cell? (Y lb (k*11+4))=some (.string l.to)
 l5:w.cell? (Y lb (k*11+5))=some (.string (str l.b))
 l6:w.cell? (Y lb (k*11+6))=some (Z l.X)
 l7:w.cell? (Y lb (k*11+7))=some (.string (str l.H))
 l8:w.cell? (Y lb (k*11+8))=some (Z l.f)
 l9:w.cell? (Y lb (k*11+9))=some (Z l.C)
 l10:w.cell? (Y lb (k*11+10))=some (Z l.e)
theorem Tk.cells(h:Tk x v F G w i c g cap z zl)(hl:c.a[k]?=l):xX w z.2.lb k l:=by
 have⟨V,_,b,hc⟩:=h.Zd hl;exact⟨hc 0 _ U I,hc 1 _ U I,by
  have⟨a,n,e,_⟩:=b.it.J;exact⟨a,_,n,by rw[<-e];exact hc 2 _ U I⟩,hc 3 _ U I,hc 4 _ U I,hc 5 _ U I,hc 6 _ U I,hc 7 _ U I,hc 8 _ U I,hc 9 _ U I,hc 10 _ U I⟩
theorem xX.h{lb:Nat}(h:xX w lb k l)(b:DY w w'):xX w' lb k l:=by
 have hl:=Gv h.l0;exact⟨(b.cell (p:=Y lb _) hl).trans h.l0,(b.cell (p:=Y lb _) hl).trans h.l1,by
  have⟨a,n,c,e⟩:=h.l2;exact⟨a,n,c,(b.cell (p:=Y lb _) hl).trans e⟩,(b.cell (p:=Y lb _) hl).trans h.l3,(b.cell (p:=Y lb _) hl).trans h.l4,(b.cell (p:=Y lb _) hl).trans h.l5,(b.cell (p:=Y lb _) hl).trans h.l6,(b.cell (p:=Y lb _) hl).trans h.l7,(b.cell (p:=Y lb _) hl).trans h.l8,(b.cell (p:=Y lb _) hl).trans h.l9,(b.cell (p:=Y lb _) hl).trans h.l10⟩
theorem RW.Xz(h:RW x v F G w)(hc:G.b[i]?=c)(hl:c.a[k]?=l)kind:
  D7 130 #[Ey x,Z i,Z k,Z kind] w (.agg #[Z kind,Z i,Z c.b,Z k,Z l.a,Z l.c,Z 0,Z 1,DI,.string ⟨#[]⟩]) (DY w):=by
 have⟨g,cap,z,f,a⟩:=h.at hc;have q:=a.cells hl;have⟨b,e,d,l2⟩:=q.l2;exact XL (GG hc) (GG hl) a.x9 a.c0 a.c2 q.l0 q.l1 l2 q.l3 q.l4 q.l5 q.l6 q.l7 q.l8 q.l9 q.l10
theorem XO(w:Aa)(x:Nat)(a:Af)(n cap:Nat)(cl li:Int)(x9:EB w x 9 (.slice a n cap))(h:cl<0\/n<=cl):D7 128 #[Ey x,Z cl,Z li] w (.tuple #[.agg #[Z 0,Z 0,Dz],Z 13]) (DY w):=by
 have d:=Gv x9;by_cases b:cl<0
 .exact kq
 .have c:(n:Int)<=cl:=U;exact kq
theorem gE(x1:EB w x 1 (Z ln))(x9:EB w x 9 (.slice a n cap))(b:¬cl<0)(c:¬n<=cl)(h:li<0\/ln<=li):D7 128 #[Ey x,Z cl,Z li] w (.tuple #[.agg #[Z 0,Z 0,Dz],Z 14]) (DY w):=by
 have f:=Gv x9;by_cases d:li<0
 .exact kq
 .have e:ln<=li:=U;exact kq
theorem vr{lb:Nat}(hi:i<n)(hk:k<nl)(x1:EB w x 1 (Z nl))(x9:EB w x 9 (EJ g n cap))(c2:EB w g (i*3+2) (EJ lb nl nl))(a:xX w lb k l)(l2:EB w lb (k*11+2) (.slice ra rn rc)):D7 128 #[Ey x,Z i,Z k] w (.tuple #[.agg #[Z l.d,Z l.a,.slice ra rn rc],Z 0]) (DY w):=by
 obtain⟨m,o,p,q,e,f,h,j⟩:0<=(i:Int)/\(i:Int)<n/\0<=(k:Int)/\(k:Int)<nl/\¬(i:Int)<0/\¬(n:Int)<=i/\¬(k:Int)<0/\¬(nl:Int)<=k:=U;have⟨d,c,b⟩:=Va x9 c2 a.l0;have⟨l0,l1,_,l3,l4,l5,l6,l7,l8,l9,l10⟩:=a
 delta D7
 go_in
 go_wp2;go_returns;exact⟨I,F9.alloc Ev _⟩
theorem RW.x9(h:RW x v F G w):∃a cap,EB w x 9 (.slice a G.b cap):=by
 exact abl
theorem RW.status(h:RW x v F G w)(cl li:Int):∃t y u,Gg w F (.slice t y u) (R.KI G cl li).2.2.1/\∀e,DY w e->D7 128 #[Ey x,Z cl,Z li] e (.tuple #[.agg #[Z (R.KI G cl li).1,Z (R.KI G cl li).2.1,.slice t y u],Z (R.KI G cl li).2.2.2]) (DY e):=by
 unfold R.KI;by_cases q:cl<0\/(G.b.length:Int)<=cl
 .rw[Ay q];refine⟨none,0,0,Gg.nil w F,λe b=>?_⟩;have⟨a,cap,x9⟩:=(h.h b).x9
  grind [XO]
 .rw[Ao q];by_cases f:li<0\/G.c.a<=li
  .rw[Ay f];refine⟨none,0,0,Gg.nil w F,λe b=>?_⟩;have⟨a,cap,x9⟩:=(h.h b).x9;exact gE (ED (h.h b).bx 1 _ I) x9 U U f
  .rw[Ao f];obtain⟨i,rfl⟩:∃i:Nat,cl=(i:Int):=⟨cl.toNat,U⟩;obtain⟨k,rfl⟩:∃k:Nat,li=(k:Int):=⟨li.toNat,U⟩;have hi:i<G.b.length:=U;obtain⟨c,hc⟩:∃c,G.b[i]?=some c:=⟨_,Ah hi⟩;have n:=(h.wf.cl i c hc).a;obtain⟨l,hl⟩:∃l,c.a[k]?=some l:=⟨_,Ah U⟩;have⟨g,o,z,C,d⟩:=h.at hc;have⟨V,_,s,j⟩:=d.Zd hl;have⟨A,B,r,_⟩:=s.it.J;rw[R.FH hc hl];have l2:=j 2 V U I;rw[r]at l2;refine⟨A,_,B,by rw[<-r];exact s.it,λe b=>?_⟩;have m:=Dv d.lb;exact vr hi (GG hl) (by rw[n];exact ED (h.h b).bx 1 _ I) ((b.cell (p:=Y x 9) (Dv h.bx)).trans d.x9) ((b.cell (p:=Y g _) d.lt).trans d.c2) ((d.cells hl).h b) ((b.cell (p:=Y z.2.lb _) m).trans l2)
namespace V
theorem nR(s:Ab)(hc:(Pt.O7 (nx s) s).1=0)(V:Ad)(v:List It)(w:Aa)(b:Ff w V v)(hn:v.length<=9000000000000):D7 178 #[.string s,V] w (.bool (IG s v).isSome) (DY w):=by
 have c:=Nw hc;have⟨a,cap,d,_,_⟩:=id b;have e:=Wx s V v c.size hn (s.size+1) 0 0 w c.ok (AV _) b;have HF:=YT s V a cap v w d _ e;rw[De,jD]at HF;unfold IG;cases he:Hg (nx s) (s.size+1) 0 v with
 |none=>
  simp only[he]at HF;exact HF
 |some x=>
  have⟨f,r⟩:=x;simp only[he]at HF;cases r with
  |cons y r=>exact HF
  |nil=>exact HF
theorem Ux(s:Ab)(hc:(Pt.O7 (nx s) s).1=0)(V:Ad)(v:List It)(w:Aa)(d:Ff w V v)(hn:v.length<=9000000000000){out:Ac}(a:IG s v=out):D7 179 #[.string s,V] w (.string ⟨out.toArray⟩) (DY w):=by
 have b:=Nw hc;unfold IG at a;cases he:Hg (nx s) (s.size+1) 0 v with
 |none=>rw[he]at a;cases a
 |some x=>
  have⟨c,r⟩:=x;rw[he]at a;cases r with
  |cons y r=>cases a
  |nil=>
   cases a;have⟨e,f⟩:=Hs _ _ _ _ _ _ he;have⟨s1,s2⟩:=QO s _ _ b.ok _ _ _ he;have hl:c.length=v.length:=by grind [List.length_drop]
   have h:10 ^ Pt.Lj (nx s) (s.size+1) 0<=10 ^ 4:=CS Em b.a;have g:=Ue s2 hl;have i:=Ws s V v w b.size hn d (s.size+1) 0 Dz [] c [] w b.ok ⟨AZ _ _ _ _,AA _ _⟩ he
   grind [VH]
end V
theorem Sk(w:Aa)(x g n cap i lb k B:Nat)life(l:R.Ln)(Ga P:Bool)(r:Nat)(v:l.X=r)(O:8*r<=l.b)(G:l.b.length<=72)(hi:i<n)(hk:k<B)(x9:EB w x 9 (EJ g n cap))(c2:EB w g (i*3+2) (EJ lb B B))(E:xX w lb k l)(q:World->Prop)(c:P=(Ga || decide (l.X<R.DL l.b-1)))
  (j:Hid (D7 130 #[Ey x,Z i,Z k,Z 1] w (.agg #[Z 1,Z i,Z life,Z k,Z l.a,Z l.c,Z 0,Z 1,DI,.string ⟨#[]⟩]) λz=>DY w z))
  (a:Hid (∀W,DY w W->D7 131 #[Ey x,Z (-1),.agg #[Z 1,Z i,Z life,Z k,Z l.a,Z l.c,Z l.X,Z (R.DL l.b),.bool P,.string (str (R.EY l.b l.X))]] W Ep λz=>q z)):
  D7 129 #[Ey x,Z i,Z k,.bool Ga] w Ep λz=>q z:=by
 have m:=Dx (λw=>Ma l.b r O U w);have q0:0<=(i:Int):=U;have q1:(i:Int)<n:=U;have q2:0<=(k:Int):=U;have q3:(k:Int)<B:=U;obtain⟨hx,hg,ae⟩:=Va x9 c2 E.l0;have ah:IntKind.i64.wrap (R.DL l.b-1)=R.DL l.b-1:=by
  unfold R.DL;rw[BS];omega
 rw[v]at a c;generalize R.DL l.b=pn at *;generalize str (R.EY l.b (r:Int))=pb at *;obtain⟨K,L,J⟩:=Ll E x9 c2;clear O G E x9 c2;cases Ga;all_goals
  first|rw[Bool.false_or]at c|rw[Bool.true_or]at c
  delta D7
  go_in
  go_wp2_with fail
  refine cm j λs b=>?_
  have x9:=(b.cell (p:=Y x 9) hx).trans (Dw L);have c2:=(b.cell (p:=Y g _) hg).trans (Dw J);have F:=K.h b;obtain⟨l0,l1,⟨ra,rn,rc,l2⟩,l3,l4,l5,l6,l7,l8,l9,l10⟩:=F;rw[v]at l6;obtain⟨ak,ac,N⟩:=Va x9 c2 l0;have f:=Dx b;clear b K L J j;obtain⟨t,h⟩:∃t,(s.alloc (.cells #[Z 1,Z i,Z life,Z k,Z l.a,Z l.c,Z r,Z 1,DI,.string ⟨#[]⟩] 82)).alloc (.cells #[Z l.a,Z l.d,.slice ra rn rc,Z l.c,.string l.to,.string (str l.b),Z r,.string (str l.H),Z l.f,Z l.C,Z l.e] 222)=t:=DK;have d:t.heap[s.heap.size]?=some (.cells [Z 1,Z i,Z life,Z k,Z l.a,Z l.c,Z r,Z 1,DI,.string ⟨#[]⟩].toArray 82 (0,0)):=by
   rw[<-h,AL _ _ _ Ev];exact AF s _
  have u:DY w t:=by
   rw[<-h];exact(f.alloc f.size _).alloc (by have:=f.size;simp;omega) _
  obtain⟨b6,b7,S,b9,b0⟩:=bC d 6 7 8 9 0;obtain⟨b1,b2,b3,b4,b5⟩:=bC d 1 2 3 4 5;have A:∀o,t.frozen? (EN s o)=false:=λo=>Hf d o
  have T:=A 7;have X:=A 8;have aa:=A 9;have ad:=Dv d;obtain⟨C,D⟩:=FU u h;clear d u h A;go_wp2_with fail
  rw[Dw D];refine cm (m _) λw2 y=>?_
  rw[y];clear y m l0 l1 l2 l3 l4 l5 l6 l7 l8 l9 l10 x9 c2;go_wp2_with fail
  rw[<-c];clear c;refine(a _ (by
   have H:=f.size;exact((C.setCell (p:=EN s 9) H _).setCell (p:=EN s 7) H _).setCell (p:=EN s 8) H _)).mono ?_
  rintro e w4 ⟨rfl,M⟩;have Q:=Dx M;clear M a;go_wp2_with fail
  go_returns;exact⟨I,Q⟩
theorem RW.UK(h:RW x v F G w)(hc:G.b[i]?=c)(hl:c.a[k]?=l)(o:l.d=1)(r:l.X<R.DL l.b)(Ga:Bool):
  D7 129 #[Ey x,Z i,Z k,.bool Ga] w Ep λn=>∃d b,RW x d b (R.EG G i k Ga) n/\D8 F b w n/\d.zc=v.zc:=by
 have⟨g,cap,z,J,f⟩:=h.at hc;have⟨B,C,A,D,E,H⟩:=((h.wf.cl i c hc).H k l hl).one o;obtain⟨e,j⟩:∃e:Nat,l.X=(e:Int):=⟨l.X.toNat,U⟩;have q:=R.Pv h.wf hc hl o r Ga;have s:=R.MK (Ga:=Ga) (R.FH hc hl);have a:=R.GH hc;refine Sk w x g G.b.length cap i z.2.lb k c.a.length c.b l Ga _ e j ?_ A.2 (GG hc) (GG hl) f.x9 f.c2 (f.cells hl) _ I (Dx (h.Xz hc hl 1)) (Dx λW p=>?_)
 .grind [R.DL]
 .have m:pv (R.Ns G i k l Ga)=.agg #[Z 1,Z i,Z c.b,Z k,Z l.a,Z l.c,Z l.X,Z (R.DL l.b),.bool (Ga || decide (l.X<R.DL l.b-1)),.string (str (R.EY l.b l.X))]:=by
   rw[<-a];rfl
  rw[<-m];refine cm ((h.h p).UL (-1) (R.Ns G i k l Ga) q) ?_;rintro n ⟨d,b,t,u,y⟩;refine⟨I,d,b,?_,(D8.J F p).trans u,y⟩;rw[s];exact t
theorem RW.Wh(h:RW x v F G w)(hc:G.b[i]?=c)(hl:c.a[k]?=l)(a:l.d=1)(b:l.X<R.DL l.b)(Ga:Bool):
  D7 129 #[Ey x,Z i,Z k,.bool Ga] w Ep λw'=>∃v' F',RW x v' F' (R.EG G i k Ga) w'/\D8 F F' w w':=by
 refine cm (h.UK hc hl a b Ga) ?_;exact wV
theorem XB(w:Aa)(x:Nat)(a:Af)(n cap:Nat)(cl li uid b:Int)(V:Ad)(x9:EB w x 9 (.slice a n cap))(h:cl<0\/n<=cl):D7 127 #[Ey x,Z cl,Z li,Z uid,Z b,V] w (.tuple #[Z 0,Z 13]) λc=>c=w:=by
 have f:=Gv x9;by_cases d:cl<0
 .exact kp
 .have e:(n:Int)<=cl:=U;exact kp
theorem fG(w:Aa)(x:Nat)(a:Af)(n cap:Nat)(cl li uid b ln:Int)(V:Ad)(x1:EB w x 1 (Z ln))(x9:EB w x 9 (.slice a n cap))(d:¬cl<0)(e:¬n<=cl)(h:li<0\/ln<=li):D7 127 #[Ey x,Z cl,Z li,Z uid,Z b,V] w (.tuple #[Z 0,Z 14]) λc=>c=w:=by
 have i:=Gv x9;by_cases f:li<0
 .exact kp
 .have g:ln<=li:=U;exact kp
theorem Pf{l:List Int}{u:Int}(a:l[j]?=y):decide (u∈l.take (j+1))=(decide (u∈l.take j) || (y==u)):=by grind [List.take_add_one]
theorem fH(w:Aa)(x g n cap i k p r c cb:Nat)(q:Af)(uid B:Int)(V:Ad)(a:List Int)(hi:i<n)(hk:k<p)(hnb:a=c)(s:c<=9000000000000)(x1:w.cell? ⟨x,1,none⟩=some (.int .i64 p))(x9:w.cell? ⟨x,9,none⟩=some (.slice (some ⟨g,0,none⟩) n cap))(c1:w.cell? ⟨g,i*3+1,none⟩=some (.slice q c cb))(hB:∀(j:Nat) y,a[j]?=some y->q=some ⟨r,0,none⟩/\w.cell? ⟨r,j,none⟩=some (.int .i64 y))(d:uid ∉ a):
  Calls prog 127 #[Ey x,.int .i64 i,.int .i64 k,.int .i64 uid,.int .i64 B,V] w λe C=>e=.returned (.tuple #[.int .i64 0,.int .i64 15])/\C=w:=by
 have H:(0:Int)<=i:=by omega
 have J:(i:Int)<n:=by omega
 have K:¬(i:Int)<0:=by omega
 have L:¬(n:Int)<=i:=by omega
 have M:¬(k:Int)<0:=by omega
 have N:¬(p:Int)<=k:=by omega
 have G:=lt_of_cell x9;have E:=lt_of_cell c1;have v:=Dx hB;clear hB
 go_in
 go_wp2_with fail
 go_loopw [14,15] (λbv iv wr=>∃j:Nat,j<=c/\iv=.int .i64 (j:Int)/\bv=.bool (decide (uid∈a.take j))/\wr=w) (λ_ iv _=>c-(intOf iv).toNat)
 case atStart=>exact⟨0,AV _,I,by simp,I⟩
 case round=>
  obtain⟨j,F,rfl,rfl,o⟩:=hrel;subst o;by_cases z:j<c
  .obtain⟨y,t⟩:∃y,a[j]?=some y:=⟨_,Ah (by omega)⟩;have⟨m,D⟩:=(Dw v) j y t;subst m;have O:(0:Int)<=j:=by omega
   have P:(j:Int)<c:=by omega
   have f:=Pf (u:=uid) t;have b:decide (uid∈a.take j)=false:=by
    simp;exact λh=>d (CB h)
   have l:decide (uid∈a.take (j+1))=false:=by
    simp;exact λh=>d (CB h)
   have A:(y==uid)=false:=by
    rw[b,l]at f;simpa using f.symm
   rw[b];clear f b;go_wp2_with fail
   go_roundw
   case rel=>exact⟨j+1,by omega,by go_num,by rw[l],BR⟩
   case measure=>simp[intOf];omega
  .obtain rfl:j=c:=by omega
   have b:decide (uid∈a.take j)=false:=by
    simp;exact λh=>d (CB h)
   rw[b];clear b;go_wp2_with fail
   go_returns;exact DN
structure WE(w:Aa)(x g n cap i k nl gB nb cb gV nV cV lb u:Nat)(ab:Af)(bound:List Int)(kind rt tr:Int)(l:R.Ln):Prop where
 hi:i<n
 hk:k<nl
 hnb:bound.length=nb
 a:nb<=9000000000000
 x1:w.cell? (Y x 1)=some (Z nl)
 x2:w.cell? (Y x 2)=some (Z rt)
 x3:w.cell? (Y x 3)=some (Z tr)
 x7:w.cell? (Y x 7)=some (EJ gV nV cV)
 x9:w.cell? (Y x 9)=some (EJ g n cap)
 c1:w.cell? (Y g (i*3+1))=some (.slice ab nb cb)
 c2:w.cell? (Y g (i*3+2))=some (EJ lb nl nl)
 hB:∀(j:Nat) (y:Int),bound[j]?=some y->ab=some (Y gB 0)/\w.cell? (Y gB j)=some (Z y)
 hu:u<nV
 Ij:nV<=255
 vk:w.cell? (Y gV (u*3))=some (Z kind)
 ln:xX w lb k l
 z:∀o,w.frozen? (Y lb o)=false
 mem:((u:Int)+1)∈bound
 ne:lb≠x/\lb≠g
theorem nu(w:Aa){lb:Nat}(q:WE w x g n cap i k nl gB nb cb gV nV cV lb u ab bound kind rt tr l)o(V:Ad)e0(D:(e0==0)=false)(A B:Ab)(a:Hid (∀w,D7 119 #[Z kind,Z o] w (.tuple #[.string A,.string B,Z e0]) (DY w))):
  D7 127 #[Ey x,Z i,Z k,Z (u+1),Z o,V] w (.tuple #[Z 0,Z e0]) (DY w):=by
 have⟨hi,hk,hnb,m,x1,x2,x3,x7,x9,c1,c2,hB,hu,Ij,vk,h,hz,d,s⟩:=q;obtain⟨H,J,K,L,M,N,O,P⟩:0<=(i:Int)/\(i:Int)<n/\¬(i:Int)<0/\¬(n:Int)<=i/\¬(k:Int)<0/\¬(nl:Int)<=k/\0<=(u:Int)/\(u:Int)<nV:=U;have C:IntKind.i64.wrap ((u:Int)+1-1)=(u:Int):=Iz;have p:IntKind.i64.wrap (u:Int)=u:=Iz;have⟨G,E⟩:=KM x9 c1;have⟨HB,v,z⟩:=Ll hB h hz;clear hB h hz
 delta D7
 go_in
 go_wp2_with fail
 go_loopw [14,15] (λbv iv wr=>∃j:Nat,j<=nb/\iv=Z j/\bv=.bool (decide (((u:Int)+1)∈bound.take j))/\wr=w) (λ_ iv _=>nb-(intOf iv).toNat)
 case atStart=>exact⟨0,AV _,I,Ev,I⟩
 case round=>
  obtain⟨j,F,rfl,rfl,f⟩:=hrel;subst f;by_cases r:j<nb
  .exact adJ
  .obtain rfl:j=nb:=U;have c:decide (((u:Int)+1)∈bound.take j)=true:=by
    rw[A7 U];simpa using d
   rw[c];clear c;go_wp2_with fail
   refine cm (a _) λQ b=>?_
   have e:=Dx b;clear b;go_wp2_with fail
   go_returns;exact⟨I,e⟩
theorem Q0(w:Aa){lb:Nat}(J:WE w x g n cap i k nl gB nb cb gV nV cV lb u ab bound kind rt tr l)F(V:Ad)e0(a:Bool)(A B:Ab)(c:Hid (∀w,D7 119 #[Z kind,Z F] w (.tuple #[.string A,.string B,Z 0]) λS=>S=w))(d:Hid (D7 178 #[.string A,V] w (.bool a) (DY w)))(f:(a=false/\e0=4)\/(a=true/\l.d=1/\e0=17)\/(a=true/\(l.d==1)=false/\l.a=999/\e0=11)):
  D7 127 #[Ey x,Z i,Z k,Z (u+1),Z F,V] w (.tuple #[Z 0,Z e0]) (DY w):=by
 have⟨hi,hk,hnb,E,x1,x2,x3,x7,x9,c1,c2,hB,hu,Ij,vk,D,hz,q,O⟩:=J;obtain⟨p0,p1,p2,p3,p4,p5,p6,p7⟩:0<=(i:Int)/\(i:Int)<n/\¬(i:Int)<0/\¬(n:Int)<=i/\¬(k:Int)<0/\¬(nl:Int)<=k/\0<=(u:Int)/\(u:Int)<nV:=U;have eu:IntKind.i64.wrap ((u:Int)+1-1)=(u:Int):=Iz;have G:IntKind.i64.wrap (u:Int)=u:=Iz;have⟨P,K⟩:=KM x9 c1;have⟨HB,C,HZ⟩:=Ll hB D hz;clear hB D hz
 delta D7
 go_in
 go_wp2_with fail
 go_loopw [14,15] (λbv iv wr=>∃j:Nat,j<=nb/\iv=Z j/\bv=.bool (decide (((u:Int)+1)∈bound.take j))/\wr=w) (λ_ iv _=>nb-(intOf iv).toNat)
 case atStart=>exact⟨0,AV _,I,Ev,I⟩
 case round=>
  obtain⟨j,hj,rfl,rfl,z⟩:=hrel;subst z;by_cases N:j<nb
  .exact adJ
  .obtain rfl:j=nb:=U;have m:decide (((u:Int)+1)∈bound.take j)=true:=by
    rw[A7 U];simpa using q
   rw[m];clear m;have q2:0<=(k:Int):=U;have q3:(k:Int)<nl:=U;go_wp2_with fail
   refine cm (c _) λw2 r=>?_
   rw[r];clear r c;go_wp2_with fail
   refine cm d λT b=>?_
   have X:=(b.cell (p:=Y x 9) P).trans x9;have W:=(b.cell (p:=Y g _) K).trans c2;have⟨l0,l1,⟨ra,rn,rc,l2⟩,l3,l4,l5,l6,l7,l8,l9,l10⟩:=C.h b;have⟨Q,L,M⟩:=Va X W l0;have e:=Dx (show ∀o,Below _ _ (T.alloc o) from λo=>b.alloc b.size o);clear b d x1 x2 x3 x7 x9 c1 c2 vk HB C;rcases f with ⟨h,s⟩|⟨h,s,v⟩|⟨h,s,v,H⟩
   .subst h s;go_wp2_with fail
    go_returns;exact⟨I,e _⟩
   .subst h v;rw[s]at l1;go_wp2_with fail
    go_returns;exact⟨I,e _⟩
   .subst h H;rw[v]at l0;go_wp2_with fail
    go_returns;exact⟨I,e _⟩
abbrev vz(W:Aa)(lb k:Nat)(l:R.Ln):World:=((((((((((W.setCell (Y lb (k*11)) (Z l.a)).setCell (Y lb (k*11+1)) (Z l.d)).setCell (Y lb (k*11+2)) (.slice none 0 0)).setCell (Y lb (k*11+3)) (Z l.c)).setCell (Y lb (k*11+4)) (.string l.to)).setCell (Y lb (k*11+5)) (.string (str l.b))).setCell (Y lb (k*11+6)) (Z l.X)).setCell (Y lb (k*11+7)) (.string (str l.H))).setCell (Y lb (k*11+8)) (Z l.f)).setCell (Y lb (k*11+9)) (Z l.C)).setCell (Y lb (k*11+10)) (Z l.e)
theorem ny(w:Aa){lb:Nat}(hA:WE w x g n cap i k nl gB nb cb gV nV cV lb u ab bound kind rt tr l)pr(V:Ad)(A B:Ab)(two out:Ac)(H:World->Prop)(cz:(l.d==1)=false)(cu:(l.a==999)=false)(ct:0<=l.a/\l.a<=999)(bt:two+out.length<=100)
  (C:Hid (∀w,D7 119 #[Z kind,Z pr] w (.tuple #[.string A,.string B,Z 0]) λm=>m=w)) (E:Hid (D7 178 #[.string A,V] w DC (DY w))) (G:Hid (∀w,D7 192 #[Z pr] w (.string (str two)) (DY w))) (F:Hid (∀W,DY w W->D7 179 #[.string A,V] W (.string (str out)) (DY W)))
  (D:Hid (∀W,DY w W->D7 129 #[Ey x,Z i,Z k,DI] (vz W lb k ⟨l.a+1,1,[],u+1,B,two++out,0,[],0,rt,tr⟩) Ep λm=>H m/\∀b,w.heap.size<=b->b<W->m.heap[b]?=W.heap[b]?)):
  D7 127 #[Ey x,Z i,Z k,Z (u+1),Z pr,V] w (.tuple #[Z (l.a+1),Z 0]) λm=>H m:=by
 have⟨hi,hk,hnb,bz,x1,x2,x3,x7,x9,c1,c2,hB,hu,Ij,vk,hL,hz,ad,b5⟩:=hA;have⟨ae,ah⟩:=b5;have b6:=ae.symm;have b7:=ah.symm;have bp:=Gv hL.l0;obtain⟨p0,p1,p2,p3,p4,p5,p6,p7⟩:0<=(i:Int)/\(i:Int)<n/\¬(i:Int)<0/\¬(n:Int)<=i/\¬(k:Int)<0/\¬(nl:Int)<=k/\0<=(u:Int)/\(u:Int)<nV:=U;have eu:IntKind.i64.wrap ((u:Int)+1-1)=(u:Int):=Iz;have c7:IntKind.i64.wrap (u:Int)=u:=Iz;have⟨hx,hg⟩:=KM x9 c1;have⟨HB,HL,HZ⟩:=Ll hB hL hz;clear hB hL hz
 delta D7
 go_in
 go_wp2_with fail
 go_loopw [14,15] (λbv iv wr=>∃j:Nat,j<=nb/\iv=Z j/\bv=.bool (decide (((u:Int)+1)∈bound.take j))/\wr=w) (λ_ iv _=>nb-(intOf iv).toNat)
 case atStart=>exact⟨0,AV _,I,Ev,I⟩
 case round=>
  obtain⟨j,hj,rfl,rfl,bb⟩:=hrel;subst bb;by_cases cq:j<nb
  .exact adJ
  .obtain rfl:j=nb:=U;have aa:decide (((u:Int)+1)∈bound.take j)=true:=by
    rw[A7 U];simpa using ad
   rw[aa];clear aa;have q2:0<=(k:Int):=U;have q3:(k:Int)<nl:=U;have es:IntKind.i64.wrap (l.a+1)=l.a+1:=Iz;go_wp2_with fail
   refine cm (C _) λw2 am=>?_
   rw[am];clear am C;go_wp2_with fail
   refine cm E λz f=>?_
   have y9:=(f.cell (p:=Y x 9) hx).trans x9;have y2:=(f.cell (p:=Y g _) hg).trans c2;have aS:=HL.h f;have⟨l0,l1,⟨ra,rn,rc,l2⟩,l3,l4,l5,l6,l7,l8,l9,l10⟩:=aS;have⟨cC,co,cp⟩:=Va y9 y2 l0;obtain⟨W4,v⟩:∃W4,z.alloc (.cells #[Z l.a,Z l.d,.slice ra rn rc,Z l.c,.string l.to,.string (str l.b),Z l.X,.string (str l.H),Z l.f,Z l.C,Z l.e] 222)=W4:=DK;have h:DY wr W4:=by
    rw[<-v];exact f.alloc f.size _
   have M:Dy W4 z.heap.size #[Z l.a,Z l.d,.slice ra rn rc,Z l.c,.string l.to,.string (str l.b),Z l.X,.string (str l.H),Z l.f,Z l.C,Z l.e] 222:=by
    rw[<-v];exact AF z _
   have z9:=(h.cell (p:=Y x 9) hx).trans x9;have z2:=(h.cell (p:=Y g _) hg).trans c2;have zs:=EI M 0;have zr:=(h.cell (p:=Y x 2) hx).trans x2;have zt:=(h.cell (p:=Y x 3) hx).trans x3;have⟨S,P,av⟩:=Ll v h M;have⟨N,b1,ak⟩:=Va z9 z2 zs;have be:=f.size;have bS:lb≠z.heap.size:=U;have ba:z.heap.size≠lb:=U;clear f E x1 x2 x3 x7 x9 c1 c2 vk HB v h M;go_wp2_with fail
   rw[Dw S];clear y9 y2 l0 l1 l2 l3 l4 l5 l6 l7 l8 l9 l10 S;go_wp2_with fail
   have X:∀w,(Op.stringOp .add (str two) (str out)).run prog w=.ok (.string (str (two++out))) w:=λw=>by
    rw[<-Qs];exact C6 w _ _ (by rw[Er,Er];omega)
   go_region_held3 (λm=>m.cell? (Y x 9)=some (EJ g n cap)/\m.cell? (Y g (i*3+2))=some (EJ lb nl nl)/\m.cell? (EN z 0)=some (Z l.a)/\m.cell? (Y x 2)=some (Z rt)/\m.cell? (Y x 3)=some (Z tr)) (go_keep) (first|(go_at_call 192;refine(G _).mono ?_;clear G;rintro e w5 ⟨rfl,J⟩;have c:=Mg J;have a9:=(c.cell (p:=Y x 9) N).trans z9;have a2:=(c.cell (p:=(Y g (i*3+2))) b1).trans z2;have aq:=(c.cell (p:=EN z 0) ak).trans zs;have ar:=(c.cell (p:=Y x 2) N).trans zr;have T:=(c.cell (p:=Y x 3) N).trans zt;have O:=Gv a9;have b3:=Gv a2;have al:=Gv aq;have L:=Dx (P.trans (c.mono P.size));have Q:=Dx ((c.block _ ak).trans av);clear c J)|(go_at_call 179;refine(F _ L).mono ?_;clear F;rintro e w6 ⟨rfl,d⟩;have b9:=(d.cell (p:=Y x 9) O).trans a9;have b2:=(d.cell (p:=(Y g (i*3+2))) b3).trans a2;have bq:=(d.cell (p:=EN z 0) al).trans aq;have br:=(d.cell (p:=Y x 2) O).trans ar;have az:=(d.cell (p:=Y x 3) O).trans T;have s:=Dx (L.trans (d.mono L.size));have r:=Dx ((d.block _ al).trans Q);have aV:=HL.h (Dw s);have⟨l0,l1,⟨cD,cI,cE,l2⟩,l3,l4,l5,l6,l7,l8,l9,l10⟩:=aV;have a:∀o,DJ w6 lb o:=λo=>(s.frozen (p:=Y lb o) (Gv HL.l0)).trans (HZ o);have f0:=a (k*11);have f1:=a (k*11+1);have f2:=a (k*11+2);have f3:=a (k*11+3);have f4:=a (k*11+4);have f5:=a (k*11+5);have f6:=a (k*11+6);have f7:=a (k*11+7);have f8:=a (k*11+8);have f9:=a (k*11+9);have aN:=a (k*11+10);clear d a))
   have q:=Dx (D w6 s);have b4:=Dv (Dw r);clear D a9 a2 aq ar T b9 b2 bq br az f0 f1 f2 f3 f4 f5 f6 f7 f8 f9 aN l0 l1 l2 l3 l4 l5 l6 l7 l8 l9 l10 z9 z2 zs zr zt HL HZ X;go_wp2_with fail
   refine cm q ?_;rintro w7 ⟨hP,ac⟩;have K:=(ac z.heap.size be b4).trans (Dw r);have s7:=EI K 0;have HP:=Dx hP;clear hP ac K q r s;go_wp2_with fail
   go_returns;exact⟨I,HP⟩
theorem FL{lb:Nat}{u V:Ad}(a:Dy w lb (tab Ui zl).toArray 222)(c:zl[k]?=(l,V))(b:j<11)(e:Ui (l1,V1)=(Ui (l,V)).set j u):Dy (w.setCell (Y lb (k*11+j)) u) lb (tab Ui (zl.set k (l1,V1))).toArray 222:=by
 rw[<-J6 jO zl k j _ _ u c b e];exact Ek a u
theorem RW.sP(h:RW x v F G w)(hc:G.b[i]?=c)(b:Tk x v F G w i c g cap z zl)(hl:c.a[k]?=l)(f:l.d=1)(t:1<l.C):∃s d,RW x s d (R.EM G i k) (w.setCell (Y z.2.lb (k*11+9)) (Z (l.C-1)))/\D8 F d w (w.setCell (Y z.2.lb (k*11+9)) (Z (l.C-1))):=by
 have⟨m,j,_⟩:=b.H hl U;have a:=(h.wf.cl i c hc).H k l hl;have⟨n,o,p,q,u,r⟩:=a.one f;have e:R.EM G i k=R.Eh G i k {l with C:=l.C-1}:=by grind [R.EM,R.FH]
 rw[e];exact h.Qk hc b (l':={l with C:=l.C-1}) ⟨a.a,λ_=>⟨n,o,p,q,by simp only;omega,r⟩⟩ j (Eg _) (FL b.lb m U I)
theorem RW.timeout(h:RW x v F G w)(hc:G.b[i]?=c)(a:Tk x v F G w i c g cap z zl)(hl:c.a[k]?=l)(r:l.d=1)(t:¬1<l.C)(s:l.e=0):∃p f,RW x p f (R.EM G i k) ((w.setCell (Y z.2.lb (k*11+9)) (Z (l.C-1))).setCell (Y z.2.lb (k*11+1)) (Z 3))/\D8 F f w ((w.setCell (Y z.2.lb (k*11+9)) (Z (l.C-1))).setCell (Y z.2.lb (k*11+1)) (Z 3)):=by
 have⟨m,o,_⟩:=a.H hl U;have b:=GG m;have e:=(h.wf.cl i c hc).H k l hl;have n:R.EM G i k=R.Eh G i k {l with C:=l.C-1,d:=3}:=by grind [R.EM,R.FH]
 rw[n];refine h.Qk hc a (l':={l with C:=l.C-1,d:=3}) ⟨e.a,λq=>absurd (show (3:Int)=1 from q) Em⟩ o ((Eg _).trans (Eg _)) ?_;have s1:=FL (l1:={l with C:=l.C-1}) a.lb m (j:=9) (u:=Z (l.C-1)) U I;have s2:=FL (l:={l with C:=l.C-1}) (l1:={l with C:=l.C-1,d:=3}) s1 (AO b) (j:=1) (u:=Z 3) U I;rw[A5]at s2;exact s2
theorem RW.Ga(h:RW x v F G w)(hc:G.b[i]?=c)(d:Tk x v F G w i c g cap z zl)(hl:c.a[k]?=l)(p:l.d=1)(B:¬l.e=0)(m:w'=((w.setCell (Y z.2.lb (k*11+9)) (Z (l.C-1))).setCell (Y z.2.lb (k*11+10)) (Z (l.e-1))).setCell (Y z.2.lb (k*11+9)) (Z G.c.c)):∃A n,RW x A n (R.Eh G i k {l with C:=G.c.c,e:=l.e-1}) w'/\D8 F n w w':=by
 have⟨o,q,_⟩:=d.H hl U;have a:=GG o;have b:=(h.wf.cl i c hc).H k l hl;have⟨r,s,t,y,D,E⟩:=b.one p;have f:=h.wf.cf;unfold R.GA at f;rw[m];refine h.Qk hc d (l':={l with C:=G.c.c,e:=l.e-1}) ⟨b.a,λ_=>⟨r,s,t,y,by simp only;omega,by simp only;omega⟩⟩ q (((Eg _).trans (Eg _)).trans (Eg _)) ?_;have s1:=FL (l1:={l with C:=l.C-1}) d.lb o (j:=9) (u:=Z (l.C-1)) U I;have s2:=FL (l:={l with C:=l.C-1}) (l1:={l with C:=l.C-1,e:=l.e-1}) s1 (AO a) (j:=10) (u:=Z (l.e-1)) U I;rw[A5]at s2;have s3:=FL (l:={l with C:=l.C-1,e:=l.e-1}) (l1:={l with C:=G.c.c,e:=l.e-1}) s2 (AO a) (j:=9) (u:=Z G.c.c) U I;rw[A5]at s3;exact s3
theorem RM.tQ(h:RM x v F G w){nm:List (List UInt8)}(hk:DF (λk=>k=x\/v.N.ownBlock=k) w w')(D:Dy w' x (Iv G.c {v with N:=K}) 186)(s:w'.ownsRow 0 9 1 K nm (KG nm))(O:∀j,K.ownBlock=some j->v.N.ownBlock=j\/w<=j):∃p,RM x {v with N:=K} p {G with e:=nm} w'/\D8 F p w w':=by
 have⟨r,A,B⟩:=h.A;have o:∀k,(k=x\/v.N.ownBlock=some k)->F k:=λk hk=>by
  rcases hk with rfl|hk
  .exact r
  .exact h.rows k (Aj hk)
 have g:∀{b:Nat} {J:Array Value} {t:Ag},Dy w b J t->t≠186->t≠9->¬(b=x\/v.N.ownBlock=some b):=λc m d e=>by
  rcases e with rfl|e
  .exact ES c h.bx m I
  .exact Fg h.e c (λq=>d q.symm) e
 have l:∀{n size:Nat} {e:Ag} {M:Ad} {H:Ae},w.ownsRow 0 e size M n H->e≠186->e≠9->∀j,M.ownBlock=some j->¬(j=x\/v.N.ownBlock=some j):=λs m d j f=>by
  grind [J3]
 refine⟨λk=>F k\/K.ownBlock=some k,⟨D,s,hk.row h.f (l h.f Em Em),h.zs,hk.row h.a (l h.a Em Em),h.c.keep hk (λc q=>g c (by rcases q with rfl|rfl|rfl<;>decide) (by rcases q with rfl|rfl|rfl<;>decide)) (λ_ q=>Aj q),hk.row h.X (l h.X Em Em),h.zc,hk.row h.cl (l h.cl Em Em),λi z hz=>hk.row (h.d i z hz) (l (h.d i z hz) Em Em),λi z hz=>?_,hk.at h.C (g h.C Em Em),hk.at h.J (g h.J Em Em),⟨Aj r,Aj A,Aj B⟩,λj f=>?_,λi z hz=>⟨Aj (h.b i z hz).1,λj f=>⟨Aj ((h.b i z hz).2 j f).1,((h.b i z hz).2 j f).2⟩⟩,h.sL,h.inj,λk a=>?_⟩,⟨hk.mono (λk _ a=>o k a),λk a=>?_⟩⟩
 .have⟨L,m,d,C⟩:=h.ln i z hz;exact⟨L,m,hk.at d (g d Em Em),λy E=>(C y E).keep hk (λb u _ c=>g c Em Em) (λ_ q=>Aj q)⟩
 .rcases f with q|q
  .exact Am q
  .exact Aj (h.rows j (Am q))
 .rcases a with a|a
  .exact Ai (h.lt k a) hk.size
  grind [J3]
 grind
theorem RM.Wo(h:RM x v F G w)(hk:DF (λk=>k=x\/v.S.ownBlock=k) w w')(C:Dy w' x (Iv G.c {v with S:=K}) 186)(B:w'.ownsRow 0 3 1 K st (GK st))(A:∀j,K.ownBlock=some j->v.S.ownBlock=j\/w<=j):∃r,RM x {v with S:=K} r {G with f:=st} w'/\D8 F r w w':=by
 have⟨s,u,E⟩:=h.A;have p:∀k,(k=x\/v.S.ownBlock=some k)->F k:=λk hk=>by
  rcases hk with rfl|hk
  .exact s
  .exact h.rows k (Am (Aj hk))
 have m:∀{b:Nat} {P:Array Value} {t:Ag},Dy w b P t->t≠186->t≠3->¬(b=x\/v.S.ownBlock=some b):=λd l g e=>by
  rcases e with rfl|e
  .exact ES d h.bx l I
  .exact Fg h.f d (λq=>g q.symm) e
 have o:∀{n size:Nat} {e:Ag} {M:Ad} {O:Ae},w.ownsRow 0 e size M n O->e≠186->e≠3->∀j,M.ownBlock=some j->¬(j=x\/v.S.ownBlock=some j):=λB l g j a=>by
  grind [J3]
 have N:¬(v.L=x\/v.S.ownBlock=some v.L):=λe=>by
  rcases e with e|e
  .rw[<-e]at C;exact ES h.C (e ▸ h.bx) Em I
  .exact h.sL e
 have L:∀(i:Nat) (z:R.Cl×CE),v.zc[i]?=some z->∀j,z.2.bv.ownBlock=some j->¬(j=x\/v.S.ownBlock=some j):=λi z hz j a e=>by
  rcases e with rfl|e
  .exact Fg (h.d i z hz) h.bx Em a
  .exact((h.b i z hz).2 j a).2.2 e
 refine⟨λk=>F k\/K.ownBlock=some k,⟨C,hk.row h.e (o h.e Em Em),B,h.zs,hk.row h.a (o h.a Em Em),h.c.keep hk (λd q=>m d (by rcases q with rfl|rfl|rfl<;>decide) (by rcases q with rfl|rfl|rfl<;>decide)) (λ_ q=>Aj q),hk.row h.X (o h.X Em Em),h.zc,hk.row h.cl (o h.cl Em Em),λi z hz=>hk.row (h.d i z hz) (L i z hz),λi z hz=>?_,hk.at h.C N,hk.at h.J (m h.J Em Em),⟨Aj s,Aj u,Aj E⟩,λj a=>?_,λi z hz=>⟨Aj (h.b i z hz).1,λj a=>⟨Aj ((h.b i z hz).2 j a).1,((h.b i z hz).2 j a).2.1,λe=>?_⟩⟩,λe=>?_,h.inj,λk c=>?_⟩,⟨hk.mono (λk _ c=>p k c),λk c=>?_⟩⟩
 .have⟨Q,l,g,H⟩:=h.ln i z hz;exact⟨Q,l,hk.at g (m g Em Em),λy J=>(H y J).keep hk (λb D _ d=>m d Em Em) (λ_ q=>Aj q)⟩
 .rcases a with q|q|q
  .exact Aj (h.rows j (Aj q))
  .exact Am q
  .exact Aj (h.rows j (Am (Am q)))
 .rcases A j e with q|q
  .grind
  .have:=h.lt j ((h.b i z hz).2 j a).1;omega
 .rcases A v.L e with q|q
  .exact h.sL q
  .have:=h.lt v.L u;omega
 .rcases c with c|c
  .exact Ai (h.lt k c) hk.size
  grind [J3]
 grind
theorem RM.kj(h:RM x v F G w){zs:List (R.Sv×Value)}(hk:DF (λk=>k=x\/v.V.ownBlock=k) w w')(H:Dy w' x (Iv G.c {v with V:=K}) 186)(u:w'.ownsRow 0 234 3 K zs (tab Ew zs))(E:∀k,F2 k->F k\/w<=k)(c:∀k,F k->F2 k)(s:∀k,F2 k->k<w')(m:QH w' F2 zs v.J G.d)(P:∀j,K.ownBlock=some j->v.V.ownBlock=j\/w<=j):∃p,RM x {v with V:=K,zs:=zs} p {G with a:=zs.map (·.1)} w'/\D8 F p w w':=by
 have⟨r,B,C⟩:=h.A;have o:∀k,(k=x\/v.V.ownBlock=some k)->F k:=λk hk=>by
  rcases hk with rfl|hk
  .exact r
  .exact h.rows k (Am (Am (Aj hk)))
 have g:∀{b:Nat} {N:Array Value} {t:Ag},Dy w b N t->t≠186->t≠234->¬(b=x\/v.V.ownBlock=some b):=λhb h1 h2 e=>by
  exact ace
 have f:∀{n size:Nat} {e:Ag} {M:Ad} {L:Ae},w.ownsRow 0 e size M n L->e≠186->e≠234->∀j,M.ownBlock=some j->¬(j=x\/v.V.ownBlock=some j):=λu h1 h2 j d=>by
  all_goals grind [J3]
 refine⟨λk=>F2 k\/K.ownBlock=some k,⟨H,hk.row h.e (f h.e Em Em),hk.row h.f (f h.f Em Em),I,u,m.keep (DF.refl (λ_=>False) w') (λ_ _ q=>q) (λ_ q=>Aj q),hk.row h.X (f h.X Em Em),h.zc,hk.row h.cl (f h.cl Em Em),λi z hz=>hk.row (h.d i z hz) (f (h.d i z hz) Em Em),λi z hz=>?_,hk.at h.C (g h.C Em Em),hk.at h.J (g h.J Em Em),⟨Aj (c _ r),Aj (c _ B),Aj (c _ C)⟩,λj d=>?_,λi z hz=>⟨Aj (c _ (h.b i z hz).1),λj d=>⟨Aj (c _ ((h.b i z hz).2 j d).1),((h.b i z hz).2 j d).2⟩⟩,h.sL,h.inj,λk l=>?_⟩,⟨hk.mono (λk _ l=>o k l),λk l=>?_⟩⟩
 .have⟨O,h1,h2,D⟩:=h.ln i z hz;exact⟨O,h1,hk.at h2 (g h2 Em Em),λy J=>(D y J).keep hk (λb A _ hb=>g hb Em Em) (λ_ q=>Aj (c _ q))⟩
 .rcases d with q|q|q|q
  .exact Aj (c _ (h.rows j (Aj q)))
  .exact Aj (c _ (h.rows j (Am (Aj q))))
  .exact Am q
  .exact Aj (c _ (h.rows j (Am (Am (Am q)))))
 all_goals grind [J3]
theorem nX(i:Nat)(hi:i<(str s))(h:(((str s)[i]'hi).toNat:Int)<97\/122<(((str s)[i]'hi).toNat:Int)):R.Gf s=false:=by
 have a:=K8 s i hi
 grind [R.Gf]
theorem fZ(a:1<=s.length)(b:s.length<=8)(h:∀(i:Nat) (hi:i<(str s)),97<=(((str s)[i]'hi).toNat:Int)/\(((str s)[i]'hi).toNat:Int)<=122):R.Gf s=true:=by grind [R.Gf,List.mem_iff_getElem?,Er,K8]
theorem PL(s:Ac)(w:Aa):D7 188 #[.string (str s)] w (.bool (R.Gf s)) λx=>x=w:=by
 have hz:=Er s;by_cases q:s.length<1
 .have o:R.Gf s=false:=by
   unfold R.Gf;simp;omega
  rw[o];have p:((str s).size:Int)<1:=U
  delta D7
  go_in
  go_wp2;go_returns;exact DN
 .by_cases r:8<s.length
  .have o:R.Gf s=false:=by
    unfold R.Gf;simp;omega
   rw[o];have p:¬((str s).size:Int)<1:=U;have v:8<((str s).size:Int):=U
   delta D7
   go_in
   go_wp2;go_returns;exact DN
  .have f:=Dx (λi hi h=>nX (s:=s) i hi h);have g:=Dx (λh=>fZ (s:=s) U U h);generalize R.Gf s=res at *;generalize str s=S at *;obtain⟨n,hn⟩:∃n,S.size=n:=DK;have p:¬(n:Int)<1:=U;have v:¬8<(n:Int):=U;clear hz q r
   delta D7
   go_in
   go_wp2;go_loopw [3] (λiv wr=>∃i:Nat,i<=n/\iv=Z i/\wr=w/\∀(j:Nat) (d:j<S.size),j<i->97<=((S[j]'d).toNat:Int)/\((S[j]'d).toNat:Int)<=122) (λiv _=>n-(intOf iv).toNat)
   case atStart=>exact⟨0,AV _,I,I,λj _ d=>absurd d U⟩
   case round=>
    obtain⟨i,hi,rfl,rfl,c⟩:=hrel;have b:=Dx c;clear c;by_cases u:i<n
    .have k:i<S.size:=U;by_cases l:((S[i]'k).toNat:Int)<97
     .have a:=f i k (Aj l);subst a;go_wp2;go_returns;exact DN
     .by_cases m:122<((S[i]'k).toNat:Int)
      .have a:=f i k (Am m);subst a;go_wp2;go_returns;exact DN
      .go_wp2;go_roundw
       case rel=>exact⟨i+1,U,Kc,BR,λj d t=>by
        by_cases e:j=i
        .subst e;omega
        .exact b j d U⟩
       case measure=>exact Kt
    .obtain rfl:i=n:=U;have a:=g (λj d=>b j d U);subst a;go_wp2;go_returns;exact DN
theorem Nb{xs:Ae}(h:w.ownsRow 0 e size (EJ g n cap) n xs){u:Ad}(hu:xs[j]?=u):w.cell? (Y g j)=u:=by
 exact abV
def Jv(l:List (List UInt8))(name:Ac):Int:=match l.findIdx? (·==name) with
 |none=>-1
 |some k=>(k:Int)
theorem dF{l:List (List UInt8)}(h:∀(j:Nat) (y:Ac),l[j]?=y->y≠name):Jv l name=-1:=by grind [Jv,List.mem_iff_getElem?]
theorem dG{l:List (List UInt8)}(hi:l[i]?=name)(h:∀(j:Nat) (y:Ac),j<i->l[j]?=y->y≠name):Jv l name=i:=by
 unfold Jv;have⟨hl,e⟩:=Bi.1 hi;have:l.findIdx? (·==name)=some i:=by grind [List.findIdx?_eq_some_iff_getElem]
 rw[this]
theorem ZP{l:List (List UInt8)}(hn:l=n)(t:n<=1000)(A:EB w x 5 (.slice a n cap))(hc:∀(i:Nat) (y:Ac),l[i]?=y->∃g,a=Y g 0/\EB w g i (.string (str y))):D7 189 #[Ey x,.string (str name)] w (Z (Jv l name)) λz=>z=w:=by
 have C:=Gv A;have⟨q,k,f⟩:=Ll hc (dF (l:=l) (name:=name)) (λi=>dG (l:=l) (name:=name) (i:=i));generalize Jv l name=res at *;clear hc
 delta D7
 go_in
 go_wp2;go_loopw [5] (λiv wr=>∃i:Nat,i<=n/\iv=Z i/\wr=w/\∀(j:Nat) (y:Ac),j<i->l[j]?=some y->y≠name) (λiv _=>n-(intOf iv).toNat)
 case atStart=>exact⟨0,AV _,I,I,λj _ h=>absurd h U⟩
 case round=>
  obtain⟨i,hi,rfl,o,d⟩:=hrel;subst o;have b:=Dx d;clear d;by_cases s:i<n
  .obtain⟨y,p⟩:∃y,l[i]?=some y:=⟨_,Ah U⟩;have⟨g,r,B⟩:=q i y p;subst r;have D:0<=(i:Int):=U;have E:(i:Int)<n:=U;by_cases m:y=name
   .subst m;have c:=f i p (Dw b);subst c;go_wp2;go_returns;exact DN
   .have v:(y==name)=false:=by simpa using m
    go_wp2;go_roundw
    case rel=>exact⟨i+1,U,Kc,BR,λj u h hu=>by
     by_cases e:j=i
     .subst e;rw[p]at hu;cases hu;exact m
     .exact b j u U hu⟩
    case measure=>exact Kt
  .obtain rfl:i=n:=U;have c:=k (λj y h=>b j y (by have:=(GG h);omega) h);subst c;go_wp2;go_returns;exact DN
theorem RM.entry(h:RM x v F G w)(m:G.e.length<=6)(name:Ac):D7 189 #[Ey x,.string (str name)] w (Z (Jv G.e name)) λk=>k=w:=by
 have⟨a,cap,d⟩:=Fa h.e;refine ZP I U (ED h.bx 5 _ (by rw[<-d];rfl)) (λi y j=>?_);have b:=h.e;rw[d]at b;have hi:=GG j;rcases b.2 with ⟨_,l⟩|⟨g,c,e,o,_,n,_,_,_,f⟩;all_goals grind [Nb,KG]
theorem RM.Gi(_:RM x v F G w)(name:Ac):Jv G.e name=(match R.Gi G name with|none=>-1|some k=>k):=rfl
theorem RM.q(h:RM x v F G w)(hk:DF (λk=>k=v.Sn) w w')(f:Dy w' v.Sn (tab Rk sn).toArray 227):RM x v F {G with J:=sn} w'/\D8 F F w w':=by
 have⟨m,o,c⟩:=h.A;have nb:∀{b:Nat} {l:Array Value} {t:Ag},Dy w b l t->t≠227->¬b=v.Sn:=λhb h1 e=>by
  subst e;exact ES hb h.J h1 I
 have a:∀{n size:Nat} {e:Ag} {M:Ad} {g:Ae},w.ownsRow 0 e size M n g->e≠227->∀j,M.ownBlock=some j->¬j=v.Sn:=λr h1 j p=>by
  grind [J3]
 refine⟨⟨hk.at h.bx (nb h.bx Em),hk.row h.e (a h.e Em),hk.row h.f (a h.f Em),h.zs,hk.row h.a (a h.a Em),h.c.keep hk (λhb q=>nb hb (by rcases q with rfl|rfl|rfl<;>decide)) (λ_ q=>q),hk.row h.X (a h.X Em),h.zc,hk.row h.cl (a h.cl Em),λi z hz=>hk.row (h.d i z hz) (a (h.d i z hz) Em),λi z hz=>?_,hk.at h.C (nb h.C Em),f,h.A,h.rows,h.b,h.sL,h.inj,λk d=>Ai (h.lt k d) hk.size⟩,⟨hk.mono (λk _ e=>by rw[e];exact c),λ_ q=>Aj q⟩⟩;exact abD
theorem RM.Zf(h:RM x v F G w)(hk:DF (λk=>k=v.L) w w')(g:Dy w' v.L (GK lv).toArray 3):RM x v F {G with C:=lv} w'/\D8 F F w w':=by
 have⟨o,d,p⟩:=h.A;have nb:∀{b:Nat} {m:Array Value} {t:Ag},Dy w b m t->t≠3->¬b=v.L:=λhb h1 e=>by
  subst e;exact ES hb h.C h1 I
 have c:∀{n size:Nat} {e:Ag} {M:Ad} {l:Ae},w.ownsRow 0 e size M n l->e≠3->∀j,M.ownBlock=some j->¬j=v.L:=λr h1 j a=>by
  grind [J3]
 refine⟨⟨hk.at h.bx (nb h.bx Em),hk.row h.e (c h.e Em),hk.row h.f (λj a e=>h.sL (e ▸ a)),h.zs,hk.row h.a (c h.a Em),h.c.keep hk (λhb q=>nb hb (by rcases q with rfl|rfl|rfl<;>decide)) (λ_ q=>q),hk.row h.X (c h.X Em),h.zc,hk.row h.cl (c h.cl Em),λi z hz=>hk.row (h.d i z hz) (λj a=>((h.b i z hz).2 j a).2.1),λi z hz=>?_,g,hk.at h.J (nb h.J Em),h.A,h.rows,h.b,h.sL,h.inj,λk f=>Ai (h.lt k f) hk.size⟩,⟨hk.mono (λk _ e=>by rw[e];exact d),λ_ q=>Aj q⟩⟩;exact abD
theorem RM.jN(h:RM x v F G w){js:List R.Jb}(A:∀k,F2 k->F k\/w<=k)(a:∀k,F k->F2 k)(r:∀k,F2 k->k<w')(hk:DF (λk=>k=x\/F k/\∃l,Dy w k l 229) w w')(N:Dy w' x (Iv G.c {v with J:=J}) 186)(c:Yb w' F2 J js):RM x {v with J:=J} F2 {G with d:=js} w'/\D8 F F2 w w':=by
 have⟨C,E,H⟩:=h.A;have p:∀{b:Nat} {l:Array Value} {t:Ag},Dy w b l t->t≠186->t≠229->¬(b=x\/F b/\∃l,Dy w b l 229):=λg o f e=>by
  rcases e with rfl|⟨_,l,e⟩
  .exact ES g h.bx o I
  .exact ES g e f I
 have q:∀{n size:Nat} {e:Ag} {M:Ad} {O:Ae},w.ownsRow 0 e size M n O->e≠186->e≠229->∀j,M.ownBlock=some j->¬(j=x\/F j/\∃l,Dy w j l 229):=λL o f j c=>by
  have⟨m,hc⟩:=J3 L c;exact p hc o f
 have B:QH w' F2 v.zs J js:=⟨λz hz=>?_,h.c.apart,c⟩
 .refine⟨⟨N,hk.row h.e (q h.e Em Em),hk.row h.f (q h.f Em Em),h.zs,hk.row h.a (q h.a Em Em),B,hk.row h.X (q h.X Em Em),h.zc,hk.row h.cl (q h.cl Em Em),λi z hz=>hk.row (h.d i z hz) (q (h.d i z hz) Em Em),λi z hz=>?_,hk.at h.C (p h.C Em Em),hk.at h.J (p h.J Em Em),⟨a _ C,a _ E,a _ H⟩,λj c=>a _ (h.rows j c),λi z hz=>⟨a _ (h.b i z hz).1,λj c=>⟨a _ ((h.b i z hz).2 j c).1,((h.b i z hz).2 j c).2⟩⟩,h.sL,h.inj,r⟩,⟨hk.mono (λk _ e=>?_),A⟩⟩
  .have⟨P,o,f,s⟩:=h.ln i z hz;exact⟨P,o,hk.at f (p f Em Em),λy u=>(s y u).keep hk (λb m _ g=>p g Em Em) a⟩
  .rcases e with rfl|e
   .exact C
   .exact e.1
 .have⟨⟨D,o,f,s⟩,K⟩:=h.c.c z hz;exact⟨⟨D,o,hk.row f (q f Em Em),λy u=>⟨(s y u).1.keep hk (λb m _ g=>p g Em Em) a,(s y u).2.keep hk (λb m _ g=>p g Em Em) a⟩⟩,λj c=>a _ (K j c)⟩
theorem RW.q(h:RW x v F G w)(hk:DF (λk=>k=v.Sn) w w')(e:Dy w' v.Sn (tab Rk sn).toArray 227)(f:R.MX G.c G.C sn G.d):RW x v F {G with J:=sn} w'/\D8 F F w w':=by
 have⟨b,d⟩:=h.mem.q hk e;have a:=h.wf;exact⟨b.whole ⟨a.cf,a.a,λi c hc=>⟨(a.cl i c hc).a,(a.cl i c hc).b,(a.cl i c hc).d,(a.cl i c hc).H⟩,a.X,a.b,a.sv,a.e,a.nm,a.st,a.nd,a.d⟩ f,d⟩
structure iZ(w:Aa)(sn i:Nat)(r:R.Sn):Prop where
 s0:w.cell? (Y sn (i*10))=some (Z r.a)
 s1:w.cell? (Y sn (i*10+1))=some (Z r.c)
 s2:w.cell? (Y sn (i*10+2))=some (.string (str r.b))
 s3:w.cell? (Y sn (i*10+3))=some (Z r.f)
 s4:w.cell? (Y sn (i*10+4))=some (Z r.d)
 s5:w.cell? (Y sn (i*10+5))=some (.string (str r.D))
 s6:w.cell? (Y sn (i*10+6))=some (Z r.at')
 s7:w.cell? (Y sn (i*10+7))=some (.bool r.g)
 s8:w.cell? (Y sn (i*10+8))=some (Z r.C)
 s9:w.cell? (Y sn (i*10+9))=some (Z r.e)
theorem Kg{r:R.Sn}(h:Dy w b (tab Rk sn).toArray 227)(c:sn[i]?=r):iZ w b i r:=by
 have hc:∀j u,j<10->(Rk r)[j]?=some u->EB w b (i*10+j) u:=λj u a hu=>by
  have:=Jh XT sn i j r c a
  grind [E7]
 exact⟨hc 0 _ U I,hc 1 _ U I,hc 2 _ U I,hc 3 _ U I,hc 4 _ U I,hc 5 _ U I,hc 6 _ U I,hc 7 _ U I,hc 8 _ U I,hc 9 _ U I⟩
theorem Fz{r:R.Sn}{u:Ad}(h:Dy w b (tab Rk sn).toArray 227)(c:sn[i]?=r)(a:j<10)(e:Rk r1=(Rk r).set j u):Dy (w.setCell (Y b (i*10+j)) u) b (tab Rk (sn.set i r1)).toArray 227:=by
 rw[<-J6 XT sn i j r r1 u c a e];exact Ek h u
theorem Yt{v:Ad}(h:o≠o'):(w.setCell (Y b o) v).cell? (Y b o')=w.cell? (Y b o'):=by grind [World.cell?_setCell_other]
end Go.Proofs.YtblomippkddgiabGreatDoor
