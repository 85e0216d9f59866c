import Derived.Test.YtblomippkddgiaaGreatDoorJ34
set_option maxRecDepth 100000
set_option maxHeartbeats 1000000
namespace Go.Proofs.YtblomippkddgiaaGreatDoor
open Go.Proofs.Tryz
open Go.RowKit
variable {S v1:ByteArray}{F:D9}{at' by' v0:Int}{fl:List R.Fl}{v:List R.It}{xs:List Value}{c cap cc g i m n x:Nat}{a:Option Addr}{p:Pl}{M:R.Bk}{f:R.Fl}{G:R.Wd}{K:Value}{w:World}
theorem ki{A B size:Nat}{e:Ag}{v:Ad}(h:w.ownsRow A e size v n xs)(hB:B<=A):w.ownsRow B e size v n xs:=by
 refine⟨h.1,?_⟩;rcases h.2 with q|⟨g,cap,j,u,y,D⟩
 ·exact Aj q
 ·exact Am ⟨g,cap,j,u,Br hB y,D⟩
theorem TB:∀(e:List Bool) (v:List V.It),e.length=v.length->v.length<=(V.Et e v).length
 |[],[],_=>Ar _
 |[],_ :: _,h=>by simp at h
 |_ :: _,[],h=>by simp at h
 |k :: e,x :: v,h=>by
  have u:=TB e v (by simpa using h);have j:1<=(V.KL k x).length:=by
   cases k
   ·exact Nat.le_of_ble_eq_true rfl
   ·simp[V.KL,V.EU]
  simp only[V.Et,AJ,A4];omega
theorem yQ{g:Nat->Nat}{f p:Nat}{v:List V.It}{e:List Bool}(h:V.Hg g f p v=some (e,[])):e.length=v.length:=by
 have⟨j,u⟩:=V.Hs _ _ _ _ _ _ h
 grind [List.length_drop]
theorem KQ{t:Ab}{bs:Ac}(h:R.Fi t v=some bs):v.length<=70:=by
 have⟨hc,y,u,e,j⟩:=V.JO (R.JK h)
 grind [TB,yQ]
def bH(o:Option R.En)(w:Aa)(e:Ending)(w':Aa):Prop:=(match o with
 |none=>e=.returned (.tuple #[.agg jy.toArray,.int .i64 9])
 |some x=>∃X Yq,e=.returned (.tuple #[.agg #[.int .i64 x.DJ,.int .i64 x.DR,.int .i64 x.DZ,.int .i64 x.D4,.int .i64 x.Eo,X,Yq],.int .i64 0])/\V.Row w' w.heap.size X x.arg/\V.Row w' w.heap.size Yq x.DU/\∀j,X.ownBlock=some j->Yq.ownBlock≠some j)/\Below w.heap.size w w'
theorem VM{xa:Af}{xn xc:Nat}(hn:v.length<=1000)(h:∀u,DY w u->Gg u F (.slice xa xn xc) v):
  ∀u,DY w u->ET 74 #[.slice xa xn xc] u λe T=>(∃y D B,e=.returned (.slice y D B)/\(∀wb,DF (λk=>w.heap.size<=k/\k<u.heap.size) T wb->V.Row wb w.heap.size (.slice y D B) v)/\∀j,(Value.slice y D B).ownBlock=some j->u.heap.size<=j/\j<T.heap.size)/\DY u T:=by
 intro u hb;refine(Yx (h u hb) hn).mono ?_;rintro e T ⟨⟨O,rfl,Q,_⟩,X⟩;obtain⟨y,D,B,rfl⟩:=Ei Q;refine⟨⟨y,D,B,rfl,λwb hk=>?_,λj hj=>Ba Q j hj⟩,X⟩;have:=hk.row Q (λj hj q=>by have:=(Ba Q j hj).1;omega);exact ki this hb.size
theorem LW.adC(h:LW p F G w)(hI:R.Inv M G)(u k:Int):
  ET 80 #[ptr p.s,Z u,Z k] w (bH (R.Fq G u k) w):=by
 have hL:∀D,DY w D->D7 79 #[ptr p.s,Z u] D (.tuple #[Z (R.MJ G u).1,Z (R.MJ G u).2]) λT=>DY D T:=λD hb=>(h.DG hb).ae8 u
 have no:((R.MJ G u).2≠0\/k<0\/(R.MJ G u).1<=k)->R.Fq G u k=none->ET 80 #[ptr p.s,Z u,Z k] w (bH (R.Fq G u k) w):=λh1 h2=>by
  rw[h2];exact rK hL h1
 have hzl:p.t.zs.length=G.Dy.length:=by rw[<-h.Hd.zs,AX]
 have Lp:=h.wf.sv;by_cases hm:R.LY G u
 ·by_cases hk:0<=k/\k<((R.Ol G u).length:Int)
  ·have aq:=hm;unfold R.LY at aq;obtain⟨n,rfl⟩:∃n:Nat,u=(n:Int)+1:=⟨(u-1).toNat,U⟩;obtain⟨j,rfl⟩:∃j:Nat,k=(j:Int):=⟨k.toNat,U⟩;have hn:n<G.Dy.length:=U;have hs:=Ah hn;have⟨z,hz,aV⟩:=Rv h.Hd.zs hs;have⟨g,cap,ae,hK,hg,aN,k0,k1,k2,_⟩:=h.Hd.PG hz;have⟨es,he,ac,ab⟩:=(h.Hd.each z (Ap hz)).log;have am:R.Ol G ((n:Int)+1)=es.map (·.1):=by all_goals grind [R.Ol]
   rw[am,AX]at hk;have Q:j<es.length:=U;have aa:=Ah Q;have O:=CK Q;generalize es[j]=y at aa O;have ak:R.Fq G ((n:Int)+1) (j:Int)=some y.1:=by all_goals grind [R.Fq]
   have an:R.MJ G ((n:Int)+1)=((es.length:Int),0):=by all_goals grind [R.MJ]
   rw[an]at hL;rw[ak];have al:y.1∈G.Dy[n].log:=by all_goals grind
   have⟨d,rb,d1,d2,d3,d4,d5,d6⟩:=((hI.lg n _ hs).each y.1 al).some;have f1:y.1.arg.length<=1000:=by
    rw[d4];have:=KQ (hI.bk _ _ d1).1.bs;omega
   have f2:y.1.DU.length<=1000:=by
    have:=KQ d5;omega
   rcases ac.2 with ⟨_,h0⟩|⟨lb,dc,ad,ah,_,aS,av,_,_,ar⟩
   ·omega
   ·have q:∀c,c<7->ad[j*7+c]?=(IQ y)[c]?:=λc hc=>by
     rw[<-Jh Pz es j c y aa hc,<-ar,BI,Ay U];simp
    have cl:∀c v,c<7->(IQ y)[c]?=some v->w.cell? (Y lb (j*7+c))=some v:=λc v hc hv=>by
     all_goals grind [World.cell?]
    have B:∀{X:Ad} {l:List R.It},Gg w F X l->∃xa xn xc,X=.slice xa xn xc:=λhx=>by
     rcases hx with ⟨_,rfl⟩|⟨b,off,cap,ae,_,rfl,_⟩;all_goals grind
    have⟨i1,i2⟩:=ab y O;have e5:=cl 5 _ U rfl;have e6:=cl 6 _ U rfl;have⟨xa,xn,xc,hX⟩:=B i1;have⟨ya,yn,yc,hY⟩:=B i2;rw[hX]at i1 e5;rw[hY]at i2 e6;rw[ah]at k2;have keep:∀{X:Ad} {l:List R.It},Gg w F X l->∀D,DY w D->Gg D F X l:=λhx D hb=>hx.keep (DF.D6 hb (λ_=>False)) (λ_ _ _ _ q=>q) (λ_ q=>q)
    have h6:w.cell? (Y p.s 6)=some (EJ g p.t.zs.length cap):=by
     exact kt
    have ao:=Gv h6;refine(lP (λX T=>V.Row T w.heap.size X y.1.arg) (λX T=>V.Row T w.heap.size X y.1.DU) U Q k2 (cl 0 _ U rfl) (cl 1 _ U rfl) (cl 2 _ U rfl) (cl 3 _ U rfl) (cl 4 _ U rfl) e5 e6 hL (λD hb=>Nc D p.s g n p.t.zs.length cap ((hb.cell (p:=Y p.s 6) ao).trans h6) U U) (VM f1 (keep i1)) (VM f2 (keep i2))).mono ?_;rintro e T ⟨X,Yq,rfl,r1,r2,r3,r4⟩;exact⟨⟨X,Yq,rfl,r1,r2,r4⟩,r3⟩
  all_goals grind [R.MJ,R.Fq]
 all_goals grind [R.MJ,R.Fq]
theorem LW.entry(h:LW p F G w)(hI:R.Inv M G)(u k:Int):
  ET 45 #[ptr p.x,Z u,Z k] w (bH (R.Fq G u k) w):=by
 have x1:=EI h.bx 1;have az:=Gv x1;have HL:=Dx ((h.DG ((AA _ _).alloc (Ar _) (.cells jy.toArray 98))).adC hI u k);generalize R.Fq G u k=Zq at *;clear h hI;cases Zq with
 |none=>
  have D:Hid (D7 80 #[ptr p.s,Z u,Z k] (w.alloc (.cells jy.toArray 98)) (.tuple #[.agg #[Z 0,Z 0,Z 0,Z 0,Z 0,.slice none 0 0,.slice none 0 0],Z 9]) λw'=>Below (w.alloc (.cells jy.toArray 98)).heap.size (w.alloc (.cells jy.toArray 98)) w'):=Dw HL;clear HL;go_enter func45,ntmps45;go_wp2_with (go_at_call 80;refine cm D λw1 y=>?_;have⟨B,b4⟩:=Xc y;have⟨f0,f1,f2,f3,f4,f5,f6,fz,_⟩:=PD B (DF.refl _ w1);have ah:=Dv B;have HX:=Dx B;have HB:=Dx b4;clear y b4 B)
  refine EE _ (SQ HX (Z 0) (Z 0) (Z 0) (Z 0) (Z 0) (.slice none 0 0) (.slice none 0 0)) ?_;rintro W ⟨g0,g1,g2,g3,g4,g5,g6,gz,gk⟩;have HK:=Dx gk;clear gk;go_wp2
  (try simp only[Exit.inBlock,Exit.then])
  refine Bm (by simp[results,results45,go_sem,g0,g1,g2,g3,g4,g5,g6];try rfl) rfl ?_;exact⟨rfl,QL HB (Dw HK)⟩
 |some x=>
  have D:Hid (ET 80 #[ptr p.s,Z u,Z k] (w.alloc (.cells jy.toArray 98)) λe w'=>(∃Q xn T ya yn yc,e=.returned (.tuple #[.agg #[Z x.DJ,Z x.DR,Z x.DZ,Z x.D4,Z x.Eo,.slice Q xn T,.slice ya yn yc],Z 0])/\V.Row w' (w.heap.size+1) (.slice Q xn T) x.arg/\V.Row w' (w.heap.size+1) (.slice ya yn yc) x.DU/\∀j,(Value.slice Q xn T).ownBlock=some j->(Value.slice ya yn yc).ownBlock≠some j)/\Below (w.alloc (.cells jy.toArray 98)).heap.size (w.alloc (.cells jy.toArray 98)) w'):=by
   refine HL.mono ?_;rintro e w' ⟨⟨X,Yq,rfl,r1,r2,r3⟩,hb⟩;rw[show (w.alloc (.cells jy.toArray 98)).heap.size=w.heap.size+1 by simp]at r1 r2;obtain⟨Q,xn,T,rfl⟩:=Ei r1;obtain⟨ya,yn,yc,rfl⟩:=Ei r2;exact⟨⟨Q,xn,T,ya,yn,yc,rfl,r1,r2,r3⟩,hb⟩
  clear HL;go_enter func45,ntmps45;go_wp2_with (go_at_call 80;refine D.mono ?_;rintro e w1 ⟨⟨Q,xn,T,ya,yn,yc,rfl,r1,r2,r3⟩,y⟩;have⟨B,b4⟩:=Xc y;have⟨f0,f1,f2,f3,f4,f5,f6,fz,_⟩:=PD B (DF.refl _ w1);have ah:=Dv B;have HX:=Dx B;have HB:=Dx b4;have R1:=Dx r1;have R2:=Dx r2;have R3:=Dx r3;clear y b4 B r1 r2 r3)
  refine EE _ (SQ HX (Z x.DJ) (Z x.DR) (Z x.DZ) (Z x.D4) (Z x.Eo) (.slice Q xn T) (.slice ya yn yc)) ?_;rintro W ⟨g0,g1,g2,g3,g4,g5,g6,gz,gk⟩;have HK:=Dx gk;have HR:Hid (∀{O:Ad} {v:List V.It},V.Row w1 (w.heap.size+1) O v->V.Row W w.heap.size O v):=λ{O v} hR=>ki (HK.row hR (λj hj e=>by have:=(Ba hR j hj).1;omega)) U
  clear gk;go_wp2
  (try simp only[Exit.inBlock,Exit.then])
  refine Bm (by simp[results,results45,go_sem,g0,g1,g2,g3,g4,g5,g6];try rfl) rfl ?_;exact⟨⟨_,_,rfl,HR (Dw R1),HR (Dw R2),R3⟩,QL HB (Dw HK)⟩
theorem jK(h:R.Inv M G):∀(i:Nat) (c:R.Cl) (k:Nat) (l:R.Ln),G.DI[i]?=some c->c.DV[k]?=some l->l.DU.length<=1000:=λi c k l hc hl=>by
 by_cases u:l.DK=2
 ·have⟨d,e,B,_,j,y⟩:=(h.ln i c k l hc hl).done u;rw[y];have:=KQ j.bytes;omega
 ·rw[(h.ln i c k l hc hl).none u];simp
theorem vW(h:R.Inv M G)(cl li:Int):(R.KI G cl li).2.2.1.length<=1000:=by
 unfold R.KI
 grind [R.Ia,R.Vm,jK]
theorem Vh{w0:Aa}{z:Nat->Option Obj}{b N:Nat}{Ts:List Tw}{L:List V.Kp}{lv:Ad}(h:Hn w0 z b N Ts L lv K w){t:Tw}(hi:Ts[i]?=some t){o:LD}(hk:o.Dz=12)(hL:L.length<=1000000000000):
  D7 96 #[ptr b,t.val,o.val] w (.bool true) λy=>∃L' K',Hn w0 z b N Ts L' lv K' y/\L'.length=L.length+1:=by
 have hm:=Ap hi;have⟨W1,ah,ak,hx,hT,aq⟩:=Jc (h.tw t hm) o;have h1:=h.DG ak;have⟨M,hI⟩:=hT.bd.iv;have ac:=vW hI o.a o.b;have⟨ua,un,uc,aa,ab⟩:=hT.r.status o.a o.b;have al:∀j,V.OY b L K j->j<W1.heap.size:=λj hj=>h1.lt j (Aj hj)
 generalize hSt:R.KI t.G o.a o.b=St at *;have⟨st,sq,Kw,er⟩:=St;simp only at ac aa ab;refine(oS w W1 b t o hk st sq er ua un uc (λT on X w2=>DY W1 w2/\w2.ownsRow W1.heap.size 106 2 (.slice T on X) Kw.length (V.flat Kw))
  (λy=>∃L' K',Hn w0 z b N Ts L' lv K' y/\L'.length=L.length+1) ah hx (Dv h.bo.cell) ?_ ?_ ?_ ?_)
 ·have hq:=hT.l.status (jK hI) o.a o.b;rw[hSt]at hq;refine hq.mono ?_;rintro e w2 ⟨⟨O,rfl,B⟩,u⟩;have⟨T,on,X,hO⟩:=Ei B;subst hO;exact⟨T,on,X,rfl,u,u,B⟩
 ·rintro T on X w1 y ⟨u,_⟩ D;exact ab y (u.trans (D.mono u.size))
 ·rintro T on X w1 y ⟨u,B⟩ D;exact V.UI y _ _ Kw (V.KW (ER B D)) (aa.Gz.DG (u.trans (D.mono u.size))) U
 ·rintro T on X w1 y ⟨u,B⟩ D;have Q:=u.trans (D.mono u.size);have hO:=B.lt;refine cm (V.VG W1 y b L lv K _ Kw (h1.bo.DG Q) Q (ER B D) hL U al) ?_;rintro aN ⟨K',k,hB,hw⟩;refine⟨rfl,λq aw an=>hw.E0.block q an (λf=>?_),L++[k],K',(h1.DG Q).Sq (λj hj=>?_) hB hw,Ev⟩
  ·have:=u.size
   grind
  ·have h2:=(hO j hj).1;exact abr
theorem Mt(w:Aa)(n:Nat)(a:Af)(m c:Nat)(i:Int)(j:w.heap[n]?=some (.cells #[.slice a m c] 113 (0,0))):
  D7 65 #[ptr n,Z i] w (.bool (decide (0<=i/\i<(m:Int)))) λu=>u=w:=by
 have c1:=EI j 0;clear j;by_cases h:0<=i
 ·have e:decide (0<=i/\i<(m:Int))=decide (i<(m:Int)):=by simp[h]
  rw[e];go_enter func65,ntmps65;go_wp2
  go_ret
  exact⟨rfl,rfl⟩
 ·have e:decide (0<=i/\i<(m:Int))=false:=by simp[h]
  rw[e];go_enter func65,ntmps65;go_wp2
  go_ret
  exact⟨rfl,rfl⟩
theorem Zn{i:Int}(e:w.heap[n]?=some (.cells #[.slice a m c] 113 (0,0)))(hi:i<0\/(m:Int)<=i):
  D7 32 #[ptr n,Z i] w (.tuple #[Z 0,.string ⟨#[]⟩,Z 9]) λh=>h=w:=by
 have H:=Dx (Mt w n a m c i e);rw[show decide (0<=i/\i<(m:Int))=false by simp;omega]at H;clear e hi;go_enter func32,ntmps32;go_wp2_with (first|(go_at_call 65;refine cs H ?_))
 go_returns;exact⟨rfl,rfl⟩
theorem uo(e:w.heap[n]?=some (.cells #[EJ g m c] 113 (0,0)))(hi:i<m)(h:w.cell? (Y g (i*3))=some (Z v0))(j:w.cell? (Y g (i*3+1))=some (.string v1)):
  D7 32 #[ptr n,Z i] w (.tuple #[Z v0,.string v1,Z 0]) λw'=>DY w w':=by
 have H:=Dx (Mt w n (some (Y g 0)) m c i e);rw[show decide (0<=(i:Int)/\(i:Int)<m)=true by simp;omega]at H;have c1:=EI e 0;have u:0<=(i:Int):=U;have y:(i:Int)<m:=U;clear e;go_enter func32,ntmps32;go_wp2_with (first|(go_at_call 65;refine cs H ?_))
 exact afM
theorem SS(w:Aa)(n:Nat)(a:Af)(m c:Nat)(i:Int)(e:w.heap[n]?=some (.cells #[.slice a m c] 113 (0,0)))(hi:i<0\/(m:Int)<=i):
  D7 50 #[ptr n,Z i] w (.tuple #[Z 0,.string ⟨#[]⟩,Z 9]) λh=>h=w:=by
 have H:=Dx (Zn e hi);clear e hi;go_enter func50,ntmps50;go_wp2_with (first|(go_at_call 32;refine cs H ?_))
 go_returns;exact⟨rfl,rfl⟩
theorem zu(Q:w.heap[n]?=some (.cells #[K] 113 (0,0)))(O:w.ownsRow 0 122 3 K fl.length (tab Gp fl))(hf:fl[i]?=some f)(aq:fl.length<=40):
  D7 50 #[ptr n,Z i] w (.tuple #[Z f.to,.string (str f.s),Z 0]) λw'=>Kh w n K (fl.eraseIdx i) w':=by
 have hi:=GG hf;rcases O.2 with ⟨_,h0⟩|⟨g,cap,ah,rfl,_,hg,ab,D,ad,htk⟩
 ·omega
 have q:∀j,j<3->ah[i*3+j]?=(Gp f)[j]?:=λj hj=>by
  exact acy
 have v0:w.cell? (Y g (i*3))=some (Z f.to):=by
  have:=q 0 U;simp[World.cell?,hg];simpa [Gp] using this
 have v1:w.cell? (Y g (i*3+1))=some (.string (str f.s)):=by
  exact xb
 have ac:=ES Q hg Em;have H:=Dx (uo Q hi v0 v1);have HD:Hid (∀w',DY w w'->D7 84 #[EJ g fl.length cap,Z i,Z ((i:Int)+1)] w' (EJ g (fl.length-1) cap) λy=>y.heap[n]?=some (.cells #[EJ g fl.length cap] 113 (0,0))/\Kh w n (EJ g fl.length cap) (fl.eraseIdx i) (y.setCell (Y n 0) (EJ g (fl.length-1) cap))):=λw' hb=>by
  refine(yJ ((hb.block g (AB.1 hg).1).trans hg) rfl ab D ad htk hi).mono ?_;rintro e y ⟨rfl,⟨X,k1,k2,k3⟩,hk⟩;have aa:y.heap[n]?=some (.cells #[EJ g fl.length cap] 113 (0,0)):=by
   have:=(hb.block n (AB.1 Q).1).trans Q;exact hk.at this ac
  have h:(fl.eraseIdx i).length=fl.length-1:=by rw[List.length_eraseIdx,Ay hi]
  refine⟨rfl,aa,⟨⟨EJ g (fl.length-1) cap,?_,?_,Aj rfl⟩,?_⟩⟩
  ·exact Ek (cs:=[EJ g fl.length cap]) (off:=0) aa _
  ·refine⟨?_,Am ⟨g,cap,X,by rw[h],AV _,?_,by rw[h];omega,D,k2,by rw[h];exact k3⟩⟩
   ·rw[F8 JN,BZ]
   ·rw[AU _ _ _ _ (λe=>ac e.symm)];exact k1
  ·have ak:DF (λk=>k=n\/(Value.slice (some (Y g 0)) fl.length cap).ownBlock=some k) w y:=(DF.D6 hb _).trans (hk.mono (λk _ e=>Am (by rw[e];rfl)));exact ak.setCell (p:=Y n 0) (Aj (Aj rfl)) _
 have c1:=EI Q 0;have al:=Dv Q;have e1:IntKind.i64.wrap ((i:Int)+1)=(i:Int)+1:=Iz;generalize Kh w n (EJ g fl.length cap) (fl.eraseIdx i)=Post at *;generalize str f.s=SF at *;generalize fl.length-1=L1 at *;generalize fl.length=L0 at *;clear q Q O hf hg ad htk v0 v1;go_enter func50,ntmps50;go_wp2_with fail
 refine cm H λw1 T=>?_
 have HC:=Dx (HD w1 T);have d1:=(T.cell (p:=Y n 0) al).trans c1;clear T;go_wp2_with fail
 refine cm HC ?_;rintro w2 ⟨B,u⟩;have d2:=EI B 0;have z2:w2.frozen? (Y n 0)=false:=Eb B;have ar:=Dv B;have HP:=Dx u;clear B u;go_wp2;go_returns;exact⟨rfl,HP⟩
theorem R.Wf.Ms(h:R.Wf G)(e:fl.length<=40)(u:∀f∈fl,f.s.length<=21):R.Wf {G with Ej:=fl}:=⟨h.cf,h.N5,λj c hc=>⟨(h.cl j c hc).DV,(h.cl j c hc).DR,(h.cl j c hc).Ee,(h.cl j c hc).DZ⟩,e,u,h.sv,h.R7,h.nm,h.st,h.nd,h.Pn⟩
theorem R.Wf.erase(h:R.Wf G)(k:Nat):R.Wf {G with Ej:=G.Ej.eraseIdx k}:=by grind [R.Wf,R.Wf.Ms,List.mem_of_mem_eraseIdx]
theorem LW.land(h:LW p F G w)(D:G.Ej[i]?=some f):
  D7 50 #[ptr p.n,Z i] w (.tuple #[Z f.to,.string (str f.s),Z 0]) λj=>∃u,LW p u {G with Ej:=G.Ej.eraseIdx i} j/\D8 F u w j:=by
 have⟨K,y,e,B⟩:=h.bn;refine cm (zu y e D h.wf.JC) λj hn=>?_
 exact⟨rfl,h.net y e hn B (R.Wf.erase h.wf i)⟩
theorem LW.SS(h:LW p F G w){i:Int}(hi:R.off G i):D7 50 #[ptr p.n,Z i] w (.tuple #[Z 0,.string ⟨#[]⟩,Z 9]) λe=>e=w:=by grind [LW,R.off,Fa,YtblomippkddgiaaGreatDoor.SS]
theorem R.jW{i:Int}(h:¬R.off G i):∃(k:Nat) (f:R.Fl),i=(k:Int)/\G.Ej[k]?=some f:=by
 unfold R.off at h;have hl:i.toNat<G.Ej.length:=U;exact⟨i.toNat,G.Ej[i.toNat],U,Ah hl⟩
theorem LW.show(h:LW p F G w)(i:Int):D7 13 #[ptr p.x,Z i] w (.tuple #[Z (R.MC G i).1,.string (str (R.MC G i).2.1),Z (R.MC G i).2.2]) λB=>DY w B:=by
 unfold R.MC;by_cases hi:R.off G i
 ·rw[Ay hi];have⟨K,j,e,y⟩:=h.bn;obtain⟨a,c,rfl⟩:=Fa e;have H:=Dx (Zn j hi);have c0:=EI h.bx 0;clear h j e y hi;go_enter func13,ntmps13;go_wp2_with (first|(go_at_call 32;refine cs H ?_))
  go_returns;exact⟨rfl,AA _ _⟩
 ·rw[Ao hi];obtain⟨k,f,rfl,u⟩:=R.jW hi;rw[AY,u];exact h.adF u
theorem LW.drop(h:LW p F G w)(i:Int):D7 23 #[ptr p.x,Z i] w (Z (R.JM G i).1) λy=>∃e,LW p e (R.JM G i).2 y/\D8 F e w y:=by
 have c0:EB w p.x 0 (ptr p.n):=EI h.bx 0;unfold R.JM;by_cases hi:R.off G i
 ·rw[Ay hi];have H:=Dx (h.SS hi);have B:Hid (∃e,LW p e G w/\D8 F e w w):=⟨F,h,D8.refl F w⟩;generalize p.n=n at *;clear h hi;go_enter func23,ntmps23;go_wp2_with (first|(go_at_call 49;go_in)|(go_at_call 50;refine cs H ?_))
  go_returns;exact⟨rfl,B⟩
 ·rw[Ao hi];obtain⟨k,f,rfl,u⟩:=R.jW hi;rw[AY];have H:=Dx (h.land u);generalize str f.s=SF at *;clear h hi u;go_enter func23,ntmps23;go_wp2_with (first|(go_at_call 49;go_in)|(go_at_call 50;refine cm H λD j=>?_))
  go_returns;exact⟨rfl,j⟩
theorem iF(w:Aa)(s:Ac)(k:Nat)(b:UInt8)(hk:k<s.length):
  D7 252 #[.string (str s),Z k,.int .u8 (b.toNat:Int)] w (.string (str (s.set k (s.getD k 0 ^^^ b)))) λT=>DY w T:=by
 have⟨cap,W,hc,j,O⟩:=yF w s;have u:s[k]?=some (s.getD k 0):=by rw[Bu,Ah hk];rfl
 generalize s.getD k 0=a at u ⊢;have⟨c1,z1⟩:=j.2 k a u;have e:=j.set k (a ^^^ b);have h:=e.conv cap;rw[BG]at h;have y:=aeg a b;have B:Hid (DY w (W.setCell (EN w k) (.int .u8 ((a ^^^ b).toNat:Int)))):=O.setCell Ev _;have q1:0<=(k:Int):=U;have q2:(k:Int)<(s.length:Int):=U;have Q:=j.1;obtain⟨X,D⟩:∃X:Int,X=((a ^^^ b).toNat:Int):=⟨_,rfl⟩;rw[<-D]at h y B;clear D;generalize str (s.set k (a ^^^ b))=S2 at *;generalize str s=S1 at *;generalize s.length=n at *;clear j e O u hk;go_enter func252,ntmps252;go_wp2
 go_ret
 exact⟨rfl,B⟩
theorem jq{i e0:Int}(e:w.heap[n]?=some (.cells #[.slice a m c] 113 (0,0)))(h:((i<0\/(m:Int)<=i)/\e0=9)\/(0<=i/\i<(m:Int)/\m=40/\e0=12)):
  D7 223 #[ptr n,Z i] w (Z e0) λB=>B=w:=by
 have⟨H,j⟩:=FU (Mt w n a m c i e) (Qd w n a m c e);clear e;rcases h with ⟨hi,rfl⟩|⟨u,y,rfl,rfl⟩
 ·rw[show decide (0<=i/\i<(m:Int))=false by simp;omega]at H;clear hi;go_enter func223,ntmps223;go_wp2_with (first|(go_at_call 65;refine cs H ?_))
  go_ret
  exact⟨rfl,rfl⟩
 ·rw[show decide (0<=i/\i<((40:Nat):Int))=true by simp;omega]at H;rw[show decide ((40:Nat)=40)=true by simp]at j;clear u y;go_enter func223,ntmps223;go_wp2_with (first|(go_at_call 65;refine cs H ?_)|(go_at_call 251;refine cs j ?_))
  go_ret
  exact⟨rfl,rfl⟩
theorem Xw(w:Aa)(e:Int)(S:Ab)(b:Bool)(j:Nat)(u:Ad)(h:([Z e,.string S,.bool b]:Ae)[j]?=some u):(w.alloc (.cells #[Z e,.string S,.bool b] 122)).cell? (((EN w 0):Addr).add j)=some u:=by grind [Addr.add_lit,World.cell?_alloc_new]
theorem zD{W B:Aa}{K':Ad}{h:List R.Fl}{j0:Nat}(D:w.heap[n]?=some (.cells #[K] 113 (0,0)))(u:w.ownsRow 0 122 3 K m xs)(O:DY w W)(hg:W.grownBy B K.ownBlock)(X:B.ownsRow 0 122 3 K' h.length (tab Gp h))(aa:K'.ownBlock=K.ownBlock\/K'.ownBlock=some j0)(hj:w.heap.size<=j0):B.heap[n]?=some (.cells #[K] 113 (0,0))/\Kh w n K h (B.setCell (Y n 0) K'):=by
 have Q:=K5 u D Em;have j:=(AB.1 D).1;have y:B.heap[n]?=some (.cells #[K] 113 (0,0)):=by
  rw[hg.block n (Ai j O.size) (λe=>Q e.symm),O.block n j];exact D
 have T:K'.ownBlock≠some n:=by grind
 refine⟨y,⟨⟨K',?_,?_,?_⟩,?_⟩⟩
 ·exact Ek (cs:=[K]) (off:=0) y K'
 ·grind [Jl,Below.heap_setCell]
 ·grind
 ·have ac:DF (λk=>k=n\/K.ownBlock=some k) w W:=DF.D6 O _
  grind [DF.grown,DF.setCell]
theorem yG(Q:w.heap[n]?=some (.cells #[K] 113 (0,0)))(h:w.ownsRow 0 122 3 K fl.length (tab Gp fl))(hf:fl[i]?=some f)(av:fl.length<40):
  D7 223 #[ptr n,Z i] w (Z 0) λw'=>Kh w n K (fl++[f]) w':=by
 have hi:=GG hf;rcases id h.2 with ⟨_,h0⟩|⟨g,cap,aa,rfl,_,hg,ao,aq,ae,htk⟩
 ·omega
 have q:∀j,j<3->aa[i*3+j]?=(Gp f)[j]?:=λj hj=>by
  exact acy
 have v0:w.cell? (Y g (i*3))=some (Z f.to):=by
  have:=q 0 U;simp[World.cell?,hg];simpa [Gp] using this
 have v1:w.cell? (Y g (i*3+1))=some (.string (str f.s)):=by
  exact xb
 have v2:w.cell? (Y g (i*3+2))=some (.bool f.Ij):=by
  have:=q 2 U;simp[World.cell?,hg];simpa [Gp] using this
 have H:=Dx (Mt w n (some (Y g 0)) fl.length cap i Q);rw[show decide (0<=(i:Int)/\(i:Int)<(fl.length:Int))=true by simp;omega]at H;have H2:=Dx (Qd w n (some (Y g 0)) fl.length cap Q);rw[show decide (fl.length=40)=false by simp;omega]at H2;have HN:Hid (∀(O:Aa) (T:Ad),O.ownsRow 0 122 3 T (fl.length+1) (tab Gp fl++[Z f.to,.string (str f.s),.bool f.Ij])->(w.drew.alloc (.cells #[Z f.to,.string (str f.s),.bool f.Ij] 122)).grownBy O (Value.slice (some (Y g 0)) fl.length cap).ownBlock->(T.ownBlock=(Value.slice (some (Y g 0)) fl.length cap).ownBlock\/T.ownBlock=some (w.heap.size+1))->O.heap[n]?=some (.cells #[EJ g fl.length cap] 113 (0,0))/\Kh w n (EJ g fl.length cap) (fl++[f]) (O.setCell (Y n 0) T)):=λO T how ab B=>by
  refine zD Q h ((AA _ _).drew.alloc (Ar _) _) ab ?_ B U;rw[AJ,Jn];exact how
 have⟨i0,ac,ak,al,am⟩:=A1 dY;have X:=Dx h;have c1:=EI Q 0;have az:=Dv Q;have aw:=(AB.1 hg).1;have q1:0<=(i:Int):=U;have q2:(i:Int)<(fl.length:Int):=U;generalize Kh w n (EJ g fl.length cap) (fl++[f])=Post at *;generalize str f.s=SF at *;generalize tab Gp fl=TF at *;generalize fl.length=L0 at *;clear q Q h hf hg ae htk;go_enter func223,ntmps223;go_wp2_with (first|(go_at_call 65;refine cs H ?_)|(go_at_call 251;refine cs H2 ?_))
 go_region_law (refine FM rfl (.tmp 15) (.tmp 23) 111 rfl 0 122 i0 (.agg #[Z 0,.string ⟨#[]⟩,.bool false]) 3 32 underlying111 ac ak al am rfl Em (EJ g L0 cap) L0 TF rfl (by exact(ER X ((AA _ _).drew)).alloc _) (EN w 0) 1 1 [Z f.to,.string SF,.bool f.Ij] rfl rfl (by exact Xw w.drew f.to SF f.Ij) Vd JG U U ?_;intro v' O e u B;have⟨va,vn,vc,ah⟩:=Ei e;subst ah;have ad:=HN O _ e u (by simpa using B);have⟨D,y⟩:=ad;have HP:=Dx y;have d1:O.cell? (Y n 0)=some (EJ g L0 cap):=EI D 0;have z1:O.frozen? (Y n 0)=false:=Eb D;have aN:=Dv D;clear e u B D y)
 all_goals
  go_wp2
  go_ret
  exact⟨rfl,HP⟩
theorem LW.copy(h:LW p F G w)(i:Int):D7 176 #[ptr p.x,Z i] w (Z (R.JA G i).1) λw'=>∃u,LW p u (R.JA G i).2 w'/\D8 F u w w':=by
 have c0:=EI h.bx 0;have⟨K,y,j,T⟩:=h.bn;have D:=h.wf.JC;have H:D7 223 #[ptr p.n,Z i] w (Z (R.JA G i).1) λw'=>∃u,LW p u (R.JA G i).2 w'/\D8 F u w w':=by
  obtain⟨a,c,rfl⟩:=Fa j;unfold R.JA;by_cases hi:R.off G i
  ·rw[Ay hi];refine(jq y (Aj ⟨hi,rfl⟩)).mono ?_;exact iE
  ·rw[Ao hi];obtain⟨k,f,rfl,B⟩:=R.jW hi;have hk:=GG B;by_cases Q:40<=G.Ej.length
   ·rw[Ay Q];refine(jq y (Am ⟨U,U,U,rfl⟩)).mono ?_;exact iE
   ·rw[Ao Q,AY,B];refine(yG y j B U).mono ?_;rintro e w' ⟨rfl,hn⟩;refine⟨rfl,h.net y j hn T (R.Wf.Ms h.wf Fy (λg hg=>?_))⟩;rcases Bj.1 hg with q|q
    ·exact h.wf.JX g q
    ·rw[Bg.1 q];exact h.wf.JX f (Ap B)
 have X:=Dx H;clear H h y j T D;generalize R.JA G i=r at *;go_enter func176,ntmps176;go_wp2_with (first|(go_at_call 223;refine(Dw X).mono ?_;rintro e w1 ⟨rfl,O⟩))
 go_returns;exact⟨rfl,O⟩
theorem qM{i:Int}(e:w.heap[n]?=some (.cells #[.slice a m c] 113 (0,0)))(hi:i<0\/(m:Int)<=i):
  D7 224 #[ptr n,Z i,Z at',Z by'] w (Z 9) λh=>h=w:=by
 have H:=Dx (Mt w n a m c i e);rw[show decide (0<=i/\i<(m:Int))=false by simp;omega]at H;clear e hi;exact pz
theorem qL(e:w.heap[n]?=some (.cells #[EJ g m cap] 113 (0,0)))(hi:i<m)(y:EB w g (i*3+1) (.string S))(h:at'<0\/(S.size:Int)<=at'\/by'<1\/255<by'):
  D7 224 #[ptr n,Z i,Z at',Z by'] w (Z 9) λu=>u=w:=by
 have H:=Dx (Mt w n (some (Y g 0)) m cap i e);rw[show decide (0<=(i:Int)/\(i:Int)<m)=true by simp;omega]at H;have c1:=EI e 0;have B:0<=(i:Int):=U;have D:(i:Int)<m:=U;have j:=Dx h;clear e h;by_cases a0:at'<0
 ·exact pz
 ·by_cases a1:(S.size:Int)<=at'
  ·exact pz
  ·by_cases a2:by'<1
   ·exact pz
   ·have a3:255<by':=by have:=Dw j;omega
    exact pz
theorem kV(e:w.heap[n]?=some (.cells #[EJ g m cap] 113 (0,0)))(hi:i<m)(j:EB w g (i*3+1) (.string S))(u:EB w g (i*3+2) (.bool true))(a0:¬at'<0)(a1:¬(S.size:Int)<=at')(a2:¬by'<1)(a3:¬255<by'):
  D7 224 #[ptr n,Z i,Z at',Z by'] w (Z 18) λh=>h=w:=by
 have H:=Dx (Mt w n (some (Y g 0)) m cap i e);rw[show decide (0<=(i:Int)/\(i:Int)<m)=true by simp;omega]at H;have c1:=EI e 0;have y:0<=(i:Int):=U;have B:(i:Int)<m:=U;clear e;exact pz
theorem yu{k:Nat}{s:Ac}{b:UInt8}(h:World->Prop)(T:w.heap[n]?=some (.cells #[EJ g m cap] 113 (0,0)))(hi:i<m)(D:∃u,w.heap[g]?=some (.cells u 122 (0,0)))(h1:EB w g (i*3+1) (.string (str s)))(h2:EB w g (i*3+2) (.bool false))(hk:k<s.length)(X:1<=b.toNat)
  (HP:Hid (∀Q,DY w Q->h ((Q.setCell (Y g (i*3+1)) (.string (str (s.set k (s.getD k 0 ^^^ b))))).setCell (Y g (i*3+2)) (.bool true)))):
  D7 224 #[ptr n,Z i,Z k,Z (b.toNat:Int)] w (Z 0) λQ=>h Q:=by
 have H:=Dx (Mt w n (some (Y g 0)) m cap i T);rw[show decide (0<=(i:Int)/\(i:Int)<m)=true by simp;omega]at H;have HT:=Dx (iF w s k b hk);have c1:=EI T 0;have q1:0<=(i:Int):=U;have q2:(i:Int)<m:=U;have O:=Er s;have a0:¬(k:Int)<0:=U;have a1:¬((str s).size:Int)<=(k:Int):=by rw[O];omega
 have aa:=b.toNat_lt;have a2:¬(b.toNat:Int)<1:=U;have a3:¬255<(b.toNat:Int):=U;have al:IntKind.u8.wrap (b.toNat:Int)=(b.toNat:Int):=by rw[wrap_u8];omega
 have⟨u,D⟩:=D;have j:=(AB.1 D).1;have HG:=Dx D;generalize str (s.set k (s.getD k 0 ^^^ b))=S2 at *;generalize str s=S1 at *;generalize (b.toNat:Int)=B at *;clear T O hk X aa D;go_enter func224,ntmps224;go_wp2_with (first|(go_at_call 65;refine cs H ?_))
 refine cm HT λw2 y=>?_
 have e:=(y.block g j).trans (Dw HG);have d1:=(y.cell (p:=(Y g (i*3+1))) j).trans h1;have d2:=(y.cell (p:=(Y g (i*3+2))) j).trans h2;have z1:w2.frozen? (Y g (i*3+1))=false:=Eb e;have z2:w2.frozen? (Y g (i*3+2))=false:=Eb e;have ak:=Dv e;have HQ:=Dx (HP w2 y);clear y e;go_wp2
 go_ret
 exact⟨rfl,HQ⟩
theorem take_set(l:Ae)(n i:Nat)(v:Ad):(l.set i v).take n=(l.take n).set i v:=by
 apply BF;intro j
 grind
theorem yZ(h:fl[i]?=some f)(e:Ac):((tab Gp fl).set (i*3+1) (.string (str e))).set (i*3+2) (.bool true)=tab Gp (fl.set i ⟨f.to,e,true⟩):=by
 have hl:=GG h;rw[J6 JN fl i 1 f ⟨f.to,e,f.Ij⟩ _ h U rfl];rw[J6 JN (fl.set i ⟨f.to,e,f.Ij⟩) i 2 ⟨f.to,e,f.Ij⟩ ⟨f.to,e,true⟩ _ (by simp[hl]) U rfl];rw[A5]
theorem LW.Sf{p:Pl}(h:LW p F G w)(i at' by':Int):D7 178 #[ptr p.x,Z i,Z at',Z by'] w (Z (R.Jz G i at' by').1) λw'=>∃O,LW p O (R.Jz G i at' by').2 w'/\D8 F O w w':=by
 have c0:=EI h.bx 0;have⟨K,B,y,hF⟩:=h.bn;have H:D7 224 #[ptr p.n,Z i,Z at',Z by'] w (Z (R.Jz G i at' by').1) λw'=>∃O,LW p O (R.Jz G i at' by').2 w'/\D8 F O w w':=by
  unfold R.Jz;by_cases hi:R.off G i
  ·rw[Ay hi];obtain⟨a,c,rfl⟩:=Fa y;refine(qM B hi).mono ?_;exact iE
  ·rw[Ao hi];obtain⟨k,f,rfl,X⟩:=R.jW hi;have hk:=GG X;rw[AY,X];rcases id y.2 with ⟨_,h0⟩|⟨g,cap,Q,rfl,_,hg,T,aa,ao,ad⟩
   ·omega
   have q:∀j,j<3->Q[k*3+j]?=(Gp f)[j]?:=λj hj=>by
    rw[<-Jh JN G.Ej k j f X hj,<-ad,BI,Ay U];simp
   have v1:w.cell? (Y g (k*3+1))=some (.string (str f.s)):=by
    exact xb
   have v2:w.cell? (Y g (k*3+2))=some (.bool f.Ij):=by
    have:=q 2 U;simp[World.cell?,hg];simpa [Gp] using this
   simp only;by_cases ha:at'<0\/(f.s.length:Int)<=at'\/by'<1\/255<by'
   ·rw[Ay ha];refine(qL B hk v1 (by rw[Er];exact ha)).mono ?_;exact iE
   ·rw[Ao ha];by_cases D:f.Ij=true
    ·rw[Ay D];rw[D]at v2;refine(kV B hk v1 v2 U (by rw[Er];omega) U U).mono ?_;exact iE
    ·rw[Ao D];have ak:f.Ij=false:=by simpa using D
     rw[ak]at v2;obtain⟨a,rfl⟩:∃a:Nat,at'=(a:Int):=⟨at'.toNat,U⟩;obtain⟨b,rfl⟩:∃b:UInt8,by'=(b.toNat:Int):=⟨b8 by',(FP U U).symm⟩;rw[AY,bQ];have ab:=ES B hg Em;refine(yu (λw'=>∃O,LW p O {G with Ej:=G.Ej.set k ⟨f.to,f.s.set a (f.s.getD a 0 ^^^ b),true⟩} w'/\D8 F O w w') B hk ⟨Q,hg⟩ v1 v2 U U ?_);intro w' hb;have al:=(hb.block g (AB.1 hg).1).trans hg;have ah:=(hb.block p.n (AB.1 B).1).trans B;have an:=Ek (cs:=Q.toList) (off:=k*3+1) al (.string (str (f.s.set a (f.s.getD a 0 ^^^ b))));have ac:=Ek (off:=k*3+2) an (.bool true);have u:(G.Ej.set k ⟨f.to,f.s.set a (f.s.getD a 0 ^^^ b),true⟩).length=G.Ej.length:=Ev;have hn:Kh w p.n (EJ g G.Ej.length cap) (G.Ej.set k ⟨f.to,f.s.set a (f.s.getD a 0 ^^^ b),true⟩) ((w'.setCell (Y g (k*3+1)) (.string (str (f.s.set a (f.s.getD a 0 ^^^ b))))).setCell (Y g (k*3+2)) (.bool true)):=by
      refine⟨⟨EJ g G.Ej.length cap,?_,?_,Aj rfl⟩,?_⟩
      ·rw[AU _ _ _ _ (λe=>ab e),AU _ _ _ _ (λe=>ab e)];exact ah
      ·refine⟨by rw[F8 JN,BZ],Am ⟨g,cap,_,by rw[u],AV _,ac,by rw[u];exact T,aa,by simpa using ao,?_⟩⟩;rw[u];rw[take_set,take_set,ad,yZ X]
      ·have am:DF (λq=>q=p.n\/(Value.slice (some (Y g 0)) G.Ej.length cap).ownBlock=some q) w w':=DF.D6 hb _;exact(am.setCell (p:=(Y g (k*3+1))) (Aj (Am rfl)) _).setCell (p:=(Y g (k*3+2))) (Aj (Am rfl)) _
     refine h.net B y hn hF (R.Wf.Ms h.wf (by rw[u];exact h.wf.JC) (λq hq=>?_));rcases BJ hq with r|r
     ·exact h.wf.JX q r
     ·rw[r];simpa using h.wf.JX f (Ap X)
 have HH:=Dx H;clear H h B y hF;generalize R.Jz G i at' by'=r at *;go_enter func178,ntmps178;go_wp2_with (first|(go_at_call 224;refine(Dw HH).mono ?_;rintro e w1 ⟨rfl,aq⟩))
 go_returns;exact⟨rfl,aq⟩
theorem oq{i:Int}(x8:EB w x 8 (.slice a m cc))(h:i<0\/(m:Int)<=i):D7 174 #[Ey x,Z i] w (.tuple #[Z 0,.string ⟨#[]⟩,Z 9]) λe=>e=w:=by
 have hl:=Gv x8;by_cases j:i<0
 ·go_enter func174,ntmps174;go_wp2;go_returns;exact⟨rfl,rfl⟩
 ·have u:(m:Int)<=i:=U;go_enter func174,ntmps174;go_wp2;go_returns;exact⟨rfl,rfl⟩
theorem vq(x8:w.cell? (Y x 8)=some (EJ g m cap))(hi:i<m)(h:w.cell? (Y g (i*3))=some (Z v0))(j:w.cell? (Y g (i*3+1))=some (.string v1)):D7 174 #[Ey x,Z i] w (.tuple #[Z v0,.string v1,Z 0]) λe=>DY w e:=by
 obtain⟨u,y,B,D⟩:¬(i:Int)<0/\¬(m:Int)<=i/\0<=(i:Int)/\(i:Int)<m:=U;go_enter func174,ntmps174;go_wp2;go_region_held3 (λe=>e.cell? (Y x 8)=some (EJ g m cap)/\e.cell? (Y g (i*3))=some (Z v0)/\e.cell? (Y g (i*3+1))=some (.string v1)) (go_keep) (fail)
 go_wp2;go_returns;exact⟨rfl,(AA _ _).drew⟩
theorem RW.VJ{v:RV}(h:RW x v F G w):∃a cc,v.Fl=.slice a G.Ej.length cc/\EB w x 8 (.slice a G.Ej.length cc):=by
 have⟨a,cc,e⟩:=E8 h.JC;exact⟨a,cc,e,ED h.bx 8 _ (by rw[<-e];rfl)⟩
theorem RW.show{v:RV}(h:RW x v F G w)(i:Int):D7 174 #[Ey x,Z i] w (.tuple #[Z (R.MC G i).1,.string (str (R.MC G i).2.1),Z (R.MC G i).2.2]) λB=>DY w B:=by
 have⟨a,cc,y,x8⟩:=h.VJ;unfold R.MC;by_cases e:R.off G i
 ·rw[Ay e];refine cs (oq x8 e) ?_;exact⟨rfl,AA _ _⟩
 ·rw[Ao e];unfold R.off at e;obtain⟨k,rfl⟩:∃k:Nat,i=(k:Int):=⟨i.toNat,U⟩;have hk:k<G.Ej.length:=U;obtain⟨f,j⟩:∃f,G.Ej[k]?=some f:=⟨_,Ah hk⟩;simp only[AY,j];have⟨g,cap,u,_,hc,_⟩:=Jx FY U h.JC j;rw[y]at u;cases u;exact vq x8 hk (hc 0 _ U rfl) (hc 1 _ U rfl)
theorem nA{i:Int}(x8:EB w x 8 (.slice a m cc))(h:i<0\/(m:Int)<=i):D7 177 #[Ey x,Z i] w (Z 9) λe=>e=w:=by
 have hl:=Gv x8;by_cases j:i<0
 ·exact wU
 ·have u:(m:Int)<=i:=U;exact wU
theorem fK{i:Int}(x8:EB w x 8 (.slice a m cc))(h:¬i<0)(j:¬(m:Int)<=i)(u:(40:Int)<=m):D7 177 #[Ey x,Z i] w (Z 12) λe=>e=w:=by
 have hl:=Gv x8;exact wU
theorem Zv{e:Int}{b:Bool}(j:Nat)(u:Ad)(h:([Z e,.string S,.bool b]:Ae)[j]?=some u):(w.alloc (.cells #[Z e,.string S,.bool b] 304)).cell? (((EN w 0):Addr).add j)=some u:=by grind [Addr.add_lit,World.cell?_alloc_new]
end Go.Proofs.YtblomippkddgiaaGreatDoor
