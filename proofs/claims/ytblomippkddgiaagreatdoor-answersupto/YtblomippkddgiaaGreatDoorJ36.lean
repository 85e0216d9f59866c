import Derived.Test.YtblomippkddgiaaGreatDoorJ35
set_option maxRecDepth 100000
set_option maxHeartbeats 1000000
namespace Go.Proofs.YtblomippkddgiaaGreatDoor
open Go.Proofs.Tryz
open Go.RowKit
open Go.RowKit Go.Maps
variable {S:ByteArray}{F:D9}{at' by':Int}{fl:List R.Fl}{rb:List UInt8}{b cap cc g i k m n x:Nat}{a:Option Addr}{P:Pk}{p:Pl}{c:R.Cl}{f f':R.Fl}{l:R.Ln}{G:R.Wd}{v:RV}{w:World}
theorem fM{c:R.Cf}(hx:w.heap[x]?=some (.cells (Iv c v) 229 (0,0)))(e:w.ownsRow 0 304 3 v.Fl fl.length (tab FN fl))(hf:fl[i]?=some f)(hl:fl.length<40):
  D7 177 #[Ey x,Z i] w (Z 0) λw'=>Jy w x c v (fl++[f]) w':=by
 have⟨g,cc,hK,b1,h,_⟩:=Jx FY U e hf;have aq:=GG hf;obtain⟨m,hm⟩:∃m,fl.length=m:=⟨_,rfl⟩;rw[hm]at hK;have⟨i0,hi,av,aw,az⟩:=A1 dZ;have⟨to,T,O⟩:=f;have k0:EB w g (i*3) (Z to):=h 0 _ U rfl;have k1:EB w g (i*3+1) (.string (str T)):=h 1 _ U rfl;have k2:EB w g (i*3+2) (.bool O):=h 2 _ U rfl;obtain⟨TF,X⟩:∃TF,TF=tab FN fl:=⟨_,rfl⟩;have D:Hid (∀(w':Aa) (K:Ad),w'.ownsRow 0 304 3 K (m+1) (TF++[Z to,.string (str T),.bool O])->w'.heap[x]?=some (.cells (Iv c {v with Fl:=K}) 229 (0,0))->DF (λk=>k=x\/v.Fl.ownBlock=some k) w w'->(∀j,K.ownBlock=some j->v.Fl.ownBlock=some j\/w.heap.size<=j)->Jy w x c v (fl++[⟨to,T,O⟩]) w'):=λw' K h1 h2 h3 h4=>⟨K,by
  rw[Jn,AJ,hm,<-X];exact h1,h2,h3,h4⟩
 rw[hm,<-X,hK]at e;generalize Jy w x c v (fl++[⟨to,T,O⟩])=Post at *;have y:w.heap[x]?=some (.cells [Z c.DI,Z c.DV,Z c.Ew,Z c.DW,Z c.FF,v.N,v.S,v.V,EJ g m cc,v.C,EJ v.L 3 3,EJ v.Sn 9 9,v.J].toArray 229 (0,0)):=by
  rw[hx,<-hK]
 rw[hK]at D;obtain⟨b5,aV,b3,b4,aS,aN⟩:¬(m:Int)<=i/\(i:Int)<m/\¬(i:Int)<0/\0<=(i:Int)/\¬(40:Int)<=m/\m<40:=U;have x8:EB w x 8 (EJ g m cc):=EI y 8;have z8:w.frozen? (Y x 8)=false:=Hf y 8;have b2:=Dv y;have aa:DY w (w.drew.alloc (.cells #[Z to,.string (str T),.bool O] 304)):=(AA w.heap.size w).drew.alloc Ev _;have ak:Hid (∀(M:Aa),(w.drew.alloc (.cells #[Z to,.string (str T),.bool O] 304)).grownBy M (some g)->M.heap[x]?=w.heap[x]?):=λM hg=>(Kd y e Em aa hg).trans y.symm
 have ae:Hid (∀(M:Aa) (v':Ad),(w.drew.alloc (.cells #[Z to,.string (str T),.bool O] 304)).grownBy M (some g)->M.ownsRow 0 304 3 v' (m+1) (TF++[Z to,.string (str T),.bool O])->(v'.ownBlock=some g\/v'.ownBlock=some (w.heap.size+1))->Post (M.setCell (Y x 8) v')):=λM v' hg u Q=>by
  have ah:=OQ (o:=8) y e Em aa hg u Q U;have⟨d1,d2,d3,d4⟩:=ah;exact D _ _ d1 d2 d3 d4
 have am:=Dx e;clear y e X hm hl hx hK D aa h hf aq;generalize str T=SF at *;go_enter func177,ntmps177;go_wp2;go_region_law (first
  |(refine FM rfl (.tmp 26) (.tmp 34) 224 rfl 0 304 i0 (.agg #[Z 0,.string ⟨#[]⟩,.bool false]) 3 32 underlying224 hi av aw az rfl Em (EJ g m cc) m TF rfl (by exact(ER am (AA _ _).drew).alloc _) (EN w 0) 1 1 [Z to,.string SF,.bool O] rfl rfl (by exact Zv) Vd JG U U ?_;intro v' M u B Q;have⟨va,vn,vc,ar⟩:=Ei u;subst ar;have ab:=ak _ B;have al:=Dx (ae _ _ B u (by simpa [Value.ownBlock] using Q));have g8:EB M x 8 (EJ g m cc):=(AR ab).trans x8;have gz:M.frozen? (Y x 8)=false:=(A8 ab).trans z8;clear u B Q ab))
 all_goals
  go_wp2;go_returns;exact⟨rfl,al⟩
theorem Z3{e:Ag}{size:Nat}{xs:Ae}(h:w.ownsRow 0 e size (EJ g n cap) n xs){j:Nat}{u:Ad}(hu:xs[j]?=some u):w.cell? (Y g j)=some u:=by
 exact abV
theorem rT:∀u∈tab FN fl,u.oneCell'=true:=by
 intro u hu;simp only[tab,List.mem_flatMap]at hu;have⟨f,_,e⟩:=hu;simp only[FN,CX,List.not_mem_nil,or_false]at e;rcases e with rfl|rfl|rfl<;>rfl
theorem nH{i:Int}(x8:EB w x 8 (.slice a m cc))(h:i<0\/(m:Int)<=i):D7 175 #[Ey x,Z i] w (Z 9) λe=>e=w:=by
 have hl:=Gv x8;by_cases j:i<0
 ·go_enter func175,ntmps175;go_wp2;go_returns;exact⟨rfl,rfl⟩
 ·have u:(m:Int)<=i:=U;go_enter func175,ntmps175;go_wp2;go_returns;exact⟨rfl,rfl⟩
theorem uL{c:R.Cf}(hx:w.heap[x]?=some (.cells (Iv c v) 229 (0,0)))(y:w.ownsRow 0 304 3 v.Fl fl.length (tab FN fl))(av:i<fl.length)(hl:fl.length<=40):
  D7 175 #[Ey x,Z i] w (Z 0) λw'=>Jy w x c v (fl.eraseIdx i) w':=by
 obtain⟨g,cc,hK,bj,-,-⟩:=Jx FY U y (Ah av);obtain⟨m,hm⟩:∃m,fl.length=m:=⟨_,rfl⟩;rw[hm]at hK;have⟨i0,hi,ae,ah,ak⟩:=A1 dZ;have b7:m<=cc:=by
  have h2:=y.2;rw[hK]at h2;rcases h2 with ⟨h0,_⟩|⟨g',b6,bf,hv,_,_,hc,_⟩
  ·cases h0
  ·cases hv;omega
 have X:Hid (∀(w':Aa) (K:Ad),w'.ownsRow 0 304 3 K (i+(m-(i+1))) (tab FN (fl.take i)++tab FN (fl.drop (i+1)))->w'.heap[x]?=some (.cells (Iv c {v with Fl:=K}) 229 (0,0))->DF (λk=>k=x) w w'->(∀j,K.ownBlock=some j->w.heap.size<=j)->Jy w x c v (fl.eraseIdx i) w'):=λw' K h1 h2 h3 h4=>⟨K,by
  rw[List.eraseIdx_eq_take_drop_succ,UX,AJ,Bv,A9,hm,Ct U];exact h1,h2,h3.mono (λk _ h=>Aj h),λj hj=>Am (h4 j hj)⟩
 have b3:∀j u,(tab FN (fl.take i))[j]?=some u->(tab FN fl)[j]?=some u:=λj u hu=>by
  rw[<-UZ FY,BI]at hu;split at hu
  ·exact hu
  ·cases hu
 have b4:∀j u,(tab FN (fl.drop (i+1)))[j]?=some u->(tab FN fl)[(i+1)*3+j]?=some u:=λj u hu=>by
  rw[<-UY FY,Cn]at hu;exact hu
 have l1:(tab FN (fl.take i)).length=i*3:=by rw[F8 FY,Bv,hm,Ct U,BZ]
 have l2:(tab FN (fl.drop (i+1))).length=(m-(i+1))*3:=by rw[F8 FY,A9,hm,BZ]
 have o1:∀u∈tab FN (fl.take i),u.oneCell'=true:=rT;have o2:∀u∈tab FN (fl.drop (i+1)),u.oneCell'=true:=rT;generalize tab FN (fl.take i)=T1 at *;generalize tab FN (fl.drop (i+1))=T2 at *;generalize tab FN fl=TF at *;rw[hm,hK]at y;generalize Jy w x c v (fl.eraseIdx i)=Post at *;have T:w.heap[x]?=some (.cells [Z c.DI,Z c.DV,Z c.Ew,Z c.DW,Z c.FF,v.N,v.S,v.V,EJ g m cc,v.C,EJ v.L 3 3,EJ v.Sn 9 9,v.J].toArray 229 (0,0)):=by
  rw[hx,<-hK]
 have br:¬(m:Int)<=i:=U;have bq:¬(i:Int)<0:=U;have x8:=EI T 8;have b2:=Dv T;have e1:IntKind.i64.wrap ((i:Int)+1)=(i:Int)+1:=Iz;have⟨HX,aq⟩:=FU T y;obtain⟨b9,ba,bp⟩:i<40/\m<=40/\i<m:=U;clear T y hx hK av hl hm;go_enter func175,ntmps175;go_wp2_with (at_builtin;go_must (refine AQ _ rfl (.tmp 17) (.tmp 23) 224 rfl 0 304 i0 (.agg #[Z 0,.string ⟨#[]⟩,.bool false]) 3 32 underlying224 hi ae ah ak rfl Em (.slice none 0 0) 0 [] rfl (AZ _ _ _ _) (Y g 0) i _ T1 rfl l1 (by intro j u hu;rw[Bc,Cr];exact Z3 aq (b3 j u hu)) o1 JG U U ?_))
 intro v1 w1 B D _ aa;have O:DY w w1:=⟨D.os,D.tape,D.output,D.size,λk hk=>D.block k hk (λe=>by cases e)⟩;have⟨va,vn,vc,b5⟩:=Ei B;subst b5;have M:=(O.block x b2).trans (Dw HX);have y8:EB w1 x 8 (EJ g m cc):=EI M 8;have aw:=Dv M;have aS:=Dx (ER aq O);have ad:∀k,(Value.slice va vn vc).ownBlock=some k->w.heap.size<=k:=λk hk=>by
  rcases aa with q|q
  ·rw[q]at hk;cases hk
  ·rw[q]at hk;cases hk;exact Ar _
 have HFIN:Hid (∀(Q:Ad) (w2:Aa),w2.ownsRow 0 304 3 Q (i+(m-(i+1))) (T1++T2)->w1.grownBy w2 (Value.slice va vn vc).ownBlock->(Q.ownBlock=(Value.slice va vn vc).ownBlock\/Q.ownBlock=some w1.heap.size)->Post (w2.setCell (Y x 8) Q)/\w2.heap[x]?=w1.heap[x]?):=λQ w2 ho hg aV=>by
  have hgx:=hg.block x aw (λe=>Fg B M Em e.symm);have aN:=hgx.trans M;have hk:=DF.setCell (F:=λk=>k=x) (DF.refl _ w2) (p:=Y x 8) (Aj rfl) Q;have h1:DF (λk=>k=x) w w1:=DF.D6 O _;refine⟨X _ Q (hk.row ho (λj hj e=>Fg ho aN Em (e ▸ hj))) (Ek aN Q) ((h1.grown hg (λk hk=>Am (ad k hk))).setCell (p:=Y x 8) (Aj rfl) Q) (λj hj=>?_),hgx⟩;rcases aV with q|q
  ·exact ad j (q ▸ hj)
  ·rw[q]at hj;cases hj;exact O.size
 have ao:=Dx B;have z8:=Hf M 8;clear B D aa O M x8 ad X;by_cases b1:cc=i+1
 ·have az:m=i+1:=U;obtain rfl:T2=[]:=BA (by rw[l2,az];simp);subst b1 az;go_wp2_with (at_builtin;go_must (refine AQ _ rfl (.tmp 25) (.tmp 32) 224 rfl 0 304 i0 (.agg #[Z 0,.string ⟨#[]⟩,.bool false]) 3 32 underlying224 hi ae ah ak rfl Em (.slice va vn vc) i T1 rfl (by exact ao) (Y g 0) 0 0 [] rfl Ev (by intro j u hu;cases hu) (by intro u hu;cases hu) JG U U ?_))
  intro Q w2 how2 hg2 _ hat2;have⟨ua,un,uc,ac⟩:=Ei how2;subst ac;have⟨hP,hgx⟩:=HFIN _ _ (by rw[CZ,Cb];exact how2) hg2 hat2;have u8:=(AR hgx).trans y8;exact abv
 ·go_wp2_with (at_builtin;go_must (refine AQ _ rfl (.tmp 25) (.tmp 32) 224 rfl 0 304 i0 (.agg #[Z 0,.string ⟨#[]⟩,.bool false]) 3 32 underlying224 hi ae ah ak rfl Em (.slice va vn vc) i T1 rfl (by exact ao) (Y g ((i+1)*3)) (m-(i+1)) _ T2 rfl l2 (by intro j u hu;rw[Bc];exact Z3 aS (b4 j u hu)) o2 JG U U ?_))
  intro Q w2 how2 hg2 _ hat2;have⟨ua,un,uc,ac⟩:=Ei how2;subst ac;have⟨hP,hgx⟩:=HFIN _ _ how2 hg2 hat2;have u8:=(AR hgx).trans y8;exact abv
theorem RW.drop(h:RW x v F G w)(i:Int):D7 175 #[Ey x,Z i] w (Z (R.JM G i).1) λu=>∃M y,RW x M y (R.JM G i).2 u/\D8 F y w u:=by
 have⟨a,cc,O,x8⟩:=h.VJ;unfold R.JM;by_cases e:R.off G i
 ·rw[Ay e];refine cs (nH x8 e) ?_
  grind [D8.refl]
 ·rw[Ao e];unfold R.off at e;obtain⟨k,rfl⟩:∃k:Nat,i=(k:Int):=⟨i.toNat,U⟩;have hk:k<G.Ej.length:=U;simp only[AY];have hwf:=h.wf;refine cm (uL h.bx h.JC hk hwf.JC) λu D=>?_
  refine⟨rfl,h.zb ⟨hwf.cf,hwf.N5,λj c hc=>?_,?_,λf B=>hwf.JX f (Cj B),hwf.sv,hwf.R7,hwf.nm,hwf.st,hwf.nd,hwf.Pn⟩ D⟩
  ·exact wN
  ·have:=List.length_eraseIdx_le (l:=G.Ej) (i:=k);have:=hwf.JC;simp only;omega
theorem RW.copy(h:RW x v F G w)(i:Int):D7 177 #[Ey x,Z i] w (Z (R.JA G i).1) λB=>∃Q D,RW x Q D (R.JA G i).2 B/\D8 F D w B:=by
 have⟨a,cc,T,x8⟩:=h.VJ;unfold R.JA;by_cases u:R.off G i
 ·rw[Ay u];refine cs (nA x8 u) ?_
  grind [D8.refl]
 ·rw[Ao u];unfold R.off at u;obtain⟨k,rfl⟩:∃k:Nat,i=(k:Int):=⟨i.toNat,U⟩;have hk:k<G.Ej.length:=U;have hwf:=h.wf;by_cases e:40<=G.Ej.length
  ·rw[Ay e];refine cs (fK x8 U U U) ?_
   grind [D8.refl]
  ·rw[Ao e];obtain⟨f,y⟩:∃f,G.Ej[k]?=some f:=⟨_,Ah hk⟩;simp only[AY,y];refine cm (fM h.bx h.JC y U) λB O=>?_
   refine⟨rfl,h.zb ⟨hwf.cf,hwf.N5,λj c hc=>?_,?_,λg M=>?_,hwf.sv,hwf.R7,hwf.nm,hwf.st,hwf.nd,hwf.Pn⟩ O⟩
   ·exact wN
   ·grind
   ·rcases Bj.1 M with q|q
    ·exact hwf.JX g q
    ·rw[Bg.1 q];exact hwf.JX f (Ap y)
theorem aah(a d:UInt8):bits .xor .u8 (a.toNat:Int) (d.toNat:Int)=((a ^^^ d).toNat:Int):=by
 have h:=a.toNat_lt;have hd:=d.toNat_lt;have n1:(BitVec.ofInt 8 (a.toNat:Int)).toNat=a.toNat:=by grind
 have n2:(BitVec.ofInt 8 (d.toNat:Int)).toNat=d.toNat:=by grind
 show IntKind.u8.wrap ((BitVec.ofInt 8 (a.toNat:Int) ^^^ BitVec.ofInt 8 (d.toNat:Int)).toNat:Int)=_;rw[BitVec.toNat_xor,n1,n2,UInt8.toNat_xor];have e:a.toNat ^^^ d.toNat<2 ^ 8:=Nat.xor_lt_two_pow U U
 grind [IntKind.wrap,IntKind.bits,IntKind.signed]
theorem vY(s:Ac)(k:Nat)(h:k<s.length):(str s)[k]'(by rw[Er];exact h)=s.getD k 0:=by grind [K8]
theorem nt(s:Ac)(k:Nat)(c:UInt8)(h:k<s.length):(str s).extract 0 k++str [c]++(str s).extract (k+1) s.length=str (s.set k c):=by grind [LB,Qs,List.set_eq_take_append_cons_drop,List.take_of_length_le]
theorem nz(W:Aa)(c:UInt8):(convert 199 9 (EJ W.heap.size 1 1)).run prog (W.alloc (.cells #[.int .u8 (c.toNat:Int)] 5))=.ok (.string (str [c])) (W.alloc (.cells #[.int .u8 (c.toNat:Int)] 5)):=by
 have:=C5 (P:=prog) (W.alloc (.cells #[.int .u8 (c.toNat:Int)] 5)) 199 9 5 (EN W 0) 1 [c] underlying199 EL underlying9 λj e=>?_
 all_goals grind [Addr.add_lit,World.cell?_alloc_new]
theorem fJ(W:Aa)(c:UInt8):(convert 199 9 (EJ W.heap.size 1 1)).run prog (W.alloc (.cells #[.int .u8 (c.toNat:Int)] 5)).drew=.ok (.string (str [c])) (W.alloc (.cells #[.int .u8 (c.toNat:Int)] 5)).drew:=nz W.drew c
theorem nk{i:Int}(x8:EB w x 8 (.slice a m cc))(h:i<0\/(m:Int)<=i):D7 179 #[Ey x,Z i,Z at',Z by'] w (Z 9) λe=>e=w:=by
 have hl:=Gv x8;by_cases j:i<0
 ·exact iC
 ·have u:(m:Int)<=i:=U;exact iC
theorem nj(x8:EB w x 8 (EJ g m cap))(hi:i<m)(j:EB w g (i*3+1) (.string S))(h:at'<0\/(S.size:Int)<=at'\/by'<1\/255<by'):D7 179 #[Ey x,Z i,Z at',Z by'] w (Z 9) λe=>e=w:=by
 have hl:=Gv x8;obtain⟨u,y,B,D⟩:¬(i:Int)<0/\¬(m:Int)<=i/\0<=(i:Int)/\(i:Int)<m:=U;by_cases a0:at'<0
 ·exact iC
 ·by_cases a1:(S.size:Int)<=at'
  ·exact iC
  ·by_cases a2:by'<1
   ·exact iC
   ·have a3:255<by':=U;exact iC
theorem fF(x8:EB w x 8 (EJ g m cap))(hi:i<m)(h:EB w g (i*3+1) (.string S))(j:EB w g (i*3+2) (.bool true))(a0:¬at'<0)(a1:¬(S.size:Int)<=at')(a2:¬by'<1)(a3:¬255<by'):D7 179 #[Ey x,Z i,Z at',Z by'] w (Z 18) λe=>e=w:=by
 have hl:=Gv x8;obtain⟨u,y,B,D⟩:¬(i:Int)<0/\¬(m:Int)<=i/\0<=(i:Int)/\(i:Int)<m:=U;exact iC
theorem uH{to:Int}{s:Ac}{b:UInt8}(M:by'=(b.toNat:Int))(x8:EB w x 8 (EJ g m cap))(hi:i<m)(D:EB w g (i*3) (Z to))(h1:EB w g (i*3+1) (.string (str s)))(h2:EB w g (i*3+2) (.bool false))(hz:∀o,w.frozen? (Y g o)=false)(hk:k<s.length)(hs:s.length<=21)(a2:¬by'<1)(e:World->Prop)(y:∀o,e (((((w.setCell (Y g (i*3)) (Z to)).setCell (Y g (i*3+1)) (.string (str (s.set k ((s.getD k 0) ^^^ b))))).setCell (Y g (i*3+2)) (.bool true)).alloc o).drew)):D7 179 #[Ey x,Z i,Z k,Z by'] w (Z 0) λw'=>e w':=by
 have⟨hl,T⟩:=KM x8 D;obtain⟨q0,q1,q2,q3⟩:¬(i:Int)<0/\¬(m:Int)<=i/\0<=(i:Int)/\(i:Int)<m:=U;have X:=Er s;obtain⟨q4,q5,q6⟩:¬(k:Int)<0/\¬((str s).size:Int)<=(k:Int)/\(k:Int)<((str s).size:Int):=U;have q7:¬255<by':=by have:=b.toNat_lt;omega
 have q8:0<=(k:Int):=U;have j:=Dx y;have e1:IntKind.i64.wrap ((k:Int)+1)=(k:Int)+1:=Iz;have Q:k<=s.length:=U;have B:k+1<=s.length:=U;have aa:=hz (i*3);have ab:=hz (i*3+1);have ac:=hz (i*3+2);obtain⟨C,hC⟩:∃C,(str s)[k]'U ^^^ b=C:=⟨_,rfl⟩;have h:=(CG (· ^^^ b) (vY s k hk).symm).trans hC;have O:=fJ w C;clear y hz;go_enter func179,ntmps179;go_wp2_with fail
 rw[aah,hC]
 go_region
 all_goals
  rw[show (str s).extract 0 k++str [C]++(str s).extract (k+1) s.length=str (s.set k C) from nt s k C hk];have u:=Dx (j (.cells #[.int .u8 (C.toNat:Int)] 5));rw[Dw h]at u;clear j;go_wp2;go_returns;exact⟨rfl,u⟩
theorem wh(e:fl[i]?=some f):(((tab FN fl).set (i*3) (Z f'.to)).set (i*3+1) (.string (str f'.s))).set (i*3+2) (.bool f'.Ij)=tab FN (fl.set i f'):=by
 have hi:=GG e;have s0:=J6 FY fl i 0 f ⟨f'.to,f.s,f.Ij⟩ (Z f'.to) e U rfl;have s1:=J6 FY (fl.set i ⟨f'.to,f.s,f.Ij⟩) i 1 ⟨f'.to,f.s,f.Ij⟩ ⟨f'.to,f'.s,f.Ij⟩ (.string (str f'.s)) (by simp[hi]) U rfl;have s2:=J6 FY ((fl.set i ⟨f'.to,f.s,f.Ij⟩).set i ⟨f'.to,f'.s,f.Ij⟩) i 2 ⟨f'.to,f'.s,f.Ij⟩ f' (.bool f'.Ij) (by simp[hi]) U rfl;rw[Cz]at s0;rw[s0,s1,s2];simp
theorem oe(h:w.ownsRow 0 304 3 (EJ g n cap) n (tab FN fl))(X:fl[i]?=some f)(o:Obj){W:Aa}(D:W=((((w.setCell (Y g (i*3)) (Z f'.to)).setCell (Y g (i*3+1)) (.string (str f'.s))).setCell (Y g (i*3+2)) (.bool f'.Ij)).alloc o).drew):W.ownsRow 0 304 3 (EJ g n cap) n (tab FN (fl.set i f'))/\DF (λk=>k=g) w W:=by
 have hi:=GG X;have Q:DF (λk=>k=g) w W:=by
  rw[D];exact(((((DF.refl (λk=>k=g) w).setCell (p:=(Y g (i*3))) (Aj rfl) _).setCell (p:=(Y g (i*3+1))) (Aj rfl) _).setCell (p:=(Y g (i*3+2))) (Aj rfl) _).alloc _).drew
 refine⟨⟨by rw[F8 FY,BG,<-F8 FY];exact h.1,Am ?_⟩,Q⟩;have hl:=h.1;rw[F8 FY]at hl;rcases h.2 with ⟨O,_⟩|⟨g',B,e,hv,T,M,hc,j,y,ab⟩
 ·cases O
 ·cases hv;have u:w.heap[g]?=some (.cells e.toList.toArray 304 (0,0)):=by rw[M]
  have aa:=(AB.1 M).1;have h3:=Ek (off:=i*3+2) (Ek (off:=i*3+1) (Ek (off:=i*3) u (Z f'.to)) (.string (str f'.s))) (.bool f'.Ij);refine⟨g,cap,(((e.toList.set (i*3) (Z f'.to)).set (i*3+1) (.string (str f'.s))).set (i*3+2) (.bool f'.Ij)).toArray,rfl,T,?_,hc,j,by simpa using y,?_⟩
  ·rw[D];show ((((w.setCell (Y g (i*3)) (Z f'.to)).setCell (Y g (i*3+1)) (.string (str f'.s))).setCell (Y g (i*3+2)) (.bool f'.Ij)).alloc o).heap[g]?=_
   grind [Below.heap_alloc]
  grind [List.take_set,wh]
theorem RW.Sf(h:RW x v F G w)(i at' by':Int):D7 179 #[Ey x,Z i,Z at',Z by'] w (Z (R.Jz G i at' by').1) λB=>∃v' D,RW x v' D (R.Jz G i at' by').2 B/\D8 F D w B:=by
 have⟨a,cc,hK,x8⟩:=h.VJ;unfold R.Jz;by_cases X:R.off G i
 ·rw[Ay X];refine cs (nk x8 X) ?_
  grind [D8.refl]
 ·rw[Ao X];unfold R.off at X;obtain⟨n,rfl⟩:∃n:Nat,i=(n:Int):=⟨i.toNat,U⟩;have hn:n<G.Ej.length:=U;obtain⟨f,T⟩:∃f,G.Ej[n]?=some f:=⟨_,Ah hn⟩;simp only[AY,T];have⟨g,cap,hv,ak,hc,hz⟩:=Jx FY U h.JC T;have hrow:=h.JC;rw[hv]at hrow;have ae:=hv;rw[hK]at hv;cases hv;have k0:=hc 0 _ U rfl;have k1:=hc 1 _ U rfl;have k2:=hc 2 _ U rfl;have ad:((str f.s).size:Int)=(f.s.length:Int):=by rw[Er]
  by_cases hr:at'<0\/(f.s.length:Int)<=at'\/by'<1\/255<by'
  ·rw[Ay hr];refine(nj x8 hn k1 (by rw[ad];exact hr)).mono ?_;rintro e B ⟨rfl,rfl⟩
   grind [D8.refl]
  ·rw[Ao hr];by_cases M:f.Ij=true
   ·rw[Ay M];rw[M]at k2;refine cs (fF x8 hn k1 k2 U U U U) ?_
    grind [D8.refl]
   ·rw[Ao M];rw[Bool.not_eq_true]at M;rw[M]at k2;obtain⟨k,rfl⟩:∃k:Nat,at'=(k:Int):=⟨at'.toNat,U⟩;have hwf:=h.wf;have u:=hwf.JX f (Ap T);have aa:by'=((b8 by').toNat:Int):=by grind [b8,UInt8.toNat_ofNat']
    simp only[AY];have Q:R.Wf {G with Ej:=G.Ej.set n ⟨f.to,f.s.set k ((f.s.getD k 0) ^^^ b8 by'),true⟩}:=by
     refine⟨hwf.cf,hwf.N5,λj c hc=>?_,by simpa using hwf.JC,λy hy=>?_,hwf.sv,hwf.R7,hwf.nm,hwf.st,hwf.nd,hwf.Pn⟩
     ·exact wN
     ·rcases BJ hy with q|q
      ·exact hwf.JX y q
      ·rw[q];simpa using u
    refine(uH aa x8 hn k0 k1 k2 hz U u U (λB=>∃v' D,RW x v' D {G with Ej:=G.Ej.set n ⟨f.to,f.s.set k ((f.s.getD k 0) ^^^ b8 by'),true⟩} B/\D8 F D w B) (λo=>?_)).mono ?_
    ·have⟨am,O⟩:=oe (f':=⟨f.to,f.s.set k ((f.s.getD k 0) ^^^ b8 by'),true⟩) hrow T o rfl;have ab:¬x=g:=λe=>by
      exact wR
     refine h.Ms (K:=v.Fl) Q (O.mono (λk _ e=>Am (by rw[ae,e];rfl))) (O.at h.bx ab) ?_ (λj hj=>Aj hj)
     grind
    grind
theorem Mp.aeU{α:Type}{k t:Ag}{lit:α->Lit}{g:α->Option Int}(h:Mp w k b lit g n)(K:Keyed Tryz.prog k)(y:Tryz.prog.underlying t=some (.map k 3)){key:Ad}{a:α}(e:keyOf Tryz.prog k key=some (lit a)):(Instr.lookup t (.map (some b)) key false).run Tryz.prog w=.ok (.int .i64 ((g a).getD 0)) w:=by
 have⟨D,u,M,h3⟩:=h;obtain⟨v,O,j,B⟩:=u.lookup K y (acF) (plainElem_int Tryz.underlying3 (pK (by omega))) e;obtain⟨c,rfl,hc,_⟩:=plainElem_int_inv Tryz.underlying3 B;simp only[Prod.mk.injEq]at hc;rw[j];cases hg:g a with
 |some x=>
  have:=(h3 a).2 x hg;rw[hc.1]at this;cases this;rfl
 |none=>
  exact ab2
theorem LW.aeM(h:LW p F G w)(e:R.At G i k c l):i<3/\k<3:=by
 have j:=h.wf.cf;unfold R.GA at j;have u:=h.wf.N5;have y:=(h.wf.cl i c e.cl).DV;have B:=GG e.cl;have D:=GG e.ln;omega
theorem LW.Ea(h:LW p F G w)(D:R.At G i k c l)(h1:l.DK=1)(hP:P.DZ=(k:Int))(hr:EC P)(az:P.off=R.DL l.DC):
  D7 141 #[ptr (p.cb i),pv P] w Ep λT=>∃B,LW p B (if P.Ez=l.Ea then R.JS (if l.Ea+1<R.DL l.DC then R.EG (R.Eh G i k {l with Ea:=l.Ea+1}) i k false else R.Eh G i k {l with Ea:=l.Ea+1}) i k else G) T/\D8 F B w T:=by
 have⟨xs,x,hL,hR,hx,u,ad,an,am⟩:=h.DZ D.cl D.ln;have ak:=P4 h D.cl;have hi:=GG D.cl;have hk:=GG D.ln;have ah:=(h.wf.cl i c D.cl).DZ k l D.ln;have⟨z1,z2,ae,aN,aq,ao⟩:=ah.one h1;have⟨eu,em,ea,ew,et⟩:=u.one h1;have al:=(h.Gs i hi).2.1;have aS:c.DV.length=c.DV.length:=rfl;have ab:=ak.a3;have a6:=ad.a6;rw[ea]at a6;have a5:=ad.a5;rw[em]at a5;have b1:=R.IV ae.2;by_cases Q:P.Ez=l.Ea
 ·rw[Ay Q];have aV:=hr.2.2.2.2.2.2.2.1;have st:=GJ (j:=6) (x':={x with Ea:=l.Ea+1}) (v:=Z (l.Ea+1)) hL hx U rfl;have ac:DF (λq=>q=p.lb i) w (w.setCell ⟨p.lb i,k*10+6,none⟩ (Z (l.Ea+1))):=Eg _;have hT:=h.Sr (l':={l with Ea:=l.Ea+1}) D.cl hL hR an ac st.1 ⟨ah.D4,λ_=>⟨z1,z2,ae,by simp only;omega,aq,ao⟩⟩ ⟨u.DK,u.D4,u.Kw,λq=>⟨eu,em,rfl,ew,et⟩,u.two⟩ am;have hW:D8 F F w (w.setCell ⟨p.lb i,k*10+6,none⟩ (Z (l.Ea+1))):=⟨ac.mono (λq _ e=>by rw[e];exact al),λ_ q=>Aj q⟩;have M:=D.set {l with Ea:=l.Ea+1};refine qj (λT=>∃B,LW p B (if l.Ea+1<R.DL l.DC then R.EG (R.Eh G i k {l with Ea:=l.Ea+1}) i k false else R.Eh G i k {l with Ea:=l.Ea+1}) T/\D8 F B w T) _ hk hP ab a5 a6 (Eb hL) U Q (λw=>IC l.DC w U) (λO wa y=>?_) ?_ (λO wa y=>?_)
  ·have X:(w.setCell ⟨p.lb i,k*10+6,none⟩ (Z (l.Ea+1))).heap.size=w.heap.size:=Ev;rw[<-X]at y;refine cm ((hT.DG y).piece M.cl M.ln h1 O false) ?_;rintro T ⟨B,q1,q2⟩;rw[Ay O];exact⟨rfl,B,q1,(hW.trans (D8.D6 F y)).trans q2⟩
  ·rintro T ⟨B,q1,q2⟩;have aa:R.At (if l.Ea+1<R.DL l.DC then R.EG (R.Eh G i k {l with Ea:=l.Ea+1}) i k false else R.Eh G i k {l with Ea:=l.Ea+1}) i k {c with DV:=c.DV.set k {l with Ea:=l.Ea+1}} {l with Ea:=l.Ea+1}:=by
    split
    ·unfold R.EG;exact M.send _ _
    ·exact M
   refine cm (q1.rest aa h1) ?_;rintro b6 ⟨r1,r2⟩;exact⟨rfl,B,r1,q2.trans r2⟩
  ·have X:(w.setCell ⟨p.lb i,k*10+6,none⟩ (Z (l.Ea+1))).heap.size=w.heap.size:=Ev;rw[<-X]at y;rw[Ao O];exact⟨F,hT.DG y,hW.trans (D8.D6 F y)⟩
 ·rw[Ao Q];refine cm (acM hk hP ab a6 Q) λT y=>?_
  exact⟨rfl,F,h.DG y,D8.D6 F y⟩
theorem LW.rejected(h:LW p F G w)(j:R.At G i k c l)(h1:l.DK=1)(hP:P.DZ=(k:Int))(hr:EC P)(ah:P.off=2):
  D7 143 #[ptr (p.cb i),pv P] w Ep λw'=>∃F',LW p F' (R.Eh G i k {l with DK:=4+P.Ez}) w'/\D8 F F' w w':=by
 have⟨xs,x,B,hR,hx,y,am,ab,Q⟩:=h.DZ j.cl j.ln;have M:=P4 h j.cl;have hi:=GG j.cl;have hk:=GG j.ln;have X:=(h.wf.cl i c j.cl).DZ k l j.ln;have O:=(h.Gs i hi).2.1;have an:=hr.2.2.2.2.2.2.2.1;have aa:=y.Kw U;have T:=Dv B;refine Vr w (p.cb i) (p.lb i) c.DV.length k (4+P.Ez) P _ hk hP M.a3 U (λwa hb=>?_);have D:wa.heap[p.lb i]?=some (.cells (tab J7.cells xs).toArray 139 (0,0)):=by rw[hb.block _ T];exact B
 refine cm (TW wa (p.lb i) k (4+P.Ez) xs x (Lc Q) D hx) ?_;rintro w' ⟨q1,q2⟩;have u:=(DF.D6 hb _).trans q2;refine⟨rfl,F,?_,u.mono (λq _ e=>by rw[e];exact O),λ_ q=>Aj q⟩;refine h.Sr j.cl B hR ab u q1 ⟨X.D4,λq=>by simp only at q;omega⟩ ⟨rfl,y.D4,λ_=>aa,λq=>by simp only at q;omega,λq=>by simp only at q;omega⟩ ?_
 grind [Gg.nil]
theorem iG{a b:Int}(e:a=0\/a=1)(j:b=0\/b=1)(h:EU a=EU b):a=b:=aP U U U U h
theorem iq{l:Ac}{n:Int}(h:(l.length:Int)=8*n):R.DL l=n:=by
 unfold R.DL;omega
theorem mE{g:Int->Option Int}(h:Mp w 3 b Vl g n){u:Int}(hu:-9223372036854775808<=u/\u<=9223372036854775807):(Instr.lookup 131 (.map (some b)) (Z u) false).run prog w=.ok (Z ((g u).getD 0)) w:=
 h.aeU (int_keyed underlying3) underlying131 (keyOf_int_mk underlying3 (pK hu))
theorem V6{t:Ab}{v:List R.It}(h:R.Fi t v=some rb)(u:1<=rb.length):v≠[]:=λe=>by
 subst e;have j:=R.JK h;unfold R.Fi at h;rw[Ay j]at h;have⟨_,B,_,y,_⟩:=V.JO j;have:=Option.some.inj h;rw[y]at this;rw[<-this]at u;cases B<;>simp[V.Et]at u
theorem LW.uY(h:LW p F G w)(ht:JI w)(bS:¬F 0){M:R.Bk}(hI:R.Inv M G)(Q:R.At G i k c l)(h1:l.DK=1)(hP:P.DZ=(k:Int))(hr:EC P){d:R.Cd}{e:R.En}(hd:M ⟨i,c.DR,k,l.D4⟩=some d)(hdn:R.Kz G.Dy ⟨i,c.DR,k,l.D4⟩ d e rb)(ho:P.off=R.DL rb)(y:P.Ef=R.EY rb P.Ez):
  D7 142 #[ptr (p.cb i),pv P] w Ep λB=>∃F',LW p F' (R.IL G i P) B/\D8 F F' w B:=by
 have⟨xs,x,hL,hR,hx,aa,ac,bL,aV⟩:=h.DZ Q.cl Q.ln;have al:=P4 h Q.cl;have⟨bg,bj⟩:=h.aeM Q;have hi:=GG Q.cl;have hk:=GG Q.ln;have b3:=(h.wf.cl i c Q.cl).DZ k l Q.ln;have⟨z1,z2,b2,cE,cg,ce⟩:=b3.one h1;have⟨eu,em,ea,ew,et⟩:=aa.one h1;have⟨ec,ep,az⟩:=aa.two h1;have aS:=(h.Gs i hi).2.1;have c7:=hI.ln i c k l Q.cl Q.ln;have⟨d',w1,w2,w3,w4,w5,w6,w7⟩:=c7.pX h1;rw[hd]at w1;cases w1;have⟨bf,_⟩:=hI.bk _ d hd;have cP:=hr.2.2.2.2.2.2.2.1;have bz:=hr.2.2.2.2.2.2.1;have cQ:=R.IV b2.2;have cq:=R.ID (s:=l.DC) b2.1;have cM:=iq w6.2;have cR:=aa.Kw U;have a3:=ac.a3;rw[eu]at a3;have a5:=ac.a5;rw[em]at a5;have a6:=ac.a6;rw[ea]at a6;have a7:=ac.a7;rw[ec]at a7;have ct:rb.length<=70:=by
  exact ab9
 have cL:l.EK.length<=72:=by grind [R.Inv.unique]
 have cI:P.Ef.length<=8:=by rw[y,R.LA];omega
 have H1:Hid (∀w,D7 187 #[.string (str l.DC)] w (Z (R.DL l.DC)) λB=>B=w):=λw=>IC l.DC w U
 have H2:Hid (∀w,D7 187 #[.string (str l.EK)] w (Z l.DT) λB=>B=w):=λw=>by
  grind [IC]
 have cN:R.Ia G i P.DZ=l:=by rw[hP];exact Q.DZ
 have b4:R.IL G i P=if l.Ea<R.DL l.DC-1\/l.DT<P.Ez then G else if P.Ez=l.DT then (if l.DT+1=P.off then R.Eh G i k {l with EK:=l.EK++P.Ef,DT:=l.DT+1,Ea:=R.DL l.DC,DU:=(V.I8 l.to (l.EK++P.Ef)).2,DK:=2} else R.JS (R.LP (R.Eh G i k {l with EK:=l.EK++P.Ef,DT:=l.DT+1,Ea:=R.DL l.DC}) i P) i k) else R.LP G i P:=by grind [R.IL]
 rw[b4];by_cases hold:l.Ea<R.DL l.DC-1\/¬P.Ez=l.DT
 ·refine fV w (p.cb i) (p.lb i) c.DV.length k (R.DL l.DC) l.DT l.Ea P (str l.DC) (str l.EK) _ hk hP al.a3 a5 a6 a7 U H1 H2 hold (λq wa y=>?_) (λq1 q2 wa y=>?_)
  ·rw[Ay q];exact⟨F,h.DG y,D8.D6 F y⟩
  ·rw[Ao U,Ao U];refine cm ((h.DG y).got Q h1 hr bg bj hP) ?_;rintro B ⟨F',r1,r2⟩;exact⟨rfl,F',r1,(D8.D6 F y).trans r2⟩
 ·have br:¬l.Ea<R.DL l.DC-1:=λq=>hold (Aj q)
  have hm:P.Ez=l.DT:=by grind
  rw[Ao U,Ay hm];have s1:=GJ (j:=7) (x':={x with EK:=l.EK++P.Ef}) (v:=.string (str (l.EK++P.Ef))) hL hx U rfl;have s2:=GJ (j:=6) (x':={x with EK:=l.EK++P.Ef,Ea:=R.DL l.DC}) (v:=Z (R.DL l.DC)) s1.1 s1.2 U rfl;simp only[A5]at s2;have aq:DF (λq=>q=p.lb i) w (Mq w (p.lb i) k (str (l.EK++P.Ef)) (R.DL l.DC)):=(Eg _).trans (Eg _);have av:VA {l with EK:=l.EK++P.Ef,DT:=l.DT+1,Ea:=R.DL l.DC} {x with EK:=l.EK++P.Ef,Ea:=R.DL l.DC}:=⟨aa.DK,aa.D4,aa.Kw,λ_=>⟨eu,em,rfl,ew,et⟩,λ_=>⟨rfl,ep,az⟩⟩;have hT:=h.Sr (l':={l with EK:=l.EK++P.Ef,DT:=l.DT+1,Ea:=R.DL l.DC}) Q.cl hL hR bL aq s2.1 ⟨b3.D4,λ_=>⟨z1,z2,b2,by simp only;omega,cg,ce⟩⟩ av aV;have hW:D8 F F w (Mq w (p.lb i) k (str (l.EK++P.Ef)) (R.DL l.DC)):=⟨aq.mono (λq _ e=>by rw[e];exact aS),λ_ q=>Aj q⟩;have an:=Q.set {l with EK:=l.EK++P.Ef,DT:=l.DT+1,Ea:=R.DL l.DC};have X:(Mq w (p.lb i) k (str (l.EK++P.Ef)) (R.DL l.DC)).heap.size=w.heap.size:=Ev;have ae:=XW l.EK P.Ef;have bt:¬9223372036854775807<(str l.EK).size+(str P.Ef).size:=by rw[Er,Er];omega
  have bU:∀wa,Below w.heap.size (Mq w (p.lb i) k (str (l.EK++P.Ef)) (R.DL l.DC)) wa->JI wa:=λwa y=>by
   refine JI.DG (w:=Mq w (p.lb i) k (str (l.EK++P.Ef)) (R.DL l.DC)) (ht.E0 aq ?_) (by show Below _ _ _;rw[X];exact y);intro q;exact bS (by rw[q];exact aS)
  by_cases T:l.DT+1=P.off
  ·rw[Ay T];have ar:l.EK++P.Ef=rb:=by
    obtain⟨n,hn⟩:∃n:Nat,l.DT=(n:Int):=⟨l.DT.toNat,U⟩;have aN:l.EK=rb.take (8*n):=by
     exact abU
    rw[aN,y,hm,hn,R.Md,R.L6 (by rw[<-ho,<-T,hn];rfl)]
   have ah:V.I8 l.to (l.EK++P.Ef)=(0,e.DU):=by rw[ar,w4];exact R.Kq hdn.bytes
   have c8:=V6 hdn.bytes hdn.pos;have bX:GU G l.D5=R.NQ G.Dy d.D5:=by rw[w2];rfl
   have ca:x.Eo=d.Eo:=by
    have h3:l.DC.take 2=EU d.Eo:=by rw[w3];simp[R.Cd.J9,EU]
    rw[h3]at az;have hs:=R.Rj bf.sig;exact iG ep hs az.symm
   rw[ah];refine UC w (p.cb i) (p.lb i) (p.bm i) c.DV.length k (R.DL l.DC) l.DT l.Ea l.D5 x.Eo (GU G l.D5) P (str l.DC) (str l.EK) (λ_=>False) _ (λO B=>V.Row B w.heap.size O e.DU/\Below w.heap.size (Mq w (p.lb i) k (str (l.EK++P.Ef)) (R.DL l.DC)) B) hk hP al.a2 al.a3 a3 ac.a4 a5 a6 a7 (Eb hL) (Eb hL) (ES (h.cl i c Q.cl) hL Em) U br hm bz bt H1 H2 (λq wa y=>absurd (show P.Ez=P.off-1 by omega) q) (λB q=>q.elim) (λq wa y=>?_) (λq wa y=>?_) ?_
   ·rw[<-ae]at y;have D:=y;rw[<-X]at D;have bV:=(hT.DG D).Ee i _ an.cl;have bW:l.D5∈c.Ee:=by rw[w2];exact w5
    have:=mE bV (u:=l.D5) U;rw[this];have e1:GY (R.Eh G i k {l with EK:=l.EK++P.Ef,DT:=l.DT+1,Ea:=R.DL l.DC}) {c with DV:=c.DV.set k {l with EK:=l.EK++P.Ef,DT:=l.DT+1,Ea:=R.DL l.DC}} l.D5=some (GU G l.D5):=by
     unfold GY;rw[Ay bW];rfl
    rw[e1];rfl
   ·rw[<-ae]at y ⊢;have D:=y;rw[<-X]at D;refine(Sj (GU G l.D5) x.Eo d.LO d.to (by rw[bX,ca];exact bf.sig) (l.EK++P.Ef) e.DU (by rw[<-w4];exact ah) wa (bU wa y)).mono ?_;rintro e1 B ⟨⟨O,rfl,ab⟩,ao⟩;have⟨ra,rn,rc,hO⟩:=Ei ab;subst hO;exact⟨ra,rn,rc,rfl,V.GL ab (by have:=y.size;rw[X]at this;exact this),y.trans (ao.mono (by have:=y.size;rw[X]at this;exact this))⟩
   ·rintro ra rn rc B ⟨ab,ao⟩;have ak:=ao;rw[<-X]at ak;have⟨bi,bp⟩:=ND ab c8;have ba:=hT.DG ak;have b9:B.heap[p.lb i]?=some (.cells (tab J7.cells (xs.set k {x with EK:=l.EK++P.Ef,Ea:=R.DL l.DC})).toArray 139 (0,0)):=by rw[ao.block _ (Dv hL)];exact s2.1
    refine(YF B (p.lb i) k ra rn rc (xs.set k {x with EK:=l.EK++P.Ef,Ea:=R.DL l.DC}) {x with EK:=l.EK++P.Ef,Ea:=R.DL l.DC} (Lc aV) b9 s2.2).mono ?_;rintro e2 ci ⟨rfl,q1,q2⟩;have b5:=ba.wide (F':=λj=>F j\/(Value.slice ra rn rc).ownBlock=some j) (λ_ q=>Aj q) (λj hj=>by
     rcases hj with hj|hj
     ·exact ba.lt j hj
     ·exact(bp j hj).2)
    have b1:=aq.trans (DF.D6 ak _);have be:Pp w F (λq=>q=p.lb i):=Pp.one hL Em;have g2:=hR.set (k:=k) av;have g3:Iq B (λj=>F j\/(Value.slice ra rn rc).ownBlock=some j) (c.DV.set k {l with EK:=l.EK++P.Ef,DT:=l.DT+1,Ea:=R.DL l.DC}) (xs.set k {x with EK:=l.EK++P.Ef,Ea:=R.DL l.DC}):=(bL.KC b1 be (λ_ q=>Aj q)).set (aV.KC b1 be (λ_ q=>Aj q));have cp:=b5.Sr (k:=k) (l':={l with EK:=l.EK++P.Ef,DT:=l.DT+1,Ea:=R.DL l.DC,DU:=e.DU,DK:=2}) (x':={Qb 2 x.D4 with rv:=.slice ra rn rc}) an.cl b9 g2 g3 q2 q1 ⟨b3.D4,λq=>by simp only at q;omega⟩ ⟨rfl,aa.D4,λq=>absurd rfl q,λq=>by simp only at q;omega,λq=>by simp only at q;omega⟩ (bi.keep (DF.refl (λ_=>False) B) (λ_ _ _ _ q=>q) (λ_ q=>Am q));refine⟨rfl,λj=>F j\/(Value.slice ra rn rc).ownBlock=some j,?_,?_,λj hj=>?_⟩
    ·grind [Pm]
    ·exact(b1.trans q2).mono (λq _ e=>by rw[e];exact aS)
    grind
  ·have bq:=T;rw[Ao bq];refine UC w (p.cb i) (p.lb i) (p.bm i) c.DV.length k (R.DL l.DC) l.DT l.Ea l.D5 x.Eo (GU G l.D5) P (str l.DC) (str l.EK) (λB=>∃F',LW p F' (R.LP (R.Eh G i k {l with EK:=l.EK++P.Ef,DT:=l.DT+1,Ea:=R.DL l.DC}) i P) B/\D8 F F' w B) _ (λO B=>V.Row B w.heap.size O e.DU/\Below w.heap.size (Mq w (p.lb i) k (str (l.EK++P.Ef)) (R.DL l.DC)) B/\l.DT+1=P.off/\l.EK++P.Ef=rb) hk hP al.a2 al.a3 a3 ac.a4 a5 a6 a7 (Eb hL) (Eb hL) (ES (h.cl i c Q.cl) hL Em) U br hm bz bt H1 H2 (λq wa y=>?_) ?_ (λq wa y=>?_) (λq wa y=>?_) ?_
   ·rw[<-ae]at y;have D:=y;rw[<-X]at D;refine cm ((hT.DG D).got an h1 hr bg bj hP) ?_;rintro B ⟨F',r1,r2⟩;exact⟨rfl,F',r1,(hW.trans (D8.D6 F D)).trans r2⟩
   ·rintro B ⟨F',r1,r2⟩;have bb:R.At (R.LP (R.Eh G i k {l with EK:=l.EK++P.Ef,DT:=l.DT+1,Ea:=R.DL l.DC}) i P) i k {c with DV:=c.DV.set k {l with EK:=l.EK++P.Ef,DT:=l.DT+1,Ea:=R.DL l.DC}} {l with EK:=l.EK++P.Ef,DT:=l.DT+1,Ea:=R.DL l.DC}:=by
     unfold R.LP;exact an.send _ _
    refine cm (r1.rest bb h1) ?_;rintro ci ⟨g1,g2⟩;exact⟨rfl,F',g1,r2.trans g2⟩
   ·exact absurd q U
   ·exact absurd q U
   ·rintro ra rn rc B ⟨_,_,q,_⟩;exact absurd q bq
end Go.Proofs.YtblomippkddgiaaGreatDoor
