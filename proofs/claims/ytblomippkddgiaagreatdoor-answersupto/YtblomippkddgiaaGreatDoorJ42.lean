import Derived.Test.YtblomippkddgiaaGreatDoorJ41
set_option maxRecDepth 100000
set_option maxHeartbeats 8000000
namespace Go.Proofs.YtblomippkddgiaaGreatDoor
open Go.Proofs.Tryz
open Go.RowKit
variable {S:ByteArray}{F:D9}{N cap g k n x:Nat}{o:LD}{P:Pk}{M:R.Bk}{G:R.Wd}{v:RV}{t:Tw}{w:World}
theorem RW.heard(h:RW x v F G w)(hI:R.Inv M G)(hr:EC P){to:Int}(br:to≠-1)(hp:R.Tj M G.Dy to P):
  D7 226 #[Ey x,Z to,pv P] w Ep λw'=>∃v' F',RM x v' F' (R.Kl G to P) w'/\D8 F F' w w':=by
 have⟨d,hd,hu,hk⟩:=hp;have⟨bi,i,c,k,l,r1,r2,r3,r4,r5,r6,r7,r8,r9⟩:=hI.bk _ d hd;simp only[R.JD]at r1 r3 r5 r6 r7 r8 r9;have hat:R.At G i k c l:=⟨r2,r4⟩;have b2:to=(i:Int):=by grind
 subst b2;have e0:R.Kl G i P=if l.DK≠1\/P.DR≠c.DR\/P.D4≠l.D4 then G else if P.Dz=2 then (if P.Ez=l.Ea then R.JS (if l.Ea+1<R.DL l.DC then R.EG (R.Eh G i k {l with Ea:=l.Ea+1}) i k false else R.Eh G i k {l with Ea:=l.Ea+1}) i k else G) else if P.Dz=4 then R.JS G i k else if P.Dz=5 then R.IL G i P else if P.Dz=7 then R.Eh G i k {l with DK:=4+P.Ez} else G:=by
  unfold R.Kl;simp only;rw[r3,hat.DZ,R.GH hat.cl]
 rw[e0];have⟨lb,D⟩:=h.toRM.lb hat.cl;have⟨g,cap,hC⟩:=h.toRM.hdc hat.cl hat.ln D;have same:∀W,DY w W->∃v' F',RM x v' F' G W/\D8 F F' w W:=λW f=>⟨v,F,h.toRM.DG f,D8.D6 F f⟩
 by_cases aS:l.DK≠1\/P.DR≠c.DR\/P.D4≠l.D4
 ·rw[Ay aS];refine cm (nT w x i k g _ cap lb _ c.DR l P r3 hC U) λw' hb=>?_
  exact⟨rfl,same w' hb⟩
 rw[Ao aS];have h1:l.DK=1:=by grind
 have Q:P.DR=c.DR:=by grind
 have T:P.D4=l.D4:=by grind
 have aV:=(h.wf.cl i c hat.cl).DZ k l hat.ln;have⟨z1,z2,aN,bg,b4,b3⟩:=aV.one h1;have bp:=R.IV aN.2;have B:Hid (∀W,D7 220 #[.string (str l.DC),Z 0] W (.tuple #[.string (str (R.EY l.DC 0)),Z (R.DL l.DC)]) λw'=>w'=W):=λW=>Ma l.DC 0 U U W
 have hkey:R.JD P=⟨i,c.DR,k,l.D4⟩:=by simp[R.JD,r1,r3,Q,T]
 have X:∀W,DY w W->RsC W x lb G.c.Ew G.c.DW:=λW f=>(h.toRM.DG f).rsc hat.cl D
 have bq:=hr.2.2.2.2.2.2.2.1;have bj:=hr.2.2.2.2.2.2.1;by_cases k2:P.Dz=2
 ·rw[Ay k2];by_cases aa:P.Ez=l.Ea
  ·rw[Ay aa];have hA:∀W,DY w W->_:=λW f=>(h.toRM.DG f).abb (l':={l with Ea:=l.Ea+1}) hat.cl hat.ln U D (j:=6) (u:=Z (l.Ea+1)) U rfl (hI.ln i c k l hat.cl hat.ln |>.none U)
   have⟨sc,sl⟩:=UN hat.cl hat.ln {l with Ea:=l.Ea+1};have ba:P.off=R.DL l.DC:=by
    exact afO
   by_cases hm:l.Ea+1<R.DL l.DC
   ·rw[Ay hm];refine ZV w x i k g _ cap lb _ c.DR l P _ _ _ r3 hC h1 Q T G.c.Ew G.c.DW (λw'=>∃v' F',RM x v' F' (R.EG (R.Eh G i k {l with Ea:=l.Ea+1}) i k false) w'/\D8 F F' w w'/\v'.M3=v.M3) k2 aa U hm B (λW f=>(X W f).z) (λW f=>?_) (λW' hq=>?_)
    ·have⟨v1,F1,a1,a2,a3⟩:=hA w (AA _ _);have hsz:(w.setCell (Y lb (k*11+6)) (Z (l.Ea+1))).heap.size=w.heap.size:=Ev;rw[<-hsz]at f;have R1:RW x v1 F1 _ _:=⟨a1,h.wf.Eh (l':={l with Ea:=l.Ea+1}) ⟨aV.D4,λ_=>⟨z1,z2,aN,by simp only;omega,b4,b3⟩⟩,h.GQ⟩;refine cm ((R1.DG f).UK sc sl h1 (by exact hm) false) ?_;rintro w' ⟨v2,F2,m1,m2,m3⟩;exact⟨rfl,v2,F2,m1.toRM,(a2.trans (D8.D6 F1 f)).trans m2,(RV.eU m3).trans a3⟩
    ·have⟨v2,F2,m1,m2,m3⟩:=hq;have ak:(R.EG (R.Eh G i k {l with Ea:=l.Ea+1}) i k false).DI[i]?=some {c with DV:=c.DV.set k {l with Ea:=l.Ea+1}}:=by
      unfold R.EG;rw[K7];exact sc
     have av:(R.EG (R.Eh G i k {l with Ea:=l.Ea+1}) i k false).c=G.c:=by
      unfold R.EG;rw[R.Mb];rfl
     have y:v2.M3[i]?=some lb:=by rw[m3];exact D
     have⟨g2,aq,ad⟩:=m1.hdc ak sl y;have O:=m1.rsc ak y;rw[av]at O;refine⟨O,ad.ln,λW2 hb2=>?_⟩;have⟨v3,F3,n1,n2,n3⟩:=m1.rest ak sl (by show l.DK≠2;omega) y;rw[av]at n1 n2;exact abx
   ·rw[Ao hm];refine ZU w x i k g _ cap lb _ c.DR l P _ _ _ r3 hC h1 Q T G.c.Ew G.c.DW k2 aa U hm B (λW f=>⟨X W f,λW' m=>?_⟩);have⟨v1,F1,a1,a2,a3⟩:=hA W f;have az:v1.M3[i]?=some lb:=by rw[a3];exact D
    have⟨v3,F3,n1,n2,n3⟩:=a1.rest sc sl (by show l.DK≠2;omega) az;have hsz:(Qo (W.setCell (Y lb (k*11+6)) (Z (l.Ea+1))) lb k G.c.Ew G.c.DW).heap.size=W.heap.size:=Ev;rw[<-hsz]at m;exact⟨v3,F3,n1.DG m,(((D8.D6 F f).trans a2).trans n2).trans (D8.D6 F3 m)⟩
  ·rw[Ao aa];exact XK w x i k g _ cap lb _ c.DR l P _ _ _ r3 hC h1 Q T k2 aa B same
 rw[Ao k2];by_cases k4:P.Dz=4
 ·rw[Ay k4];refine ZW w x i k g _ cap lb _ c.DR l P _ _ _ r3 hC h1 Q T G.c.Ew G.c.DW k4 B (λW f=>⟨X W f,λW' m=>?_⟩);have⟨v3,F3,n1,n2,n3⟩:=(h.toRM.DG f).rest hat.cl hat.ln U D;have hsz:(Qo W lb k G.c.Ew G.c.DW).heap.size=W.heap.size:=Ev;rw[<-hsz]at m;exact⟨v3,F3,n1.DG m,((D8.D6 F f).trans n2).trans (D8.D6 F3 m)⟩
 rw[Ao k4];by_cases k5:P.Dz=5
 ·rw[Ay k5];rw[hkey]at hd hk;rcases hk with ⟨q,_⟩|⟨q,_⟩|⟨q,_⟩|⟨q,_⟩|⟨_,_,e,rb,q1,q2,q3⟩|⟨q,_⟩|⟨q,_⟩
  ·omega
  ·omega
  ·omega
  ·omega
  ·have⟨b,Gm,hR⟩:=h.DU hI hat h1 r3 hr hd q1 q2 q3;refine fW w x i k g _ cap lb _ c.DR l P _ _ _ r3 hC h1 Q T G.c.Ew G.c.DW b (λw'=>∃v' F',RM x v' F' Gm w'/\D8 F F' w w'/\v'.M3=v.M3) k5 B hR.call (λhb W' hq=>?_) (λhb W' hq=>?_)
   ·have⟨v2,F2,m1,m2,m3⟩:=hq;rw[hR.no hb];exact⟨v2,F2,m1,m2⟩
   ·have⟨v2,F2,m1,m2,m3⟩:=hq;have⟨er,ec,c',l',ah,aw,b1⟩:=hR.N3 hb;rw[er];have y:v2.M3[i]?=some lb:=by rw[m3];exact D
    have⟨g2,aq,ad⟩:=m1.hdc ah aw y;have O:=m1.rsc ah y;rw[ec]at O;refine⟨O,⟨_,ad.ln.l9⟩,⟨_,ad.ln.l10⟩,λW2 hb2=>?_⟩;have⟨v3,F3,n1,n2,n3⟩:=m1.rest ah aw b1 y;rw[ec]at n1 n2;exact abx
  ·omega
  ·omega
 rw[Ao k5];have k7:P.Dz=7:=by grind
 rw[Ay k7];refine ZX w x i k g _ cap lb _ c.DR l P _ _ _ r3 hC h1 Q T k7 U B (λW f=>⟨(X W f).z,λW' m=>?_⟩);have⟨v1,F1,a1,a2,a3⟩:=(h.toRM.DG f).abb (l':={l with DK:=4+P.Ez}) hat.cl hat.ln U D (j:=1) (u:=Z (4+P.Ez)) U rfl (hI.ln i c k l hat.cl hat.ln |>.none U);have hsz:(W.setCell (Y lb (k*11+1)) (Z (4+P.Ez))).heap.size=W.heap.size:=Ev;rw[<-hsz]at m;exact⟨v1,F1,a1.DG m,((D8.D6 F f).trans a2).trans (D8.D6 F1 m)⟩
abbrev af5(w:Aa)(k c li ln sq u pa o:Int)(pl:Bool)(S:Ab):World:=w.alloc (.cells #[Z k,Z c,Z li,Z ln,Z sq,Z u,Z pa,Z o,.bool pl,.string S] 41)
theorem cW(w:Aa)(k c li ln f u pa o:Int)(e:Bool)(S:Ab):DY w (af5 w k c li ln f u pa o e S):=F9
abbrev aa9(b:Bool)(w:Aa):Ending->World->Prop:=λe w'=>e=.returned (.bool b)/\Below w.heap.size w w'
theorem XF(p:Pk)(w:Aa):ET 213 #[pv p] w (aa9 (decide (EC p)) w):=by
 have⟨k,c,f,ln,h,u,pa,o,m,Ef⟩:=p;have HB:=Dx (cW w k c f ln h u pa o m (str Ef));obtain⟨b,j⟩:∃b,decide (EC ⟨k,c,f,ln,h,u,pa,o,m,Ef⟩)=b:=⟨_,rfl⟩;rw[j];have HR:=Dx j;clear j;have y:=Er Ef;have HS:=Dx y;clear y;show ET 213 #[S9 k c f ln h u pa o m (str Ef)] w _;by_cases h0:k<1;rotate_left;by_cases h1:7<k;rotate_left;by_cases h2:c<0;rotate_left;by_cases h3:2<c;rotate_left;by_cases h4:f<1;rotate_left;by_cases h5:255<f;rotate_left;by_cases h6:ln<0;rotate_left;by_cases h7:2<ln;rotate_left;by_cases e:h<1;rotate_left;by_cases h9:999<h;rotate_left;by_cases B:u<1;rotate_left;by_cases D:255<u;rotate_left;by_cases O:o<1;rotate_left;by_cases Q:9<o;rotate_left;by_cases T:pa<0;rotate_left;by_cases X:o<=pa;rotate_left;by_cases k1:k=1\/k=5
 ·by_cases e:((str Ef).size:Int)=8;rotate_left;by_cases hp:pa=o-1
  ·subst hp;have e:(((str Ef).size:Int)==8)=false:=by simpa using e
   exact afH
  have e:(((str Ef).size:Int)==8)=false:=by simpa using e
  all_goals
   exact afH
 ·have k5:(k != 1)=true:=Fy;have k6:(k != 5)=true:=Fy;go_enter func213,ntmps213;go_wp2
  go_ret
  refine⟨?_,HB⟩;refine CG (λx=>Ending.returned (.bool x)) ?_;rw[<-HR.out,BH];clear HB HR HS;simp[EC,Ju,k1]
  grind
 all_goals
  go_enter func213,ntmps213;go_wp2
  go_ret
  refine⟨?_,HB⟩;rw[<-HR.out,decide_eq_false λhr=>by simp only[EC]at hr;omega];rfl
abbrev zL(r:Option Pk):Ending:=match r with
 |none=>.returned (.tuple #[NY,.int .i64 7])
 |some p=>.returned (.tuple #[pv p,.int .i64 0])
theorem aaU(c:UInt8):IntKind.i64.wrap (c.toNat:Int)=(c.toNat:Int):=by
 have:=c.toNat_lt;rw[BS];omega
theorem tN(c:UInt8):IntKind.i64.wrap (256*(c.toNat:Int))=256*(c.toNat:Int):=by
 have:=c.toNat_lt;rw[BS];omega
theorem qq(a c:UInt8):IntKind.i64.wrap (256*(a.toNat:Int)+(c.toNat:Int))=256*(a.toNat:Int)+(c.toNat:Int):=by
 have:=a.toNat_lt;have:=c.toNat_lt;rw[BS];omega
theorem Vq(S:Ab)(w:Aa)(h:(S.size:Int)<13):D7 158 #[.string S] w (.tuple #[NY,Z 7]) λe=>DY w e:=by
 go_enter func158,ntmps158;go_wp2;refine Bm (v:=.tuple #[NY,Z 7]) (by simp[results,results158,go_sem]) rfl ⟨rfl,F9⟩
def aa8(S:Ab)(r:Bool)(ST:Ab)(v:Ad)(w:Aa):Ending->World->Prop:=λe w'=>e=.returned (if r=true/\ST=S then .tuple #[v,Z 0] else .tuple #[NY,Z 7])/\Below w.heap.size w w'
abbrev opened(S:Ab)(h13:13<=S.size):Array Value:=#[Z ((S[0]'(Ai (by decide) h13)).toNat:Int),Z ((S[1]'(Ai (by decide) h13)).toNat:Int),Z ((S[2]'(Ai (by decide) h13)).toNat:Int),Z ((S[3]'(Ai (by decide) h13)).toNat:Int),Z (256*((S[4]'(Ai (by decide) h13)).toNat:Int)+((S[5]'(Ai (by decide) h13)).toNat:Int)),Z ((S[6]'(Ai (by decide) h13)).toNat:Int),Z ((S[7]'(Ai (by decide) h13)).toNat:Int),Z ((S[8]'(Ai (by decide) h13)).toNat:Int),.bool (((S[9]'(Ai (by decide) h13)).toNat:Int)==1),.string (S.extract 11 (S.size-2))]
theorem XD(S ST:Ab)(r:Bool)(w:Aa)(e:13<=S.size)(hm:(S.size:Int)<=9223372036854775807)
  (aa:∀w,ET 213 #[.agg #[Z ((S[0]'(Ai Em e)).toNat:Int),Z ((S[1]'(Ai Em e)).toNat:Int),Z ((S[2]'(Ai Em e)).toNat:Int),Z ((S[3]'(Ai Em e)).toNat:Int),Z (256*((S[4]'(Ai Em e)).toNat:Int)+((S[5]'(Ai Em e)).toNat:Int)),Z ((S[6]'(Ai Em e)).toNat:Int),Z ((S[7]'(Ai Em e)).toNat:Int),Z ((S[8]'(Ai Em e)).toNat:Int),.bool (((S[9]'(Ai Em e)).toNat:Int)==1),.string (S.extract 11 (S.size-2))]] w (aa9 r w))
  (ab:r=true->∀w,D7 214 #[.agg #[Z ((S[0]'(Ai Em e)).toNat:Int),Z ((S[1]'(Ai Em e)).toNat:Int),Z ((S[2]'(Ai Em e)).toNat:Int),Z ((S[3]'(Ai Em e)).toNat:Int),Z (256*((S[4]'(Ai Em e)).toNat:Int)+((S[5]'(Ai Em e)).toNat:Int)),Z ((S[6]'(Ai Em e)).toNat:Int),Z ((S[7]'(Ai Em e)).toNat:Int),Z ((S[8]'(Ai Em e)).toNat:Int),.bool (((S[9]'(Ai Em e)).toNat:Int)==1),.string (S.extract 11 (S.size-2))]] w (.string ST) λm=>DY w m):
  ET 158 #[.string S] w (aa8 S r ST (.agg #[Z ((S[0]'(Ai Em e)).toNat:Int),Z ((S[1]'(Ai Em e)).toNat:Int),Z ((S[2]'(Ai Em e)).toNat:Int),Z ((S[3]'(Ai Em e)).toNat:Int),Z (256*((S[4]'(Ai Em e)).toNat:Int)+((S[5]'(Ai Em e)).toNat:Int)),Z ((S[6]'(Ai Em e)).toNat:Int),Z ((S[7]'(Ai Em e)).toNat:Int),Z ((S[8]'(Ai Em e)).toNat:Int),.bool (((S[9]'(Ai Em e)).toNat:Int)==1),.string (S.extract 11 (S.size-2))]) w):=by
 obtain⟨O,Q⟩:=FU aa ab;obtain⟨W,hW⟩:∃W,w.alloc (.cells zeroCells 41)=W:=⟨_,rfl⟩;have HW:=Dx hW;have ah:Hid (W.heap.size=w.heap.size+1):=by
  rw[<-hW];show _=_;simp
 have aq:Hid (W.heap[w.heap.size]?=some (.cells zeroCells 41 (0,0))):=by
  rw[<-hW];exact AF w _
 have ao:Hid (DY w W):=by
  rw[<-hW];exact F9
 clear hW aa ab;have h:¬(S.size:Int)<13:=U;have be:=Dx e;have hq:IntKind.i64.wrap ((S.size:Int)-2)=(S.size:Int)-2:=Iz;have av:(11:Int)<=(S.size:Int)-2:=U;have aw:(S.size:Int)-2<=(S.size:Int):=U;have l0:0<S.size:=U;have l1:(1:Int)<(S.size:Int):=U;have l2:(2:Int)<(S.size:Int):=U;have l3:(3:Int)<(S.size:Int):=U;have l4:(4:Int)<(S.size:Int):=U;have l5:(5:Int)<(S.size:Int):=U;have l6:(6:Int)<(S.size:Int):=U;have l7:(7:Int)<(S.size:Int):=U;have l8:(8:Int)<(S.size:Int):=U;have l9:(9:Int)<(S.size:Int):=U;have az:(0:Int)<=(S.size:Int)-2:=U;obtain⟨f,j⟩:∃f,aa8 S r ST (.agg #[Z ((S[0]'(Ai Em e)).toNat:Int),Z ((S[1]'(Ai Em e)).toNat:Int),Z ((S[2]'(Ai Em e)).toNat:Int),Z ((S[3]'(Ai Em e)).toNat:Int),Z (256*((S[4]'(Ai Em e)).toNat:Int)+((S[5]'(Ai Em e)).toNat:Int)),Z ((S[6]'(Ai Em e)).toNat:Int),Z ((S[7]'(Ai Em e)).toNat:Int),Z ((S[8]'(Ai Em e)).toNat:Int),.bool (((S[9]'(Ai Em e)).toNat:Int)==1),.string (S.extract 11 (S.size-2))]) w=f:=⟨_,rfl⟩;have X:=Dx j;rw[j];clear j;go_enter func158,ntmps158;go_wp2_with fail
 rw[Dw HW];refine wp_region_any EL ?_;try (change wpAny _ _ _ _ _ _ _ (World.drew _))
 refine NV 0 (h:=?_);refine NV 1 (h:=?_);refine NV 2 (h:=?_);refine NV 3 (h:=?_);refine NV 4 (h:=?_);refine NV 5 (h:=?_);refine NV 6 (h:=?_);refine NV 7 (h:=?_);refine NV 8 (h:=?_);refine NV 9 (h:=?_);refine NV 10 (h:=?_);refine NV 11 (h:=?_);refine NV 12 (h:=?_);refine NV 13 (h:=?_);refine NV 14 (h:=?_);refine NV 15 (h:=?_);refine NV 16 (h:=?_);refine NV 17 (h:=?_);refine NV 18 (h:=?_);refine NV 19 (h:=?_);refine NV 20 (h:=?_);refine NV 21 (h:=?_);refine NV 22 (h:=?_);refine NV 23 (h:=?_);refine NV 24 (h:=?_);refine NV 25 (h:=?_);refine NV 26 (h:=?_);refine NV 27 (h:=?_);refine NV 28 (h:=?_);refine NV 29 (h:=?_);refine NV 30 (h:=?_);refine NV 31 (h:=?_);refine NV 32 (h:=?_);refine NV 33 (h:=?_);refine NV 34 (h:=?_);refine NV 35 (h:=?_);refine NV 36 (h:=?_);refine NV 37 (h:=?_);simp only[aaU,tN,qq];refine wpAny_ready (rs:=[38]) EL Ev ?_;refine AllReady.cons rfl (λK hK=>?_) AllReady.nil;go_simp;refine hK _ _ ?_;clear hK K;refine wpAny_ready (rs:=[39]) EL Ev ?_;refine AllReady.cons rfl (λK hK=>?_) AllReady.nil;go_simp;refine hK _ _ ?_;clear hK K;refine wpAny_done EL ?_ _;generalize ((S[0]'(Ai Em e)).toNat:Int)=k at *;generalize ((S[1]'(Ai Em e)).toNat:Int)=c at *;generalize ((S[2]'(Ai Em e)).toNat:Int)=li at *;generalize ((S[3]'(Ai Em e)).toNat:Int)=ln at *;generalize 256*((S[4]'(Ai Em e)).toNat:Int)+((S[5]'(Ai Em e)).toNat:Int)=sq at *;generalize ((S[6]'(Ai Em e)).toNat:Int)=u at *;generalize ((S[7]'(Ai Em e)).toNat:Int)=pa at *;generalize ((S[8]'(Ai Em e)).toNat:Int)=o at *;generalize (((S[9]'(Ai Em e)).toNat:Int)==1)=pl at *;have am:((S.size:Int)-2).toNat=S.size-2:=U;rw[am];clear am;generalize S.extract 11 (S.size-2)=BD at *;generalize ((S[4]'(Ai Em e)).toNat:Int)=s4 at *;generalize ((S[5]'(Ai Em e)).toNat:Int)=s5 at *;generalize ((S[9]'(Ai Em e)).toNat:Int)=s9 at *;clear l0 l1 l2 l3 l4 l5 l6 l7 l8 l9 hq av aw az;go_wp2_with fail
 refine cm (O _) λw1 y=>?_
 have aN:=y.size;have T:=Dw ah;simp at aN;rw[T];have hz:=(y.block w.heap.size sto).trans ((AL W _ _ U).trans aq);have an:(W.alloc (.cells #[Z k,Z c,Z li,Z ln,Z sq,Z u,Z pa,Z o,.bool pl,.string BD] 41)).drew.heap[w.heap.size+1]?=some (.cells #[Z k,Z c,Z li,Z ln,Z sq,Z u,Z pa,Z o,.bool pl,.string BD] 41 (0,0)):=by
  rw[<-T];exact AF W _
 have hp:=(y.block (w.heap.size+1) sto).trans an;have ac:=Dx ((ao.alloc U (.cells #[Z k,Z c,Z li,Z ln,Z sq,Z u,Z pa,Z o,.bool pl,.string BD] 41)).drew.trans (y.mono sto));clear T ah y an;obtain⟨z0,z1,z2,z3,z4,z5,z6,z7,z8,z9⟩:=Yy hz;obtain⟨p0,p1,p2,p3,p4,p5,p6,p7,p8,p9⟩:=Yy hp;have cz:=Hf hz;obtain⟨HZ,ae⟩:=FU hz hp;clear hz hp;cases r with
 |false=>
  have HF:Hid (∀m,DY w m->f (.returned (.tuple #[NY,Z 7])) m):=λm hb=>by
   rw[<-Dw X];exact⟨Ev,hb⟩
  clear X Q O;go_wp2;exact Bm (v:=.tuple #[NY,Z 7]) (by simp[results,results158,go_sem,z0,z1,z2,z3,z4,z5,z6,z7,z8,z9]) rfl (HF _ (PV ac (Ar _) (Z 0) (Z 0) (Z 0) (Z 0) (Z 0) (Z 0) (Z 0) (Z 0) (.bool false) (.string ⟨#[]⟩)))
 |true=>
  have H7:=Dx (Q rfl);clear Q O;have bi:=Gv p0;go_wp2_with fail
  refine cm (H7 _) λw2 D=>?_
  have hy:=(D.block w.heap.size U).trans (Dw HZ);have hx:=(D.block (w.heap.size+1) U).trans (Dw ae);have ad:=Dx (ac.trans (D.mono U));clear D p0 p1 p2 p3 p4 p5 p6 p7 p8 p9 z0 z1 z2 z3 z4 z5 z6 z7 z8 z9 cz HZ ae;obtain⟨y0,y1,y2,y3,y4,y5,y6,y7,y8,y9⟩:=Yy hy;obtain⟨x0,x1,x2,x3,x4,x5,x6,x7,x8,x9⟩:=Yy hx;have cy:=Hf hy;clear hy hx;by_cases B:ST=S
  ·have HF:Hid (∀m,DY w m->f (.returned (.tuple #[.agg #[Z k,Z c,Z li,Z ln,Z sq,Z u,Z pa,Z o,.bool pl,.string BD],Z 0])) m):=λm hb=>by
    rw[<-Dw X];refine⟨?_,hb⟩;simp[B]
   subst B;clear X;go_wp2;exact Bm (v:=.tuple #[.agg #[Z k,Z c,Z li,Z ln,Z sq,Z u,Z pa,Z o,.bool pl,.string BD],Z 0]) (by simp[results,results158,go_sem,y0,y1,y2,y3,y4,y5,y6,y7,y8,y9]) rfl (HF _ (PV ad (Ar _) (Z k) (Z c) (Z li) (Z ln) (Z sq) (Z u) (Z pa) (Z o) (.bool pl) (.string BD)))
  ·have HF:Hid (∀m,DY w m->f (.returned (.tuple #[NY,Z 7])) m):=λm hb=>by
    rw[<-Dw X];refine⟨?_,hb⟩;simp[B]
   have bj:(!ST.toList==S.toList)=true:=by
    rw[Bool.not_eq_true',beq_eq_false_iff_ne];intro hh;rw[CH,CH]at hh;exact B (CJ (by simpa using hh))
   clear X B;go_wp2;exact Bm (v:=.tuple #[NY,Z 7]) (by simp[results,results158,go_sem,y0,y1,y2,y3,y4,y5,y6,y7,y8,y9]) rfl (HF _ (PV ad (Ar _) (Z 0) (Z 0) (Z 0) (Z 0) (Z 0) (Z 0) (Z 0) (Z 0) (.bool false) (.string ⟨#[]⟩)))
theorem T6(l:Ac)(i:Nat)(h:i<(str l).size):((str l)[i]'h)=l.getD i 0:=by grind [K8]
theorem RP(l:Ac)(w:Aa)(hl:l.length<=9223372036854775807):ET 158 #[.string (str l)] w λe m=>e=zL (Ut l)/\DY w m:=by
 have u:=Er l;unfold Ut;by_cases f:l.length<13
 ·all_goals grind [Vq]
 ·rw[Ao f];have j:13<=(str l).size:=U;have B:pv (XE l)=.agg (opened (str l) j):=by all_goals grind [Ho,XE,E5,T6]
  have h:=XD (str l) (str (Gq (XE l))) (decide (EC (XE l))) w j U ?_ ?_
  ·refine cm h λm y=>?_
   all_goals grind
  all_goals grind [XF,Ph]
theorem zO{a:Af}{i:Int}(x8:EB w x 8 (.slice a n cap))(h:i<0\/(¬i<0/\(n:Int)<=i)):
  D7 180 #[Ey x,Z i] w (Z 9) λe=>e=w:=by
 have j:=Gv x8;rcases h with h|⟨h,f⟩;all_goals
  go_enter func180,ntmps180;go_wp2;go_returns;exact⟨rfl,rfl⟩
structure DvC(w:Aa)(x g n cap k:Nat)(to:Int)(S:Ab)(Ij:Bool):Prop where
 x8:w.cell? (Y x 8)=some (EJ g n cap)
 hk:k<n
 c0:w.cell? (Y g (k*3))=some (Z to)
 c1:w.cell? (Y g (k*3+1))=some (.string S)
 c2:w.cell? (Y g (k*3+2))=some (.bool Ij)
abbrev qb(w:Aa)(x k:Nat)(to:Int)(S:Ab)(Ij:Bool)(Q:World->Prop):Prop:=Calls prog 175 #[Ey x,Z k] (w.alloc (.cells #[Z to,.string S,.bool Ij] 304)) λe w'=>(∃c,e=.returned (Z c))/\w'.heap[w.heap.size]?=some (.cells #[Z to,.string S,.bool Ij] 304 (0,0))/\Q w'
theorem uJ{to:Int}{Ij:Bool}(Q f:World->Prop)(h:DvC w x g n cap k to S Ij)(X:Hid (qb w x k to S Ij Q))
  (HO:Hid (∀j,Q j->D7 158 #[.string S] j (.tuple #[NY,Z 7]) λB=>DY j B))
  (HP:Hid (∀j D,Q j->DY j D->f D)):
  D7 180 #[Ey x,Z k] w (Z 0) λB=>f B:=by
 have⟨x8,hk,c0,c1,c2⟩:=h;obtain⟨q0,q1,q2,q3⟩:0<=(k:Int)/\(k:Int)<n/\¬(k:Int)<0/\¬(n:Int)<=k:=U;have⟨hx,hg⟩:=KM x8 c0;clear hk;go_enter func180,ntmps180;go_wp2_with (first|(go_at_call 175;refine X.mono ?_;rintro e j ⟨⟨c,rfl⟩,y,T⟩;have f1:=EI y 1;have hl:=Dv y;have HB:=Dx y;have O:=Dx T;clear y T)|(go_at_call 158;refine cm (HO _ O) λD u=>?_;have m:=Dx u;clear u))
 go_returns;exact⟨rfl,HP _ _ O (m.alloc m.size _)⟩
theorem nD{to:Int}(Q j:World->Prop)(h:DvC w x g n cap k to S true)(HD:Hid (qb w x k to S true Q))
  (HO:Hid (∀m,Q m->D7 158 #[.string S] m (.tuple #[pv P,Z 0]) λD=>DY m D))
  (HP:Hid (∀m y,Q m->DY m y->j y)):
  D7 180 #[Ey x,Z k] w (Z 0) λD=>j D:=by
 have⟨x8,hk,c0,c1,c2⟩:=h;obtain⟨q0,q1,q2,q3⟩:0<=(k:Int)/\(k:Int)<n/\¬(k:Int)<0/\¬(n:Int)<=k:=U;have⟨hx,hg⟩:=KM x8 c0;clear hk;go_enter func180,ntmps180;go_wp2_with (first|(go_at_call 175;refine HD.mono ?_;rintro e m ⟨⟨c,rfl⟩,B,T⟩;have f1:=EI B 1;have hl:=Dv B;have X:=Dx B;have O:=Dx T;clear B T))
 refine cm (HO _ O) λy f=>?_
 have g2:=ED ((f.block _ hl).trans X) 2 _ rfl;have aa:=Ai hl f.size;have ab:¬w.heap.size=y.heap.size:=U;have ac:¬y.heap.size=w.heap.size:=U;have u:=Dx f;clear f;go_wp2_with fail
 go_returns;exact⟨rfl,HP _ _ O (u.alloc u.size _)⟩
theorem nE(Q j:World->Prop)(h:DvC w x g n cap k (-1) S false)(HD:Hid (qb w x k (-1) S false Q))
  (HO:Hid (∀m,Q m->D7 158 #[.string S] m (.tuple #[pv P,Z 0]) λy=>DY m y))
  (HP:Hid (∀m B,Q m->DY m B->D7 225 #[Ey x,pv P] B Ep λy=>j y)):
  D7 180 #[Ey x,Z k] w (Z 0) λy=>j y:=by
 have⟨x8,hk,c0,c1,c2⟩:=h;obtain⟨q0,q1,q2,q3⟩:0<=(k:Int)/\(k:Int)<n/\¬(k:Int)<0/\¬(n:Int)<=k:=U;have⟨hx,hg⟩:=KM x8 c0;clear hk;go_enter func180,ntmps180;go_wp2_with (first|(go_at_call 175;refine HD.mono ?_;rintro e m ⟨⟨c,rfl⟩,D,hq⟩;have f1:=EI D 1;have hl:=Dv D;have T:=Dx D;have X:=Dx hq;clear D hq))
 refine cm (HO _ X) λB f=>?_
 have g2:=ED ((f.block _ hl).trans T) 2 _ rfl;have g0:=ED ((f.block _ hl).trans T) 0 _ rfl;have aa:=Ai hl f.size;have ab:¬w.heap.size=B.heap.size:=U;have ac:¬B.heap.size=w.heap.size:=U;have u:=Dx f;clear f;go_wp2_with (first|(go_at_call 225;refine cm (HP _ _ X (u.alloc u.size _)) λw3 hp=>?_;have O:=Dx hp;clear hp))
 go_returns;exact⟨rfl,O⟩
theorem uK{to:Int}(ab:¬to=-1)(Q j:World->Prop)(h:DvC w x g n cap k to S false)(HD:Hid (qb w x k to S false Q))
  (HO:Hid (∀m,Q m->D7 158 #[.string S] m (.tuple #[pv P,Z 0]) λy=>DY m y))
  (HP:Hid (∀m B,Q m->DY m B->D7 226 #[Ey x,Z to,pv P] B Ep λy=>j y)):
  D7 180 #[Ey x,Z k] w (Z 0) λy=>j y:=by
 have⟨x8,hk,c0,c1,c2⟩:=h;obtain⟨q0,q1,q2,q3⟩:0<=(k:Int)/\(k:Int)<n/\¬(k:Int)<0/\¬(n:Int)<=k:=U;have⟨hx,hg⟩:=KM x8 c0;clear hk;go_enter func180,ntmps180;go_wp2_with (first|(go_at_call 175;refine HD.mono ?_;rintro e m ⟨⟨c,rfl⟩,D,hq⟩;have f1:=EI D 1;have hl:=Dv D;have T:=Dx D;have X:=Dx hq;clear D hq))
 refine cm (HO _ X) λB f=>?_
 have g2:=ED ((f.block _ hl).trans T) 2 _ rfl;have g0:=ED ((f.block _ hl).trans T) 0 _ rfl;have aa:=Ai hl f.size;have ac:¬w.heap.size=B.heap.size:=U;have ad:¬B.heap.size=w.heap.size:=U;have u:=Dx f;clear f;go_wp2_with (first|(go_at_call 226;refine cm (HP _ _ X (u.alloc u.size _)) λw3 hp=>?_;have O:=Dx hp;clear hp))
 go_returns;exact⟨rfl,O⟩
theorem Pg(f:EC P):D7 158 #[.string (str (Gq P))] w (.tuple #[pv P,Z 0]) λe=>DY w e:=by grind [J4,Mm,RP,Zx,L8]
theorem RW.Ki(h:RW x v F G w)(hI:R.Inv M G)(i:Int):
  D7 180 #[Ey x,Z i] w (Z (R.Fv G i).1) λw'=>∃u F',RW x u F' (R.Fv G i).2 w'/\D8 F F' w w':=by
 have T:=hI.Ki i;suffices hs:D7 180 #[Ey x,Z i] w (Z (R.Fv G i).1) λw'=>∃u F',RM x u F' (R.Fv G i).2 w'/\D8 F F' w w' by
  refine cm hs ?_;rintro w' ⟨u,F',O,r2⟩;exact⟨rfl,u,F',O.whole T.wf T.ws,r2⟩
 have⟨a,cc,hK,x8⟩:=h.VJ;by_cases ho:R.off G i
 ·have e0:R.Fv G i=(9,G):=by
   unfold R.Fv;rw[Ay ho]
  rw[e0];refine(zO x8 (by unfold R.off at ho;omega)).mono ?_;rintro e w' ⟨rfl,rfl⟩;exact⟨rfl,v,F,h.toRM,D8.refl F w'⟩
 ·have ah:=ho;unfold R.off at ho;obtain⟨n,rfl⟩:∃n:Nat,i=(n:Int):=⟨i.toNat,U⟩;have hn:n<G.Ej.length:=U;obtain⟨f,hf⟩:∃f,G.Ej[n]?=some f:=⟨_,Ah hn⟩;have aa:=hI.fl f (Ap hf);have ae:=hI.erase n;have e0:R.Fv G (n:Int)=(0,if f.Ij=true then {G with Ej:=G.Ej.eraseIdx n} else match Ih f.s with
   |none=>{G with Ej:=G.Ej.eraseIdx n}
   |some p=>if f.to=-1 then R.KB {G with Ej:=G.Ej.eraseIdx n} p else R.Kl {G with Ej:=G.Ej.eraseIdx n} f.to p):=by
   unfold R.Fv;rw[Ao ah];simp only[AY];rw[hf];rfl
  have ed:(R.JM G (n:Int)).2={G with Ej:=G.Ej.eraseIdx n}:=by
   unfold R.JM;rw[Ao ah];rfl
  have an:f.s.length<=1000:=by
   have:=h.wf.JX f (Ap hf);omega
  have⟨g,cap,hV,aq,B,_⟩:=Jx FY (by have:=h.wf.JC;omega) h.JC hf;have m:DvC w x g G.Ej.length cap n f.to (str f.s) f.Ij:=⟨ED h.bx 8 _ (by rw[<-hV];rfl),hn,B 0 _ U rfl,B 1 _ U rfl,B 2 _ U rfl⟩;have Q:Hid (qb w x n f.to (str f.s) f.Ij (λy=>∃u F',RW x u F' {G with Ej:=G.Ej.eraseIdx n} y/\D8 F F' w y)):=by
   have hb:DY w (w.alloc (.cells #[Z f.to,.string (str f.s),.bool f.Ij] 304)):=F9;refine cm ((h.DG hb).drop (n:Int)) ?_;rintro w' ⟨u,F',O,r2⟩;rw[ed]at O;refine⟨⟨_,rfl⟩,r2.E0.at (AF w _) (λq=>?_),u,F',O,(D8.D6 F hb).trans r2⟩;have:=h.lt _ q;omega
  rw[e0];unfold R.Sc at aa;cases hb:f.Ij with
  |true=>
   rw[hb]at m Q;simp only[CQ];have hP:Hid (∀y w2,(∃u F',RW x u F' {G with Ej:=G.Ej.eraseIdx n} y/\D8 F F' w y)->DY y w2->∃u F',RM x u F' {G with Ej:=G.Ej.eraseIdx n} w2/\D8 F F' w w2):=λy w2 hq hb2=>by
    have⟨u,F',O,r2⟩:=hq;exact⟨u,F',O.toRM.DG hb2,r2.trans (D8.D6 F' hb2)⟩
   have j:=λy=>RP f.s y U
   cases X:Ut f.s with
   |none=>
    rw[X]at j;exact uJ _ _ m Q (λy _=>j y) hP
   |some P=>
    rw[X]at j;exact nD _ _ m Q (λy _=>j y) hP
  |false=>
   rw[hb]at m Q;rw[hb,Ao Ev]at aa;have⟨P,X,hs,ab⟩:=aa;simp only[Ao (show ¬(false:Bool)=true by simp)];rw[hs,L8 X];rw[hs]at m Q;simp only;by_cases D:f.to=-1
   ·rw[Ay D];rw[D]at ab m Q;refine nE _ _ m Q (λy _=>Pg X) ?_;rintro y w2 ⟨u,F',O,r2⟩ hb2;refine cm ((O.toRM.DG hb2).Gn ae X ab) ?_;exact acg
   ·rw[Ao D];refine uK D _ _ m Q (λy _=>Pg X) ?_;rintro y w2 ⟨u,F',O,r2⟩ hb2;refine cm ((O.DG hb2).heard ae X D ab) ?_;exact acg
theorem Xg(h:Ii N t w)(hk:o.Dz=14):
  D7 102 #[t.val,o.val] w (.bool true) λw'=>KA N t (t.G) w w':=by
 have⟨W1,e,f,m,u,B⟩:=Jc h o;have y:=Dx e;have T:=Dv m.t;have X:=Dv m.o;have c0:=EI m.t 0;have Q:(o.Dz==14)=true:=by rw[hk];rfl
 have D:=Dx u.l.Ej;have⟨fa,fc,_,x8⟩:=u.r.VJ;have lx:=Gv x8;have c1:=EI m.t 1;have O:=Dx (KA.ahead f ((u.adh (AA _ _)).rD (AA _ _)));generalize t.G.Ej.length=n at *;clear h e m f u hk;go_enter func102,ntmps102;go_wp2_with fail
 rw[Dw y];refine cm D λw2 j=>?_
 rw[j];clear j w2;go_wp2;go_returns;exact⟨rfl,O⟩
theorem dS(h:Ii N t w)(hk:o.Dz=15):
  D7 102 #[t.val,o.val] w (.bool true) λw'=>KA N t (t.G) w w':=by
 have⟨X,j,m,f,Q,u⟩:=Jc h o;have O:=Dx j;have ac:=Dv f.t;have ad:=Dv f.o;have c0:=EI f.t 0;have aa:(o.Dz==14)=false:=by rw[hk];rfl
 have ab:(o.Dz==15)=true:=by rw[hk];rfl
 have d2:=EI f.o 2;have T:Hid (D7 13 #[ptr t.p.x,Z o.a] X (.tuple #[Z (R.MC t.G o.a).1,.string (str (R.MC t.G o.a).2.1),Z (R.MC t.G o.a).2.2]) λB=>Mid N t (t.G) X B):=by
  refine cm (Q.l.show o.a) λB e=>?_
  exact⟨rfl,Q.adh e⟩
 clear h j hk;have⟨HX,D⟩:=FU f m;clear f m;go_enter func102,ntmps102;go_wp2_with fail
 rw[Dw O];refine cm T λB e=>?_
 have y:=HX.stays e u;have l1:=Dv y.t;have l2:=Dv y.o;have e1:=EI y.t 1;have e2:=EI y.o 2;have H2:Hid (D7 174 #[Ey t.x,Z o.a] B (.tuple #[Z (R.MC t.G o.a).1,.string (str (R.MC t.G o.a).2.1),Z (R.MC t.G o.a).2.2]) λw3=>KA N t (t.G) w w3):=by
  refine cm (e.r.show o.a) λw3 h3=>?_
  exact⟨rfl,KA.ahead D (e.rD h3)⟩
 clear e y T Q c0;exact yd
theorem dR(h:Ii N t w)(hk:o.Dz=16):
  D7 102 #[t.val,o.val] w (.bool true) λw'=>KA N t ((R.JM t.G o.a).2) w w':=by
 have⟨Q,f,j,e,hT,m⟩:=Jc h o;have D:=Dx f;have ac:=Dv e.t;have ad:=Dv e.o;have c0:=EI e.t 0;have X:(o.Dz==14)=false:=by rw[hk];rfl
 have aa:(o.Dz==15)=false:=by rw[hk];rfl
 have ab:(o.Dz==16)=true:=by rw[hk];rfl
 have d2:=EI e.o 2;have O:Hid (D7 23 #[ptr t.p.x,Z o.a] Q (Z (R.JM t.G o.a).1) λy=>Mid N t ((R.JM t.G o.a).2) Q y):=by
  refine cm (hT.l.drop o.a) λy hM=>?_
  exact wT
 clear h f hk;have⟨T,B⟩:=FU e j;clear e j;go_enter func102,ntmps102;go_wp2_with fail
 rw[Dw D];refine cm O λy hM=>?_
 have u:=T.stays hM m;have l1:=Dv u.t;have l2:=Dv u.o;have e1:=EI u.t 1;have e2:=EI u.o 2;have H2:Hid (D7 175 #[Ey t.x,Z o.a] y (Z (R.JM t.G o.a).1) λw3=>KA N t ((R.JM t.G o.a).2) w w3):=by
  refine cm (hM.r.drop o.a) λw3 h3=>?_
  exact⟨rfl,KA.ahead B (hM.done h3 (Bd.drop hM.MP.bd _))⟩
 clear hM u O hT c0;exact yd
theorem dQ(h:Ii N t w)(hk:o.Dz=17):
  D7 102 #[t.val,o.val] w (.bool true) λw'=>KA N t ((R.JA t.G o.a).2) w w':=by
 have⟨Q,f,j,e,hT,m⟩:=Jc h o;have D:=Dx f;have ad:=Dv e.t;have ae:=Dv e.o;have c0:=EI e.t 0;have X:(o.Dz==14)=false:=by rw[hk];rfl
 have aa:(o.Dz==15)=false:=by rw[hk];rfl
 have ab:(o.Dz==16)=false:=by rw[hk];rfl
 have ac:(o.Dz==17)=true:=by rw[hk];rfl
 have d2:=EI e.o 2;have O:Hid (D7 176 #[ptr t.p.x,Z o.a] Q (Z (R.JA t.G o.a).1) λy=>Mid N t ((R.JA t.G o.a).2) Q y):=by
  refine cm (hT.l.copy o.a) λy hM=>?_
  exact wT
 clear h f hk;have⟨T,B⟩:=FU e j;clear e j;go_enter func102,ntmps102;go_wp2_with fail
 rw[Dw D];refine cm O λy hM=>?_
 have u:=T.stays hM m;have l1:=Dv u.t;have l2:=Dv u.o;have e1:=EI u.t 1;have e2:=EI u.o 2;have H2:Hid (D7 177 #[Ey t.x,Z o.a] y (Z (R.JA t.G o.a).1) λw3=>KA N t ((R.JA t.G o.a).2) w w3):=by
  refine cm (hM.r.copy o.a) λw3 h3=>?_
  exact⟨rfl,KA.ahead B (hM.done h3 (Bd.copy hM.MP.bd _))⟩
 clear hM u O hT c0;exact yd
theorem dP(h:Ii N t w)(hk:o.Dz=18):
  D7 102 #[t.val,o.val] w (.bool true) λw'=>KA N t ((R.Jz t.G o.a o.b o.c).2) w w':=by
 obtain⟨Q,f,j,e,hT,m⟩:=Jc h o;have D:=Dx f;have ae:=Dv e.t;have ah:=Dv e.o;have c0:=EI e.t 0;have X:(o.Dz==14)=false:=by rw[hk];rfl
 have aa:(o.Dz==15)=false:=by rw[hk];rfl
 have ab:(o.Dz==16)=false:=by rw[hk];rfl
 have ac:(o.Dz==17)=false:=by rw[hk];rfl
 have ad:(o.Dz==18)=true:=by rw[hk];rfl
 obtain⟨d2,d3,d4⟩:=TH e.o 2 3 4;have O:Hid (D7 178 #[ptr t.p.x,Z o.a,Z o.b,Z o.c] Q (Z (R.Jz t.G o.a o.b o.c).1) λy=>Mid N t ((R.Jz t.G o.a o.b o.c).2) Q y):=by
  refine cm (hT.l.Sf o.a o.b o.c) λy hM=>?_
  exact wT
 clear h f hk;obtain⟨T,B⟩:=FU e j;clear e j;go_enter func102,ntmps102;go_wp2_with fail
 rw[Dw D];refine cm O λy hM=>?_
 have u:=T.stays hM m;have l1:=Dv u.t;have l2:=Dv u.o;have e1:=EI u.t 1;obtain⟨e2,e3,e4⟩:=TH u.o 2 3 4;have H2:Hid (D7 179 #[Ey t.x,Z o.a,Z o.b,Z o.c] y (Z (R.Jz t.G o.a o.b o.c).1) λw3=>KA N t ((R.Jz t.G o.a o.b o.c).2) w w3):=by
  refine cm (hM.r.Sf o.a o.b o.c) λw3 h3=>?_
  exact⟨rfl,KA.ahead B (hM.done h3 (Bd.Sf hM.MP.bd _ _ _))⟩
 clear hM u O hT c0;exact yd
theorem Vi(h:Ii N t w)(hk:o.Dz=19)(ht:JI w)(T:¬t.F 0):
  D7 102 #[t.val,o.val] w (.bool true) λw'=>KA N t ((R.Fv t.G o.a).2) w w':=by
 have⟨W1,u,f,j,m,y⟩:=Jc h o;have Q:=Dx u;have ak:=Dv j.t;have al:=Dv j.o;have c0:=EI j.t 0;have aa:(o.Dz==14)=false:=by rw[hk];rfl
 have ab:(o.Dz==15)=false:=by rw[hk];rfl
 have ac:(o.Dz==16)=false:=by rw[hk];rfl
 have ad:(o.Dz==17)=false:=by rw[hk];rfl
 have ae:(o.Dz==18)=false:=by rw[hk];rfl
 have ah:(o.Dz==19)=true:=by rw[hk];rfl
 have⟨M,hI⟩:=m.bd.iv;have d2:=EI j.o 2;have X:Hid (D7 24 #[ptr t.p.x,Z o.a] W1 (Z (R.Fv t.G o.a).1) λD=>Mid N t ((R.Fv t.G o.a).2) W1 D):=by
  refine cm (m.l.Ki (ht.DG f) T hI m.bd.rm o.a) λD e=>?_
  exact⟨rfl,m.mid e⟩
 clear h u hk;have⟨HX,O⟩:=FU j f;clear j f;go_enter func102,ntmps102;go_wp2_with fail
 rw[Dw Q];refine cm X λD e=>?_
 have B:=HX.stays e y;have l1:=Dv B.t;have l2:=Dv B.o;have e1:=EI B.t 1;have e2:=EI B.o 2;have H2:Hid (D7 180 #[Ey t.x,Z o.a] D (Z (R.Fv t.G o.a).1) λw3=>KA N t ((R.Fv t.G o.a).2) w w3):=by
  refine cm (e.r.Ki hI o.a) λw3 h3=>?_
  exact⟨rfl,KA.ahead O (e.done h3 (Bd.Ki e.MP.bd _))⟩
 clear e B X m c0;exact yd
end Go.Proofs.YtblomippkddgiaaGreatDoor
