import Derived.Test.YtblomippkddgiaaGreatDoorJ44
set_option maxRecDepth 100000
set_option maxHeartbeats 8000000
namespace Go.Proofs.YtblomippkddgiaaGreatDoor
open Go.Proofs.Tryz
open Go.RowKit
variable {x:Nat}{w:World}
def Lx(x:Nat)(w:Aa):Nat:=match w.cell? ⟨x,12,none⟩ with
 |some (.slice _ n _)=>n
 |_=>0
structure SvC(W:Aa)(x g o cap sn L ci li i n:Nat)(j:R.Jb)(r:R.Sn)(DR:Int):Prop where
 pV:W.cell? (Y x 12)=some (.slice (some (Y g o)) (n+1) cap)
 cap:n+1<=cap/\cap<=maxLen
 j0:W.cell? (Y g o)=some (Z ci)
 j1:W.cell? (Y g (o+1))=some (Z li)
 j2:W.cell? (Y g (o+2))=some (Z j.DR)
 j3:W.cell? (Y g (o+3))=some (Z j.D4)
 Tf:W.cell? (Y x 10)=some (EJ L 3 3)
 MU:W.cell? (Y x 11)=some (EJ sn 9 9)
 c:W.cell? (Y L ci)=some (Z DR)
 s:iZ W sn i r
 z:W.frozen? (Y x 12)=false
 hi:i=3*ci+li
 hc:ci<3
 hl:li<3
 n1:sn≠x
 n2:L≠x
abbrev NR(g o n cap:Nat):Value:=if cap=1 then .slice (some (Y g o)) 0 0 else .slice (some (Y g (o+4))) n (cap-1)
structure SvR(x:Nat)(A:List R.Jb->World->Prop)(P0:World->Prop)(j:R.Jb)(js:List R.Jb)(W:Aa)(g o cap sn L ci li i:Nat)(r:R.Sn)(DR:Int):Prop where
 at':SvC W x g o cap sn L ci li i js.length j r DR
 N3:r.DK=2/\r.D4=j.D4/\DR=j.DR->∀W',Below W.heap.size (W.setCell (Y x 12) (NR g o js.length cap)) W'->Calls prog 169 #[Ey x,Z i] W' λe w'=>e=.returned Ep/\P0 w'
 no:¬(r.DK=2/\r.D4=j.D4/\DR=j.DR)->∀W',Below W.heap.size (W.setCell (Y x 12) (NR g o js.length cap)) W'->A js W'
theorem Z7(A:List R.Jb->World->Prop)(P0 y:World->Prop){M:List R.Jb}(h0:A M w)
  (HL:Hid (∀js W,A js W->Lx x W=js.length))
  (Q:Hid (∀W,A [] W->(∃a c,EB W x 12 (.slice a 0 c))/\y W))
  (O:Hid (∀j js W,A (j :: js) W->∃g o cap sn L m li i r DR,SvR x A P0 j js W g o cap sn L m li i r DR)):
  ET 98 #[Ey x] w λe w'=>(e=.returned (Z 0)/\P0 w')\/(e=.returned (Z 19)/\y w'):=by
 have HA:=Dx h0;clear h0;go_enter func98,ntmps98;go_wp2;go_loopw [2] (λrv wr=>rv=Z 0/\∃js,A js wr) (λ_ wr=>Lx x wr)
 case atStart=>exact⟨rfl,M,HA⟩
 case round=>
  obtain⟨rfl,js,u⟩:=hrel;cases js with
  |nil=>
   have⟨⟨a,c,pV⟩,hP⟩:=Q _ u;have hx:=Gv pV;have HP:=Dx hP;clear hP u O HL Q;go_wp2;go_returns;exact Am ⟨rfl,HP⟩
  |cons j js=>
   have⟨g,o,cap,sn,L,m,li,i,r,DR,T⟩:=O j js _ u;have⟨HYES,HNO,HLN⟩:=Ll T.N3 T.no (HL _ _ u);have⟨⟨pV,⟨f,h⟩,j0,j1,j2,j3,Tf,MU,hc0,⟨s0,s1,s2,s3,s4,s5,s6,s7,s8,s9⟩,z,hi,hc,hl,n1,n2⟩,_,_⟩:=T;obtain⟨i0,i9,q0,q3⟩:0<=(i:Int)/\(i:Int)<9/\0<=(m:Int)/\(m:Int)<3:=U;have e1:IntKind.i64.wrap (3*(m:Int))=3*(m:Int):=Iz;have e2:IntKind.i64.wrap (3*(m:Int)+(li:Int))=(i:Int):=Iz;have⟨hx,hg⟩:=KM pV j0;have⟨ac,hL⟩:=KM s0 hc0;have ak:=n1;have al:¬x=sn:=λe=>n1 e.symm
   have am:=n2;have an:¬x=L:=λe=>n2 e.symm
   have hsp:(r.DK=2/\r.D4=j.D4/\DR=j.DR)\/(¬r.DK=2)\/(r.DK=2/\¬r.D4=j.D4)\/(r.DK=2/\r.D4=j.D4/\¬DR=j.DR):=U;rcases CR 1 cap with X|X
   ·have D:NR g o js.length cap=.slice (some (Y g (o+4))) js.length (cap-1):=Ao U;rw[D]at HYES HNO;obtain⟨ah,ae,ab,aa⟩:(1:Int)<=(js.length:Int)+1/\(0:Int)<(js.length:Int)+1/\(js.length:Int)+1<=(cap:Int)/\¬cap=1:=U;clear D f h n1 n2 hi hc hl u Q O;exact tl3
   ·obtain rfl:cap=1:=U;have B:js.length=0:=U;have D:NR g o js.length 1=.slice (some (Y g o)) 0 0:=Ay rfl;rw[D]at HYES HNO;rw[B]at pV;clear D f h n1 n2 hi hc hl u Q O B;exact tl3
structure DnC(w:Aa)(x sn L g n cap i u d:Nat)(DR Dz:Int)(r:R.Sn)(la:Af)(ln lc:Nat):Prop where
 x7:w.cell? (Y x 7)=some (EJ g n cap)
 Tf:w.cell? (Y x 10)=some (EJ L 3 3)
 MU:w.cell? (Y x 11)=some (EJ sn 9 9)
 s:iZ w sn i r
 c:w.cell? (Y L d)=some (Z DR)
 k0:w.cell? (Y g (u*3))=some (Z Dz)
 k2:w.cell? (Y g (u*3+2))=some (.slice la ln lc)
 z:∀o,w.frozen? (Y sn o)=false
 zg:∀o,w.frozen? (Y g o)=false
 hu:r.D5=(u:Int)+1
 hn:u<n
 Lp:n<=255
 hi:i<9
 hd:i / 3=d
 n1:sn≠x
 n2:sn≠g
 n3:g≠x
 n4:L≠g
 n5:L≠sn
theorem fR(w:Aa)(x sn L g n cap i u d m:Nat)(DR Dz pr:Int)(r:R.Sn)(la:Af)(ln lc:Nat)(S S2 A B:Ab)(e0 e1:Int)(rb:Ac)(an:World->Prop)
  (P1:Option Addr->Nat->Nat->World->Prop) (P2:Option Addr->Nat->Nat->Option Addr->Nat->Nat->World->Prop) (Q3:Option Addr->Nat->Nat->Option Addr->Nat->Nat->World->Prop)
  (h:DnC w x sn L g n cap i u d DR Dz r la ln lc) (hm:i % 3=m) (hS:str r.DC=S) (h2:2<=S.size) (cc:S.extract 2 S.size=S2) (b1:256*((S[0]'(Ai Em h2)).toNat:Int)+((S[1]'(Ai Em h2)).toNat:Int)=pr)
  (av:Hid (∀W,D7 155 #[Z Dz,Z pr] W (.tuple #[.string A,.string B,Z e0]) λy=>y=W))
  (ak:Hid (∀W,DY w W->ET 152 #[.string A,.string S2] W λe y=>∃oa on oc,e=.returned (.tuple #[.slice oa on oc,Z e1])/\P1 oa on oc y/\DY w y))
  (am:Hid (∀oa on oc W,P1 oa on oc W->ET 221 #[Z Dz,.slice la ln lc,Z pr,.slice oa on oc] W.drew λe y=>∃M dn O,e=.returned (.slice M dn O)/\P2 oa on oc M dn O y/\DY w y))
  (HJ:Hid (∀oa on oc M dn O W,P2 oa on oc M dn O W->∃a q D f,(Builtin.append_ #[211,211] 211 #[.slice la ln lc,EJ W.heap.size 1 1]).run prog (W.drew.alloc (.cells #[Z d,Z DR,Z m,Z r.D4,Z pr,.slice oa on oc,.slice M dn O] 98))=.ok (.slice a q D) f/\(∀k,k=x\/k=sn\/k=g\/k=L->f.heap[k]?=w.heap[k]?)/\Q3 M dn O a q D f))
  (al:Hid (∀M dn O a q D f W,Q3 M dn O a q D f->Below f.heap.size ((f.setCell (Y g (u*3+2)) (.slice a q D)).setCell (Y sn (i*10+4)) (Z 3)) W->D7 208 #[.string B,.slice M dn O] W (.string (str rb)) λy=>DY W y))
  (aw:Hid (∀M dn O a q D f W W',Q3 M dn O a q D f->Below f.heap.size ((f.setCell (Y g (u*3+2)) (.slice a q D)).setCell (Y sn (i*10+4)) (Z 3)) W->Below W.heap.size ((W.setCell (Y sn (i*10+5)) (.string (str rb))).setCell (Y sn (i*10+6)) (Z 0)) W'->D7 222 #[Ey x,Z i] W' Ep λy=>an y)):
  D7 169 #[Ey x,Z i] w Ep λy=>an y:=by
 obtain⟨x7,Tf,MU,⟨s0,s1,s2,s3,s4,s5,s6,s7,s8,s9⟩,hc,k0,k2,z,zg,hu,hn,Lp,hi,hd,n1,n2,n3,n4,n5⟩:=h;rw[hu]at s1;rw[hS]at s2;have q0:0<=(i:Int):=U;have q1:(i:Int)<9:=U;have u0:0<=(u:Int):=U;have u1:(u:Int)<n:=U;have eu:IntKind.i64.wrap ((u:Int)+1-1)=(u:Int):=Iz;have c7:IntKind.i64.wrap (u:Int)=u:=Iz;have bS:(d:Int)<3:=U;have ce:0<=(d:Int):=U;have ed:(i:Int).tdiv 3=(d:Int):=by rw[CM q0];omega
 have em:(i:Int).tmod 3=(m:Int):=by rw[Ca q0];omega
 have ew:IntKind.i64.wrap (d:Int)=d:=Iz;obtain⟨hx,hg⟩:=KM x7 k0;obtain⟨be,hL⟩:=KM s0 hc;have l0:0<S.size:=U;have l1:(1:Int)<(S.size:Int):=U;have l2:(2:Int)<=(S.size:Int):=U;have HQ:Hid (wrap64 (wrap64 (256*wrap64 ((S[0]'(Ai Em h2)).toNat:Int))+wrap64 ((S[1]'(Ai Em h2)).toNat:Int))=pr):=by
  rw[<-b1];have a0:=(S[0]'(Ai Em h2)).toNat_lt;have a1:=(S[1]'(Ai Em h2)).toNat_lt;have wr:∀q:Int,-9223372036854775808<=q->q<=9223372036854775807->wrap64 q=q:=λq q1 q2=>by
   unfold wrap64;omega
  generalize (S[0]'(Ai Em h2)).toNat=c0 at a0 ⊢;generalize (S[1]'(Ai Em h2)).toNat=c1 at a1 ⊢;show wrap64 (wrap64 (256*wrap64 (c0:Int))+wrap64 (c1:Int))=256*(c0:Int)+(c1:Int);rw[wr (c0:Int) U U,wr (c1:Int) U U,wr (256*(c0:Int)) U U,wr _ U U]
 clear b1;have y1:¬sn=x:=n1;have y2:¬x=sn:=λe=>n1 e.symm
 have y3:¬sn=g:=n2;have y4:¬g=sn:=λe=>n2 e.symm
 have y5:¬g=x:=n3;have y6:¬x=g:=λe=>n3 e.symm
 have y7:¬L=g:=n4;have y8:¬L=sn:=n5;have y9:¬g=L:=λe=>n4 e.symm
 obtain⟨HZ,b9,H2⟩:=Ll z zg h2;clear hu hn hi hd hm Lp n1 n2 n3 n4 n5 hS z zg;go_enter func169,ntmps169;go_wp2_with fail
 go_quiet (fail);go_wp2_with fail
 go_quiet (fail);generalize hq:wrap64 (wrap64 (256*wrap64 (_:Int))+wrap64 (_:Int))=pq;obtain rfl:pr=pq:=by
  rw[<-hq];exact HQ.symm
 clear HQ hq;go_wp2_with (first|(go_at_call 155;refine cs (av _) ?_))
 refine(ak _ (Ed (AA _ _) _)).mono ?_;rintro e w1 ⟨oa,on,oc,rfl,p1,ad⟩;have a0:w1.cell? (Y g (u*3))=some (Z Dz):=(ad.cell (p:=Y g _) hg).trans k0;have a2:w1.cell? (Y g (u*3+2))=some (.slice la ln lc):=(ad.cell (p:=Y g _) hg).trans k2;have bf:g<w1.heap.size:=Ai hg ad.size;have ah:=Dx (am oa on oc w1 p1);clear p1 ad ak am;go_wp2_with fail
 go_region_held3 (λy=>y.cell? (Y g (u*3))=some (Z Dz)/\y.cell? (Y g (u*3+2))=some (.slice la ln lc)) (go_keep) (first|(go_at_call 221;refine ah.mono ?_;rintro e w2 ⟨M,dn,O,rfl,p2,ae⟩;have b0:w2.cell? (Y g (u*3))=some (Z Dz):=(ae.cell (p:=(Y g (u*3))) hg).trans k0;have b2:w2.cell? (Y g (u*3+2))=some (.slice la ln lc):=(ae.cell (p:=(Y g (u*3+2))) hg).trans k2;have az:=Dx p2;have aa:=Dx ae;clear p2 ae))
 all_goals
  obtain⟨a,q,D,f,h1,h3,q3⟩:=HJ oa on oc M dn O w2 (Dw az);have aS:w2.cell? (Y x 10)=some (EJ L 3 3):=(aa.cell (p:=Y x 10) hx).trans Tf;have cL:w2.cell? (Y L d)=some (Z DR):=(aa.cell (p:=Y L d) hL).trans hc;have cq:w2.cell? (Y sn (i*10))=some (Z r.D4):=(aa.cell (p:=(Y sn (i*10))) be).trans s0;have cg:=aa.size;have cy:x<w2.heap.size:=U;have co:g<w2.heap.size:=U;have ct:sn<w2.heap.size:=U;have ci:L<w2.heap.size:=U;have bx:=h3 x (Aj rfl);have bs:=h3 sn (Am (Aj rfl));have bg:=h3 g (Am (Am (Aj rfl)));have bL:=h3 L (Am (Am (Am rfl)));have aV:f.cell? (Y x 10)=some (EJ L 3 3):=(AR bx).trans Tf;have dL:f.cell? (Y L d)=some (Z DR):=(AR bL).trans hc;have dq:f.cell? (Y sn (i*10))=some (Z r.D4):=(AR bs).trans s0;have d2:f.cell? (Y g (u*3+2))=some (.slice la ln lc):=(AR bg).trans k2;have f2:f.frozen? (Y g (u*3+2))=false:=(A8 bg).trans (b9 _);have d4:f.cell? (Y sn (i*10+4))=some (Z r.DK):=(AR bs).trans s4;have d5:f.cell? (Y sn (i*10+5))=some (.string (str r.DU)):=(AR bs).trans s5;have d6:f.cell? (Y sn (i*10+6))=some (Z r.at'):=(AR bs).trans s6;have f4:f.frozen? (Y sn (i*10+4))=false:=(A8 bs).trans (HZ _);have f5:f.frozen? (Y sn (i*10+5))=false:=(A8 bs).trans (HZ _);have f6:f.frozen? (Y sn (i*10+6))=false:=(A8 bs).trans (HZ _);have b3:sn<f.heap.size:=Gv dq;have bi:g<f.heap.size:=Gv d2;obtain⟨HH,aN⟩:=FU h1 q3;clear h1 h3 q3 bx bs bg bL az aa HJ a0 a2 bf ah x7 Tf MU s0 s1 s2 s3 s4 s5 s6 s7 s8 s9 hc k0 k2;go_wp2_with fail
  refine WK.begin (S:=λy=>y.cell? (Y x 10)=some (EJ L 3 3)/\y.cell? (Y L d)=some (Z DR)/\y.cell? (Y sn (i*10))=some (Z r.D4)) (T:=λy=>y.cell? (Y g (u*3+2))=some (.slice la ln lc)) (k:=29) EL ⟨aS,cL,cq⟩ b2 ?_;refine WK.take (i:=0) (v:=?_) rfl EL EL EL rfl (λ_ _ _ h=>h) (Aj ⟨Ky,?_⟩) ?_;rotate_left
  ·exact MN
  try simp only[Act.put,Al,Av,Ax,Az,Aq]
  refine WK.take (i:=1) (v:=?_) rfl EL EL EL rfl (λ_ _ _ h=>h) (Aj ⟨Ky,?_⟩) ?_;rotate_left
  ·exact MN
  try simp only[Act.put,Al,Av,Ax,Az,Aq,Au]
  refine WK.take (i:=2) (v:=?_) rfl EL EL EL rfl (λ_ _ _ h=>h) (Aj ⟨Ky,?_⟩) ?_;rotate_left
  ·exact MN
  try simp only[Act.put,Al,Av,Ax,Az,Aq,Au]
  refine WK.take (i:=3) (v:=?_) rfl EL EL EL rfl (λ_ _ _ h=>h) (Aj ⟨Ky,?_⟩) ?_;rotate_left
  ·exact MN
  try simp only[Act.put,Al,Av,Ax,Az,Aq,Au]
  refine WK.take2 (i:=4) (v:=?_) rfl EL EL EL rfl (.more (j:=26) (.of EL) (.of EL)) (λ_ _ _ h=>h) (Aj ⟨Ky,?_⟩) ?_;rotate_left
  ·exact MN
  try simp only[Act.put,Al,Av,Ax,Az,Aq,Au]
  refine WK.take (i:=5) (v:=?_) rfl EL EL EL rfl (λ_ _ _ h=>h) (Aj ⟨Ky,?_⟩) ?_;rotate_left
  ·exact MN
  try simp only[Act.put,Al,Av,Ax,Az,Aq,Au]
  refine WK.take (i:=6) (v:=?_) rfl EL EL EL rfl (λ_ _ _ h=>h) (Aj ⟨Ky,?_⟩) ?_;rotate_left
  ·exact MN
  try simp only[Act.put,Al,Av,Ax,Az,Aq,Au]
  refine WK.take (i:=7) (v:=?_) rfl EL EL EL rfl (λ_ _ _ h=>h) (Aj ⟨Ky,?_⟩) ?_;rotate_left
  ·exact MN
  try simp only[Act.put,Al,Av,Ax,Az,Aq,Au]
  refine WK.take (i:=8) (v:=?_) rfl EL EL EL rfl (λ_ _ _ h=>h) (Aj ⟨Ky,?_⟩) ?_;rotate_left
  ·exact MN
  try simp only[Act.put,Al,Av,Ax,Az,Aq,Au]
  refine WK.take (i:=9) (v:=?_) rfl EL EL EL rfl (λ_ _ _ h=>h) (Aj ⟨Ky,?_⟩) ?_;rotate_left
  ·exact MN
  try simp only[Act.put,Al,Av,Ax,Az,Aq,Au]
  refine WK.take (i:=10) (v:=?_) rfl EL EL EL rfl (λ_ _ _ h=>h) (Aj ⟨Ky,?_⟩) ?_;rotate_left
  ·exact MN
  try simp only[Act.put,Al,Av,Ax,Az,Aq,Au]
  refine WK.take (i:=11) (v:=?_) rfl EL EL EL rfl (λ_ _ _ h=>h) (Aj ⟨Ky,?_⟩) ?_;rotate_left
  ·exact MN
  try simp only[Act.put,Al,Av,Ax,Az,Aq,Au]
  refine WK.take (i:=12) (v:=?_) rfl EL EL EL rfl (λ_ _ _ h=>h) (Aj ⟨Ky,?_⟩) ?_;rotate_left
  ·exact MN
  try simp only[Act.put,Al,Av,Ax,Az,Aq,Au]
  refine WK.take (i:=13) (v:=?_) rfl EL EL EL rfl (λ_ _ _ h=>h) (Aj ⟨Ky,?_⟩) ?_;rotate_left
  ·exact MN
  try simp only[Act.put,Al,Av,Ax,Az,Aq,Au]
  refine WK.take (i:=14) (v:=?_) rfl EL EL EL rfl (λ_ _ _ h=>h) (Aj ⟨Ky,?_⟩) ?_;rotate_left
  ·exact MN
  try simp only[Act.put,Al,Av,Ax,Az,Aq,Au]
  refine WK.take (i:=15) (v:=?_) rfl EL EL EL rfl (λ_ _ _ h=>h) (Aj ⟨Ky,?_⟩) ?_;rotate_left
  ·exact MN
  try simp only[Act.put,Al,Av,Ax,Az,Aq,Au]
  refine WK.take (i:=16) (v:=?_) rfl EL EL EL rfl (λ_ _ _ h=>h) (Aj ⟨Ky,?_⟩) ?_;rotate_left
  ·exact MN
  try simp only[Act.put,Al,Av,Ax,Az,Aq,Au]
  refine WK.take (i:=17) (v:=?_) rfl EL EL EL rfl (λ_ _ _ h=>h) (Aj ⟨Ky,?_⟩) ?_;rotate_left
  ·exact MN
  try simp only[Act.put,Al,Av,Ax,Az,Aq,Au]
  refine WK.take (i:=18) (v:=?_) rfl EL EL EL rfl (λ_ _ _ h=>h) (Aj ⟨Ky,?_⟩) ?_;rotate_left
  ·exact MN
  try simp only[Act.put,Al,Av,Ax,Az,Aq,Au]
  refine WK.take (i:=19) (v:=?_) rfl EL EL EL rfl (λ_ _ _ h=>h) (Aj ⟨Ky,?_⟩) ?_;rotate_left
  ·exact MN
  try simp only[Act.put,Al,Av,Ax,Az,Aq,Au]
  refine WK.take (i:=20) (v:=?_) rfl EL EL EL rfl (λ_ _ _ h=>h) (Aj ⟨Ky,?_⟩) ?_;rotate_left
  ·exact MN
  try simp only[Act.put,Al,Av,Ax,Az,Aq,Au]
  refine WK.take (i:=21) (v:=?_) rfl EL EL EL rfl (λ_ _ _ h=>h) (Aj ⟨Ky,?_⟩) ?_;rotate_left
  ·exact MN
  try simp only[Act.put,Al,Av,Ax,Az,Aq,Au]
  refine WK.take (i:=22) (v:=?_) rfl EL EL EL rfl (λ_ _ _ h=>h) (Aj ⟨Ky,?_⟩) ?_;rotate_left
  ·exact MN
  try simp only[Act.put,Al,Av,Ax,Az,Aq,Au]
  refine WK.take (i:=23) (v:=?_) rfl EL EL EL rfl (λ_ _ _ h=>h) (Aj ⟨Ky,?_⟩) ?_;rotate_left
  ·exact MN
  try simp only[Act.put,Al,Av,Ax,Az,Aq,Au]
  refine WK.take (i:=24) (v:=?_) rfl EL EL EL rfl (λ_ _ _ h=>h) (Aj ⟨Ky,?_⟩) ?_;rotate_left
  ·exact MN
  try simp only[Act.put,Al,Av,Ax,Az,Aq,Au]
  refine WK.one (i:=25) EL rfl (λK hK=>?_);go_simp;refine hK.out _ _ (by go_keep) (by go_keep) ?_;clear hK K;try simp only[Act.put,Al,Av,Ax,Az,Aq,Au]
  refine WK.one (i:=26) EL rfl (λK hK=>?_);refine Jm rfl (.tmp 78) (.tmp 99) 211 rfl (.slice la ln lc) (EJ w2.heap.size 1 1) (.slice a q D) f rfl rfl HH ?_;refine hK.out _ _ ⟨aV,dL,dq⟩ d2 ?_;clear hK K;try simp only[Act.put,Al,Av,Ax,Az,Aq,Au]
  refine WK.take (i:=27) (v:=?_) rfl EL EL EL rfl (λ_ _ _ h=>h) (Aj ⟨Ky,?_⟩) ?_;rotate_left
  ·exact MN
  try simp only[Act.put,Al,Av,Ax,Az,Aq,Au]
  refine WK.take (i:=28) (v:=?_) rfl EL EL EL rfl (λ_ _ _ h=>h) (Aj ⟨Ky,?_⟩) ?_;rotate_left
  ·exact MN
  try simp only[Act.put,Al,Av,Ax,Az,Aq,Au]
  refine WK.store EL rfl (λK hK=>?_);go_simp;refine hK.out _ _ (by go_keep) ?_;clear hK K;try simp only[Act.put,Al,Av,Ax,Az,Aq,Au]
  refine WK.done EL ?_;go_wp2_with fail
  refine cm (al M dn O a q D f _ aN (AA _ _)) λw5 Q=>?_
  have aq:((f.setCell (Y g (u*3+2)) (.slice a q D)).setCell (Y sn (i*10+4)) (Z 3)).heap.size=f.heap.size:=Ev;have X:sn<((f.setCell (Y g (u*3+2)) (.slice a q D)).setCell (Y sn (i*10+4)) (Z 3)).heap.size:=by rw[aq];exact b3
  have g5:w5.cell? (Y sn (i*10+5))=some (.string (str r.DU)):=(Q.cell (p:=(Y sn (i*10+5))) X).trans ((AP (h:=by simp;try omega) ..).trans ((AP (h:=by simp;try omega) ..).trans d5));have g6:w5.cell? (Y sn (i*10+6))=some (Z r.at'):=(Q.cell (p:=(Y sn (i*10+6))) X).trans ((AP (h:=by simp;try omega) ..).trans ((AP (h:=by simp;try omega) ..).trans d6));have v5:w5.frozen? (Y sn (i*10+5))=false:=(Q.frozen (p:=(Y sn (i*10+5))) X).trans (by simpa using f5);have v6:w5.frozen? (Y sn (i*10+6))=false:=(Q.frozen (p:=(Y sn (i*10+6))) X).trans (by simpa using f6);have cu:sn<w5.heap.size:=Ai X Q.size;have b5:Hid (Below f.heap.size ((f.setCell (Y g (u*3+2)) (.slice a q D)).setCell (Y sn (i*10+4)) (Z 3)) w5):=by
   have q:Below _ _ _:=Q;rw[aq]at q;exact q
  clear Q aq X aV dL dq d2 f2 d4 d5 d6 f4 f5 f6 b3 bi aS cL cq b0 b2 HH al;go_wp2_with (first|(go_at_call 222;refine cm (aw M dn O a q D f w5 _ aN b5 (AA _ _)) λw6 hp=>?_;have b6:=Dx hp;clear hp))
  go_returns;exact⟨rfl,b6⟩
theorem RM.adb{v:RV}{F:D9}{G:R.Wd}{w':Aa}(h:RM x v F G w){n:Nat}{z:R.Sv×Value}(hz:v.zs[n]?=some z){V':Ad}{l':List R.En}{F2:D9}(ak:∀k,F2 k->F k\/w.heap.size<=k)(f:∀k,F k->F2 k)(ab:∀k,F2 k->k<w'.heap.size)(hk:DF (λk=>v.V.ownBlock=some k\/z.2.ownBlock=some k) w w')(hr:w'.ownsRow 0 271 3 v.V v.zs.length (tab svc (v.zs.set n ({z.1 with log:=l'},V'))))(hL:Lg w' F2 V' l')(hV:∀j,V'.ownBlock=some j->z.2.ownBlock=some j\/w.heap.size<=j):
  RM x {v with zs:=v.zs.set n ({z.1 with log:=l'},V')} F2 {G with Dy:=G.Dy.set n {z.1 with log:=l'}} w'/\D8 F F2 w w':=by
 have⟨f1,f2,f3⟩:=h.Fw;have am:=Ap hz;have aN:=GG hz;have ad:=h.I4.I4 z am;have hE:∀k,(v.V.ownBlock=some k\/z.2.ownBlock=some k)->F k:=λk q=>by
  rcases q with q|q
  ·exact h.rows k (Am (Am (Aj q)))
  ·exact ad.own k q
 have T:∀{b:Nat} {ys:Array Value} {t:Ag},w.heap[b]?=some (.cells ys t (0,0))->t≠271->t≠98->¬(v.V.ownBlock=some b\/z.2.ownBlock=some b):=λM h1 h2 e=>by
  rcases e with e|e
  ·exact Fg h.Iw M (λq=>h1 q.symm) e
  ·have⟨es,_,e2,_⟩:=ad.row
   grind [Fg]
 have nr:∀{m size:Nat} {e:Ag} {K:Ad} {xs:Ae},w.ownsRow 0 e size K m xs->e≠271->e≠98->∀j,K.ownBlock=some j->¬(v.V.ownBlock=some j\/z.2.ownBlock=some j):=λhr h1 h2 j B=>by
  grind [J3]
 have D:∀(i:Nat) (y:R.Sv×Value),(v.zs.set n ({z.1 with log:=l'},V'))[i]?=some y->(i=n/\y=({z.1 with log:=l'},V'))\/(i≠n/\v.zs[i]?=some y):=λi y g=>by
  grind
 have av:∀(i:Nat) (y:R.Sv×Value),i≠n->v.zs[i]?=some y->Lg w' F2 y.2 y.1.log:=λi y al g=>by
  have ac:=h.I4.I4 y (Ap g);have⟨es,e1,e2,e3⟩:=ac.row;refine⟨⟨es,e1,hk.row e2 (λj B q=>?_),λu hu=>⟨(e3 u hu).1.keep hk (λb aa _ M=>T M Em Em) f,(e3 u hu).2.keep hk (λb aa _ M=>T M Em Em) f⟩⟩,λj B=>f j (ac.own j B)⟩;rcases q with q|q
  ·exact OP e2 h.Iw Em j B q
  ·exact h.I4.apart i n y z g hz al j B q
 have ae:∀(i:Nat) (y:R.Sv×Value),v.zs[i]?=some y->∀j,y.2.ownBlock=some j->j<w.heap.size:=λi y g j B=>h.lt j ((h.I4.I4 y (Ap g)).own j B)
 refine⟨⟨hk.at h.bx (T h.bx Em Em),hk.row h.Eu (nr h.Eu Em Em),hk.row h.Ec (nr h.Ec Em Em),?_,?_,⟨λy g=>?_,λi j y y' g ah O k Q X=>?_,h.I4.EF.keep hk (λM _=>T M Em Em) f⟩,hk.row h.JC (nr h.JC Em Em),h.zc,hk.row h.cl (nr h.cl Em Em),λi y g=>hk.row (h.Ee i y g) (nr (h.Ee i y g) Em Em),λi y g=>?_,hk.at h.DX (T h.DX Em Em),hk.at h.DN (T h.DN Em Em),⟨f _ f1,f _ f2,f _ f3⟩,λj B=>f j (h.rows j B),λi y g=>⟨f _ (h.Gs i y g).1,λj B=>⟨f _ ((h.Gs i y g).2 j B).1,((h.Gs i y g).2 j B).2⟩⟩,h.sL,h.inj,ab⟩,⟨hk.mono (λk _ q=>hE k q),ak⟩⟩
 ·show (v.zs.set n ({z.1 with log:=l'},V')).map (·.1)=G.Dy.set n {z.1 with log:=l'};rw[C4,h.zs]
 ·grind
 ·grind [List.mem_iff_getElem?]
 ·rcases D i y g with ⟨rfl,rfl⟩|⟨q1,q2⟩
  ·rcases D j y' ah with ⟨rfl,rfl⟩|⟨r1,r2⟩
   ·exact absurd rfl O
   ·rcases hV k Q with e|e
    ·exact h.I4.apart i j z y' hz r2 O k e X
    grind
  ·rcases D j y' ah with ⟨rfl,rfl⟩|⟨r1,r2⟩
   ·rcases hV k X with e|e
    ·exact h.I4.apart i j y z q2 hz O k Q e
    ·have:=ae i y q2 k Q;omega
   ·exact h.I4.apart i j y y' q2 r2 O k Q X
 ·have⟨zl,l1,l2,l3⟩:=h.ln i y g;exact⟨zl,l1,hk.at l2 (T l2 Em Em),λu hu=>(l3 u hu).keep hk (λb aa _ M=>T M Em Em) f⟩
def EnC(w:Aa)(la:Af)(k:Nat)(pr N:Int)(aa:Addr)(an ac:Nat):Prop:=∃lb,la=some (Y lb 0)/\w.cell? (Y lb (k*7+4))=some (Z pr)/\w.cell? (Y lb (k*7+5))=some (.slice (some aa) an ac)/\0<an/\w.cell? aa=some (Z N)
theorem Vo(w:Aa)(la:Af)(n lc:Nat)(C:Nat->Int)(hn:n<=1000000000000)(h:C 0=0)(hC:∀k,0<=C k/\C k<65536)(hE:∀k,k<n->∃j N T ao m X,EnC w la k j N (Y T ao) m X/\(-65536<=N/\N<=65536)/\C (k+1)=if j=0 then (C k+N+65536) % 65536 else if N=1 then 0 else C k):
  D7 248 #[.slice la n lc] w (Z (C n)) λw'=>w'=w:=by
 have⟨Q,O⟩:=FU hE hC;clear hE hC;go_enter func248,ntmps248;go_wp2;go_loopw [3,4] (λnv iv wr=>∃(i:Nat) (c:Int),i<=n/\c=C i/\nv=Z c/\iv=Z i/\wr=w) (λ_ iv _=>n-(intOf iv).toNat)
 case atStart=>exact⟨0,0,U,h.symm,rfl,rfl,rfl⟩
 case round=>
  obtain⟨i,c,hi,hc,rfl,rfl,M⟩:=hrel;subst M;clear h;by_cases D:i<n
  ·have p0:0<=(i:Int):=U;have p1:(i:Int)<n:=U;obtain⟨j,N,T,ao,m,X,⟨lb,rfl,c4,c5,ha,cN⟩,B,e⟩:=Q i D;have f:=O i;rw[<-hc]at f e;have aa:0<(m:Int):=U;have⟨l1,l2⟩:=KM c4 cN;by_cases u:j=0
   ·rw[Ay u]at e;have w1:IntKind.i64.wrap (c+N)=c+N:=Iz;have w2:IntKind.i64.wrap (c+N+65536)=c+N+65536:=Iz;have w3:Int.tmod (c+N+65536) 65536=(c+N+65536) % 65536:=Ca U;have w4:IntKind.i64.wrap ((c+N+65536) % 65536)=(c+N+65536) % 65536:=Iz;have g:Hid ((c+N+65536) % 65536=C (i+1)):=e.symm;subst u;clear e hc f B;go_wp2;go_roundw
    case rel=>exact⟨i+1,_,U,g,Ev,Kc,BR⟩
    case measure=>exact Kt
   ·rw[Ao u]at e;by_cases y:N=1
    ·rw[Ay y]at e;have g:Hid (0=C (i+1)):=e.symm;subst y;clear e hc f B;go_wp2;go_roundw
     case rel=>exact⟨i+1,0,U,g,rfl,Kc,BR⟩
     case measure=>exact Kt
    ·rw[Ao y]at e;have g:=e.symm;clear e hc f B;go_wp2;go_roundw
     case rel=>exact⟨i+1,c,U,g,rfl,Kc,BR⟩
     case measure=>exact Kt
  ·obtain rfl:i=n:=U;have g:=Dx hc;clear hc Q O;go_wp2;go_returns;rw[<-Dw g];exact⟨rfl,rfl⟩
theorem fY(w:Aa)(la:Af)(n lc:Nat)(d:Int)(Q:Nat->Value->Prop)(hn:n<=1000000000000)(h0:Q 0 (.slice none 0 0))(hE:∀k,k<n->∃pr N j m g f,EnC w la k pr N (Y j m) g f/\2<=g/\g<=f/\(N=d->(f=2->Q (k+1) (.slice (some (Y j m)) 0 0))/\(f≠2->Q (k+1) (.slice (some (Y j (m+4))) (g-2) (f-2))))/\(N≠d->∀V,Q k V->Q (k+1) V)):
  ET 250 #[.slice la n lc,Z d] w λe w'=>(∃V,e=.returned V/\Q n V)/\w'=w:=by
 have⟨X,T⟩:=FU hE h0;clear hE h0;go_enter func250,ntmps250;go_wp2;go_loopw [5,6] (λov iv wr=>∃i:Nat,i<=n/\Q i ov/\iv=Z i/\wr=w) (λ_ iv _=>n-(intOf iv).toNat)
 case atStart=>exact⟨0,U,T,rfl,rfl⟩
 case round=>
  obtain⟨i,hi,hq,rfl,D⟩:=hrel;subst D;have HQ:=Dx hq;clear hq;by_cases B:i<n
  ·have p0:0<=(i:Int):=U;have p1:(i:Int)<n:=U;obtain⟨pr,N,j,m,g,f,⟨lb,rfl,c4,c5,ha,cN⟩,ad,ae,u,h⟩:=X i B;have aa:0<(g:Int):=U;have⟨l1,l2⟩:=KM c4 cN;by_cases hd:N=d
   ·have⟨M,O⟩:=u hd;subst hd;by_cases y:f=2
    ·have HS:=Dx (M y);obtain rfl:g=2:=U;subst y;clear M O h u;exact wE
    ·have HS:=Dx (O y);obtain⟨b1,b2,b3⟩:(2:Int)<=g/\(g:Int)<=f/\(2:Int)<=f:=U;clear M O h u;exact wE
   ·have HS:=Dx (h hd _ HQ);clear h u;exact wE
  ·obtain rfl:i=n:=U;clear X T;go_wp2;go_returns;exact⟨⟨_,rfl,HQ⟩,rfl⟩
def EnS(w:Aa)(la:Af)(k:Nat)(pr:Int)(s:Ab):Prop:=∃lb ab ao an ac,la=some (Y lb 0)/\w.cell? (Y lb (k*7+4))=some (Z pr)/\w.cell? (Y lb (k*7+5))=some (.slice (some (Y ab ao)) an ac)/\0<an/\w.cell? (Y ab (ao+1))=some (.string s)
def kH(w:Aa)(a:Af)(ps:List ByteArray):Prop:=ps=[]\/∃g off,a=some (Y g off)/\∀(j:Nat) (s:Ab),ps[j]?=some s->w.cell? (Y g (off+j))=some (.string s)
theorem aK{e:List ByteArray}{j:Nat}{s:Ab}(h:e[j]?=some s):(strs e)[j]?=some (.string s):=by grind [strs]
theorem XN(w:Aa)(la:Af)(n lc:Nat)(P:Nat->List ByteArray)(hn:n<=1000000000)(ak:P 0=[])(al:∀k,(P k).length<=k)(hE:∀k,k<n->∃pr s,EnS w la k pr s/\(pr=0->P (k+1)=P k++[s])/\(pr≠0->P (k+1)=P k)):
  ET 249 #[.slice la n lc] w λe w'=>(∃a c,e=.returned (.slice a ((P n).drop ((P n).length-4)).length c)/\((P n).drop ((P n).length-4)).length<=c/\c<=maxLen/\kH w' a ((P n).drop ((P n).length-4)))/\DY w w':=by
 have⟨i0,hi,b4,b5,b6⟩:=A1 jI;have⟨HE,O⟩:=FU hE al;have HS:Hid (w.ownsRow w.heap.size 9 1 (.slice none 0 0) (P 0).length (strs (P 0))):=by
  rw[ak];exact⟨rfl,Aj ⟨rfl,rfl⟩⟩
 clear hE al ak;go_enter func249,ntmps249;go_wp2;go_loopw [3,4] (λov iv wr=>∃i:Nat,i<=n/\iv=Z i/\wr.ownsRow w.heap.size 9 1 ov (P i).length (strs (P i))/\DY w wr) (λ_ iv _=>n-(intOf iv).toNat)
 case atStart=>exact⟨0,AV _,rfl,HS,AA _ _⟩
 case round=>
  obtain⟨i,bq,rfl,f,h⟩:=hrel;by_cases b1:i<n
  ·have b2:=h.size;have p0:0<=(i:Int):=U;have p1:(i:Int)<n:=U;have aa:=O i;obtain⟨pr,s,⟨lb,ab,ao,an,ac,rfl,c4,c5,ha,B⟩,hy,X⟩:=HE i b1;have bp:0<(an:Int):=U;have d4:=(h.cell (p:=Y lb _) (Gv c4)).trans c4;have d5:=(h.cell (p:=Y lb _) (Gv c5)).trans c5;have ds:=(h.cell (p:=Y ab _) (Gv B)).trans B;by_cases h0:pr=0
   ·have hP:=hy h0;subst h0;have D:=λq=>Ba f q
    have⟨oa,oc,T⟩:=Fa f;subst T;have⟨aN,u,aw,az⟩:=bE f h D hP;clear f h D hP hy X c4 c5 B;go_wp2_with (at_builtin;go_must (refine AQ _ rfl (.tmp 17) (.tmp 26) 222 rfl w.heap.size 9 i0 (.string ⟨#[]⟩) 1 16 underlying222 hi b4 b5 b6 rfl Em (.slice oa (P i).length oc) (P i).length (strs (P i)) rfl (by exact aN.alloc _) (Y _ 0) 1 1 [.string s] rfl rfl (by exact Ur) Vd JG U Fy ?_;intro v' wz M y be aV))
    have am:wz.ownsRow w.heap.size 9 1 v' (P (i+1)).length (strs (P (i+1))):=by
     rw[Dw az,AJ];simpa [strs] using M
    have Q:=Dx am;have av:=Dx ((u.alloc b2 _).grown y Fy (λq hq=>(aw q hq).1));clear M y aV am;go_wp2;go_roundw
    case rel=>exact⟨i+1,U,Kc,Q,av⟩
    case measure=>exact Kt
   ·have Q:Hid (wr.ownsRow w.heap.size 9 1 u3 (P (i+1)).length (strs (P (i+1)))):=by
     rw[X h0];exact f
    have u:=Dx h;clear f h hy X c4 c5 B;go_wp2;go_roundw
    case rel=>exact⟨i+1,U,Kc,Q,u⟩
    case measure=>exact Kt
  ·obtain rfl:i=n:=U;have aa:=O i;obtain⟨ps,ad⟩:∃ps,ps=P i:=⟨_,rfl⟩;rw[<-ad]at f aa;obtain⟨m,hm⟩:∃m,ps.length=m:=⟨_,rfl⟩;rw[hm]at f aa;have⟨ah,HM⟩:=FU ad hm;clear HE O HS ad;by_cases h4:m<=4
   ·have⟨oa,oc,T⟩:=Fa f;subst T;have HR:Hid ((ps.drop (m-4)).length=m/\m<=oc/\oc<=maxLen/\kH wr oa (ps.drop (m-4))):=by
     rw[show m-4=0 by omega,De];rcases f.2 with ⟨q1,q2⟩|⟨g,cap,aS,q,_,_,q3,q4,_⟩
     ·cases q1;exact⟨hm,U,JG,Aj (B6.1 U)⟩
     ·cases q;refine⟨hm,q3,q4,Am ⟨g,0,rfl,λj s hj=>?_⟩⟩;have:=f.cells (g:=g) rfl j _ (aK hj)
      rwa [Bc]at this
    have u:=Dx h;have k4:¬(4:Int)<m:=U;clear f h;go_wp2;go_returns;rw[<-Dw ah,Dw HM];have⟨r1,r2,r3,r4⟩:=Dw HR;exact⟨⟨oa,oc,by rw[show m-(m-4)=m by omega];rfl,U,r3,r4⟩,u⟩
   ·obtain⟨q,rfl⟩:∃q,m=q+4:=⟨m-4,U⟩;rcases f.2 with ⟨_,q2⟩|⟨g,cap,aS,hv,_,_,q3,q4,_⟩
    ·omega
    subst hv;have HR:Hid ((ps.drop (q+4-4)).length=4/\4<=cap-q/\cap-q<=maxLen/\kH wr (some (Y g q)) (ps.drop (q+4-4))):=by
     refine⟨by rw[A9];omega,U,U,Am ⟨g,q,rfl,λj s hj=>?_⟩⟩;rw[Nat.add_sub_cancel,Cn]at hj;have:=f.cells (g:=g) rfl _ _ (aK hj)
     rwa [Bc,Cr]at this
    have u:=Dx h;have k4:(4:Int)<q+4:=U;have e1:IntKind.i64.wrap ((q:Int)+4-4)=(q:Int):=Iz;have e2:IntKind.i64.wrap (q:Int)=q:=Iz;obtain⟨k5,k6,k7,k8,k9⟩:0<=(q:Int)/\(q:Int)<=q+4/\(q:Int)+4<=(cap:Int)/\¬q=cap/\¬cap=q:=U;clear f h;go_wp2;go_returns;rw[<-Dw ah,Dw HM];have⟨r1,r2,r3,r4⟩:=Dw HR;exact⟨⟨some (Y g q),cap-q,by rw[r1];simp,U,r3,r4⟩,u⟩
theorem Tb(w:Aa)(k:Int):V.Row (w.alloc (.cells #[Z k,.string ⟨#[]⟩] 106)) w.heap.size (EJ w.heap.size 1 1) [R.num k]:=
 CW (base:=w.heap.size) (e:=106) (size:=2) w #[Z k,.string ⟨#[]⟩] 1 (Ar _) JG rfl
theorem ZL(w:Aa)(L:Ad)(j c N:Int)(m u g y:Nat)(M:0<g)(B:EB w m u (Z N))(hc:0<=c/\c<65536)(hN:-65536<=N/\N<=65536)(H:Hid (D7 248 #[L] w (Z c) λf=>f=w)):
  ET 221 #[Z 0,L,Z j,.slice (some (Y m u)) g y] w λe f=>∃O,e=.returned O/\V.Row f w.heap.size O [R.num (if j=0 then (c+N+65536) % 65536 else c)]/\DY w f:=by
 have D:0<(g:Int):=U;have l1:=Gv B;by_cases h:j=0
 ·rw[Ay h,show (c+N+65536) % 65536=(c+N) % 65536 by omega];subst h;have Q:IntKind.i64.wrap (c+N)=c+N:=Iz;have T:IntKind.i64.wrap (c+N+65536)=c+N+65536:=Iz;have X:Int.tmod (c+N+65536) 65536=(c+N+65536) % 65536:=Ca U;have w4:IntKind.i64.wrap ((c+N+65536) % 65536)=(c+N+65536) % 65536:=Iz;have HR:=Dx (Tb w ((c+N) % 65536));exact abY
 ·rw[Ao h];have HR:=Dx (Tb w c);exact abY
theorem gh{f:Aa}(y:DY w f){O:Ad}{l:List V.It}{j:Aa}(h:V.Row j f.heap.size O l):V.Row j w.heap.size O l:=by
 have⟨m,u⟩:=h;refine⟨m,u.imp (λq=>q) ?_⟩;rintro ⟨g,cap,e,B,D,M⟩;exact⟨g,cap,e,B,Br y.size D,M⟩
theorem fP(w:Aa)(L A:Ad)(m:Nat)(h:m<=4)(H:Hid (ET 249 #[L] w λe f=>(∃a c,e=.returned (.slice a m c))/\DY w f)):
  ET 221 #[Z 1,L,Z 0,A] w λe f=>∃O,e=.returned O/\V.Row f w.heap.size O [R.num (min 4 ((m:Int)+1))]/\DY w f:=by
 have e1:IntKind.i64.wrap ((m:Int)+1)=(m:Int)+1:=Iz;by_cases g:m=4
 ·subst g;have HB:Hid (∀w1,DY w w1->V.Row (w1.alloc (.cells #[Z 4,.string ⟨#[]⟩] 106)) w.heap.size (EJ w1.heap.size 1 1) [R.num (min 4 (((4:Nat):Int)+1))]/\DY w (w1.alloc (.cells #[Z 4,.string ⟨#[]⟩] 106))):=λw1 hb=>⟨gh hb (Tb w1 4),hb.alloc hb.size _⟩
  clear h;exact abn
 ·have j:¬(4:Int)<m+1:=U;have e2:min 4 ((m:Int)+1)=(m:Int)+1:=U;rw[e2];have HB:Hid (∀w1,DY w w1->V.Row (w1.alloc (.cells #[Z ((m:Int)+1),.string ⟨#[]⟩] 106)) w.heap.size (EJ w1.heap.size 1 1) [R.num ((m:Int)+1)]/\DY w (w1.alloc (.cells #[Z ((m:Int)+1),.string ⟨#[]⟩] 106))):=λw1 hb=>⟨gh hb (Tb w1 _),hb.alloc hb.size _⟩
  clear h g e2;exact abn
def ItW(w:Aa)(V:Ad)(l:List R.It):Prop:=∃a c,V=.slice a l.length c/\(l=[]\/∃b off,a=some (Y b off)/\∀(j:Nat) (u:Ad),(tab Ik l)[j]?=some u->w.cell? (Y b (off+j))=some u)
theorem mo{W:Aa}(e:DY w W){b off:Nat}{l:List R.It}(h:∀(j:Nat) (u:Ad),(tab Ik l)[j]?=some u->EB w b (off+j) u):∀(j:Nat) (u:Ad),(tab Ik l)[j]?=some u->W.cell? (((Y b off):Addr).add j)=some u:=λj u hu=>by
 rw[Bc];exact(e.cell (p:=Y b _) (Gv (h j u hu))).trans (h j u hu)
theorem Z6(w:Aa)(k m:Int):(w.alloc (.cells #[Z k,.string ⟨#[]⟩,Z m,.string ⟨#[]⟩] 106)).ownsRow w.heap.size 106 2 (EJ w.heap.size 2 2) 2 (tab Ik [R.num k,R.num m]):=
 CW (base:=w.heap.size) (e:=106) (size:=2) w #[Z k,.string ⟨#[]⟩,Z m,.string ⟨#[]⟩] 2 (Ar _) JG rfl
theorem Y7(l:List R.It):(tab Ik l).length=l.length*2:=by grind [Ik,F8]
theorem dX(l:List R.It):∀u∈tab Ik l,u.oneCell'=true:=by
 induction l with
 |nil=>intro u hu;cases hu
 |cons x l ih=>
  intro u hu;rcases Bj.1 (show u∈Ik x++tab Ik l from hu) with q|q
  ·simp[Ik]at q;rcases q with rfl|rfl<;>rfl
  ·exact ih u q
theorem fO(w:Aa)(L:Ad)(pr d:Int)(ab ao an ac:Nat)(l:List R.It)(hl:l.length<=1000)(ha:0<an)(cN:EB w ab ao (Z d))(H:Hid (ET 250 #[L,Z d] w λe y=>(∃V,e=.returned V/\ItW w V l)/\y=w)):
  ET 221 #[Z 2,L,Z pr,.slice (some (Y ab ao)) an ac] w λe y=>∃O,e=.returned O/\V.Row y w.heap.size O (if l.length=0 then [R.num 0,R.num 0] else R.num 1 :: R.num l.length :: l)/\DY w y:=by
 have⟨i0,hi,ae,ah,ak⟩:=A1 T8;have av:0<(an:Int):=U;have l1:=Gv cN;by_cases u:l=[]
 ·subst u;have HR:=Z6 w 0 0;go_enter func221,ntmps221;go_wp2_with (go_at_call 250;refine H.mono ?_;rintro e w1 ⟨⟨V,rfl,a,c,rfl,hV⟩,h⟩;rw[h];clear h hV)
  go_returns;exact⟨_,rfl,HR,F9⟩
 ·obtain⟨m,hm⟩:∃m,l.length=m:=⟨_,rfl⟩;have aw:¬m=0:=λe=>u (B6.1 U)
  have az:¬(m:Int)=0:=U;rw[Ao U,hm];have aN:m<=1000:=U;have⟨M,X,Q⟩:=Ll hm (Z6 w 1 (m:Int)) u;clear hl u;go_enter func221,ntmps221;go_wp2_with (first
   |(go_at_call 250;refine H.mono ?_;rintro e w1 ⟨⟨V,rfl,a,c,rfl,hV⟩,h⟩;rw[h];clear h;rw[Dw M];rcases hV with q|⟨vb,vo,rfl,j⟩;exact absurd q (Dw Q);have D:=Dx j;clear j)
   |(at_builtin;go_must (refine AQ _ rfl (.tmp 96) (.tmp 97) 44 rfl w.heap.size 106 i0 (.agg #[Z 0,.string ⟨#[]⟩]) 2 24 underlying44 hi ae ah ak rfl Em (EJ w.heap.size 2 2) 2 (tab Ik [R.num 1,R.num (m:Int)]) rfl (by exact Dw X) (Y vb vo) m c (tab Ik l) rfl (by rw[Y7,Dw M]) (by exact mo ((AA w.heap.size w).alloc (Ar _) _) D) (dX l) JG U Ev ?_;intro v' wz g f aq aa)))
  have T:Hid (V.Row wz w.heap.size v' (R.num 1 :: R.num (m:Int) :: l)):=by
   refine Dx (?_:V.Row _ _ _ _);unfold V.Row;rw[Qc,show (R.num 1 :: R.num (m:Int) :: l).length=2+m by simp[Dw M];omega];exact g
  have B:=Dx ((((AA w.heap.size w).alloc (Ar _) _).grown f Ev (λq hq=>by cases hq;exact Ar _)));have⟨va,vc,ad⟩:=Fa g;subst ad;clear g f aa;go_wp2;go_returns;exact⟨_,rfl,T,B⟩
end Go.Proofs.YtblomippkddgiaaGreatDoor
