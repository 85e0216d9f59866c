import Derived.Test.YtblomippkddgiabGreatDoorJ41
set_option maxRecDepth 100000
set_option maxHeartbeats 2000000
namespace Go.Proofs.YtblomippkddgiabGreatDoor
open Go.RowKit
variable {F:Aq}{b:Nat}{p:Pl}{M:R.Bk}{G:R.Wd}{u0 u1 u2 u3 u4 u5 u6:Value}{W w w1:World}
structure SvA(p:Pl)(F:Aq)(G:R.Wd)(w:World)(M:R.Bk)(js:List R.Jb)(w1:World):Prop where
 lw:LW p F {G with jobs:=js} w1
 went:Ap F F w w1
 inv:R.Inv M {G with jobs:=js}
 eq:R.BV G=R.Br G js
structure SvB(p:Pl)(F:Aq)(G:R.Wd)(w:World)(M:R.Bk)(j:R.Jb)(js:List R.Jb)(w1:World):Prop where
 lw:LW p F {G with jobs:=js} w1
 went:Ap F F w w1
 inv:R.Inv M {G with jobs:=js}
 eq:R.BV G=R.Br G (j :: js)
 jb:(0<=j.client/\j.client<=2)/\(0<=j.line/\j.line<=2)
 uid:∃d,M ⟨j.client,j.Ae,j.line,j.seq⟩=some d/\j.uid=d.uid
theorem QG(j:R.Jb)(js:List R.Jb):(((j :: js).map PE).toArray).extract 1 (((j :: js).map PE).toArray).size=(js.map PE).toArray:=by
 apply Array.toList_inj.1;rw[Array.toList_extract];simp[List.extract];exact af6 (by simp)
def UL(b:Nat)(w:World):Nat:=match w.heap[b]? with
 |some (.chan _ buf _ _ _ _)=>buf.size
 |_=>0
theorem SvB.below{w2:World}{j:R.Jb}{js:List R.Jb}(h:SvB p F G w M j js w1)(hb:Below w1.heap.size w1 w2):SvB p F G w M j js w2:=⟨h.lw.below hb,h.went.trans (Ap.Al F hb),h.inv,h.eq,h.jb,h.uid⟩
theorem LW.serve(h:LW p F G w)(ht:Ec w)(aq:¬F 0)(hI:R.Inv M G):
  Calls Tryz.prog 56 #[ptr p.s] w fun e w'=>e=.returned (.int .i64 (R.BV G).1)/\E8 p F w (R.BV G).2 w':=by
 refine(Uc w p.s (SvA p F G w M) (SvB p F G w M) (fun j js w1=>SvB p F G w M j js w1/\R.FC G j) (fun w'=>(R.BV G).1=19/\E8 p F w (R.BV G).2 w') (fun w'=>(R.BV G).1=0/\E8 p F w (R.BV G).2 w') (UL p.t.jc) G.jobs ⟨h,Ap.refl F w,hI,rfl⟩ ?_ ?_ ?_ ?_ ?_).mono ?_
 ·intro js w1 hA;obtain⟨a,b,hj⟩:=hA.lw.BN.jobs;unfold UL;rw[hj];simp
 ·intro w1 hA;obtain⟨a,b,hj⟩:=hA.lw.BN.jobs;refine(P5 w1 p.s p.t.jc _ a b (cell_of hA.lw.BN.bs 19 _ rfl) hj).mono ?_;rintro e w2 ⟨rfl,hb⟩;refine⟨rfl,fun wa ad=>?_⟩;rw[hA.eq];have au:Below w1.heap.size w1 wa:=hb.trans ⟨ad.os,ad.tape,ad.output,ad.size,fun k hk=>ad.block k (afT hk hb.size)⟩;exact⟨rfl,p.t,F,hA.lw.below au,hA.went.trans (Ap.Al F au)⟩
 ·intro j js w1 hA;obtain⟨a,b,hj⟩:=hA.lw.BN.jobs;refine(P6 w1 p.s p.t.jc _ a b _ j.client j.Ae j.line j.seq j.uid (cell_of hA.lw.BN.bs 19 _ rfl) hj (by simp) (by simp[PE])).mono ?_;rintro e w2 ⟨rfl,az,hk⟩;refine⟨rfl,fun wa ad=>?_⟩;have ak:∀x∈js,x∈j :: js:=fun x hx=>agC _ hx
  have ar:R.Inv M {G with jobs:=js}:=hA.inv.Ni (js:=js) (by
   have:=hA.inv.ws.jl;simp at this;show (js.length:Int)<=G.c.table;omega) (fun x hx=>⟨hA.inv.ws.jb x (ak x hx),hA.inv.jb x (ak x hx)⟩)
  obtain⟨l2,aB⟩:=hA.lw.J5 (js:=js) hk ⟨a,b+1,by rw[az,QG]⟩ ar.ws;have hB:SvB p F G w M j js w2:=⟨l2,hA.went.trans aB,ar,hA.eq,hA.inv.ws.jb j (agQ),hA.inv.jb j (agQ)⟩;exact hB.below ad
 ·intro j js w1 hB;obtain⟨ci,ae⟩:∃ci:Nat,j.client=(ci:Int):=⟨j.client.toNat,by have:=hB.jb;omega⟩;obtain⟨ni,ah⟩:∃ni:Nat,j.line=(ni:Int):=⟨j.line.toNat,by have:=hB.jb;omega⟩;have h3:ci<3:=by have:=hB.jb;omega
  have am:ni<3:=by have:=hB.jb;omega
  have ap:10+ci*3+ni=10+(3*ci+ni):=by omega
  have ag:w1.cell? ⟨p.s,10+ci*3+ni,none⟩=some (Bt p.t G.seen (3*ci+ni)):=by
   rw[ap];exact AP hB.lw.BN.bs (Iw p.t G.seen p.n p.nm G.c G.Aj (i:=3*ci+ni) (by omega))
  have an:3*ci+ni<9:=by omega
  have ac:=hB.inv.G8 an;have aA:R.AY {G with jobs:=js} (3*ci+ni)=R.AY G (3*ci+ni):=rfl;rw[aA]at ac;have ao:3*j.client.toNat+j.line.toNat=3*ci+ni:=by rw[ae,ah];simp
  have ab:R.FC G j↔(R.AY G (3*ci+ni)).state=2/\(R.AY G (3*ci+ni)).seq=j.seq/\G.Aj.getD ci 0=j.Ae:=by
   unfold R.FC;rw[ao,ae];simp
  rw[ae,ah];generalize R.AY G (3*ci+ni)=r at ac ab;have aw:¬R.FC G j->R.BV G=R.Br G js:=fun hn=>by
   rw[hB.eq];simp only[R.Br];rw[if_neg hn]
  by_cases h0:r.seq=0
  ·have hz:=(hB.inv.ws.sn _ r ac).zero h0;have hc:Bt p.t G.seen (3*ci+ni)=.pointer none:=by
    unfold Bt;rw[show G.seen[3*ci+ni]?=some r from ac];simp[h0]
   rw[hc]at ag;have hn:¬R.FC G j:=fun q=>by
    have:=(ab.1 q).1;rw[hz]at this;cases this
   refine(Xl w1 p.s ci ni j.Ae j.seq j.uid h3 am ag).mono ?_;rintro e w2 ⟨rfl,hb⟩;have aa:=hB.below hb;exact⟨hb,afJ ⟨rfl,aa.lw,aa.went,aa.inv,aw hn⟩⟩
  ·have hc:Bt p.t G.seen (3*ci+ni)=ptr (p.t.ql (3*ci+ni)):=by
    unfold Bt;rw[show G.seen[3*ci+ni]?=some r from ac];simp[h0]
   rw[hc]at ag;obtain⟨y,hq,_⟩:=hB.lw.q (i:=3*ci+ni) (r:=r) ac h0;have hY:=Qb hq.blk;have ai:=hq.rel;have af:(3*ci+ni) / 3=ci:=by omega
   have al:(3*ci+ni) % 3=ni:=by omega
   have d0:=hY.a0;have d2:=hY.a2;rw[ai.client,af]at d0;rw[ai.line,al]at d2;refine(Ux w1 p.s (p.t.ql (3*ci+ni)) ci ni j.Ae j.seq j.uid y.Ae y.seq y.uid y.state h3 am ag d0 hY.a1 d2 hY.a3 hY.a4 hY.a5).mono ?_;rintro e w2 ⟨rfl,hb⟩;have aa:=hB.below hb;refine⟨hb,?_⟩;have aj:(y.Ae=j.Ae/\y.seq=j.seq/\y.uid=j.uid/\y.state=1)↔R.FC G j:=by
    rw[ab,ai.Ae,ai.seq,ai.uid,ai.state,af];constructor
    ·rintro ⟨q1,q2,q3,q4⟩;exact⟨by omega,q2,q1⟩
    ·rintro ⟨q1,q2,q3⟩;refine⟨q3,q2,?_,by omega⟩;obtain⟨d,hd⟩:=hB.inv.sn _ r ac h0;obtain⟨d',av,hu⟩:=hB.uid;have:=hd.made;rw[af,al]at this;rw[ae,ah,<-q2,<-q3]at av;have e:some d=some d':=this.symm.trans av;cases e;rw[hd.uid,hu]
   by_cases hw:R.FC G j
   ·right;exact⟨by rw[decide_eq_true (aj.2 hw)],aa,hw⟩
   ·left;exact⟨by rw[decide_eq_false (fun q=>hw (aj.1 q))],aa.lw,aa.went,aa.inv,aw hw⟩
 ·rintro j js w1 ⟨hB,hw⟩;obtain⟨ci,ae⟩:∃ci:Nat,j.client=(ci:Int):=⟨j.client.toNat,by have:=hB.jb;omega⟩;obtain⟨ni,ah⟩:∃ni:Nat,j.line=(ni:Int):=⟨j.line.toNat,by have:=hB.jb;omega⟩;have h3:ci<3:=by have:=hB.jb;omega
  have am:ni<3:=by have:=hB.jb;omega
  have ap:10+ci*3+ni=10+(3*ci+ni):=by omega
  have ao:3*j.client.toNat+j.line.toNat=3*ci+ni:=by rw[ae,ah];simp
  have an:3*ci+ni<9:=by omega
  have h2:(R.AY {G with jobs:=js} (3*ci+ni)).state=2:=by
   have:=hw.1;rw[ao]at this;exact this
  have ac:=hB.inv.G8 an;have h0:(R.AY {G with jobs:=js} (3*ci+ni)).seq≠0:=fun e=>by
   rw[(hB.inv.ws.sn _ _ ac).zero e]at h2;cases h2
  have ag:w1.cell? ⟨p.s,10+ci*3+ni,none⟩=some (ptr (p.t.ql (3*ci+ni))):=by
   rw[ap];have:=AP hB.lw.BN.bs (Iw p.t G.seen p.n p.nm G.c G.Aj (i:=3*ci+ni) (by omega));rw[this];unfold Bt;rw[show G.seen[3*ci+ni]?=some _ from ac];simp only[af2];rw[if_neg h0]
  refine⟨ci,ni,_,ae,ah,h3,am,ag,?_⟩;have ax:Below w1.heap.size w1 w1.drew:=⟨rfl,rfl,rfl,afI _,fun _ _=>rfl⟩;have aa:=hB.below ax;refine(aa.lw.done (ht.keeps aa.went.keeps aq) aq aa.inv an h2).mono ?_;rintro e w2 ⟨rfl,t,F',hL,hW⟩;have ay:R.BV G=(0,R.Gm {G with jobs:=js} (3*ci+ni)):=by
   rw[hB.eq];simp only[R.Br];rw[if_pos hw,ao]
  rw[ay];exact⟨rfl,rfl,t,F',hL,aa.went.trans hW⟩
 ·rintro e w' (⟨rfl,h1,h2⟩|⟨rfl,h1,h2⟩)
  ·exact⟨by rw[h1],h2⟩
  ·exact⟨by rw[h1],h2⟩
theorem LW.acH(h:LW p F G w)(ht:Ec w)(aa:¬F 0)(hI:R.Inv M G):
  Calls Tryz.prog 30 #[ptr p.x] w fun e w'=>e=.returned (.int .i64 (R.BV G).1)/\E8 p F w (R.BV G).2 w':=by
 have x1:w.cell? ⟨p.x,1,none⟩=some (ptr p.s):=cell_of h.bx 1 _ rfl;have HS:=Ac (h.serve ht aa hI);generalize R.BV G=Z at *;clear h ht hI;go_enter Tryz.func30,Tryz.ntmps30;go_wp2_with (go_at_call 56;refine(Aa HS).mono ?_;rintro e w' ⟨rfl,hw⟩;have HW:=Ac hw;clear hw)
 go_returns;exact⟨rfl,Aa HW⟩
theorem M5(w:World)(s m:Nat)(a:Option Addr)(cap:Nat)(u:Int)(h6:w.cell? ⟨s,6,none⟩=some (.slice a m cap)):Calls Tryz.prog 37 #[ptr s,.int .i64 u] w fun e w'=>e=.returned (.bool (decide (1<=u/\u<=(m:Int))))/\Below w.heap.size w w':=by
 refine(J7 w s m a cap u h6).mono ?_;rintro e w' ⟨rfl,rfl⟩;exact⟨rfl,Below.refl _ _⟩
theorem acs(w:World)(s m:Nat)(a:Option Addr)(cap:Nat)(u:Int)(h6:w.cell? ⟨s,6,none⟩=some (.slice a m cap))(hu:¬(1<=u/\u<=(m:Int))):
  Calls Tryz.prog 20 #[ptr s,.int .i64 u] w fun e w'=>e=.returned (.tuple #[.int .i64 0,.int .i64 9])/\Below w.heap.size w w':=by
 have H:=M5 w s m a cap u h6;rw[decide_eq_false hu]at H;have HM:=Ac H;clear H hu;go_enter Tryz.func20,Tryz.ntmps20;go_wp2_with (go_at_call 37;refine(Aa HM).mono ?_;rintro e w1 ⟨rfl,aa⟩;have HB:=Ac aa;clear aa)
 go_returns;exact⟨rfl,Aa HB⟩
theorem aa1(w:World)(s g m cap u:Nat)(da:Option Addr)(dl dc:Nat)(h6:w.cell? ⟨s,6,none⟩=some (.slice (some ⟨g,0,none⟩) m cap))(hu:u<m)(hm:m<=255)(h2:w.cell? ⟨g,u*3+2,none⟩=some (.slice da dl dc)):
  Calls Tryz.prog 20 #[ptr s,.int .i64 ((u:Int)+1)] w fun e w'=>e=.returned (.tuple #[.int .i64 (dl:Int),.int .i64 0])/\Below w.heap.size w w':=by
 have H:=M5 w s m (some ⟨g,0,none⟩) cap ((u:Int)+1) h6;rw[decide_eq_true (by omega)]at H;have HM:=Ac H;have ae:=lt_of_cell h6;have ad:=lt_of_cell h2;have HV:Hid (∀w1,Below w.heap.size w w1->w1.cell? ⟨g,u*3+2,none⟩=some (.slice da dl dc)/\Calls Tryz.prog 38 #[ptr s,.int .i64 ((u:Int)+1)] w1 fun e w'=>e=.returned (.pointer (some ⟨g,u*3,none⟩))/\w'=w1):=fun w1 hb=>⟨(hb.cell (p:=⟨g,u*3+2,none⟩) ad).trans h2,Ey w1 s g u m cap ((hb.cell (p:=⟨s,6,none⟩) ae).trans h6) hu hm⟩
 clear H;go_enter Tryz.func20,Tryz.ntmps20;go_wp2_with (first
  |(go_at_call 37;refine(Aa HM).mono ?_;rintro e w1 ⟨rfl,aa⟩;obtain⟨d2,hv⟩:=(Aa HV) w1 aa;have HB:=Ac aa;have ac:=Ac hv;clear aa hv)
  |(go_at_call 38;refine(Aa ac).mono ?_;rintro e w2 ⟨rfl,ab⟩;rw[ab];clear ab))
 go_returns;exact⟨rfl,Aa HB⟩
theorem LW.aed(h:LW p F G w)(u:Int):
  Calls Tryz.prog 20 #[ptr p.s,.int .i64 u] w fun e w'=>e=.returned (.tuple #[.int .i64 (R.I4 G u).1,.int .i64 (R.I4 G u).2])/\Below w.heap.size w w':=by
 have ae:p.t.zs.length=G.Ab.length:=by rw[<-h.BN.zs,af0]
 have ab:=h.wf.sv;unfold R.I4;by_cases hm:R.Ip G u
 ·rw[if_pos hm];unfold R.Ip at hm;obtain⟨n,rfl⟩:∃n:Nat,u=(n:Int)+1:=⟨(u-1).toNat,by omega⟩;have hn:n<G.Ab.length:=by omega
  have hs:G.Ab[n]?=some G.Ab[n]:=afH hn;obtain⟨z,hz,ad⟩:=KV h.BN.zs hs;obtain⟨g,cap,af,hK,hg,ag,k0,k1,k2,_⟩:=h.BN.Jt hz;obtain⟨es,he,aa,_⟩:=(h.BN.each z (afU hz)).log;obtain⟨da,dc,ac⟩:=AX aa;rw[ac]at k2;have h6:w.cell? ⟨p.s,6,none⟩=some (.slice (some ⟨g,0,none⟩) p.t.zs.length cap):=by
   have:=cell_of h.BN.bs 6 p.t.K rfl;rw[hK]at this;exact this
  have hl:(R.Ho G ((n:Int)+1)).length=es.length:=by
   unfold R.Ho;rw[show ((n:Int)+1-1).toNat=n by omega,hs,<-ad];simp only[af9,af2];rw[<-he,af0]
  rw[hl];exact aa1 w p.s g p.t.zs.length cap n da es.length dc h6 (by omega) (by omega) k2
 ·rw[if_neg hm];unfold R.Ip at hm;obtain⟨a,c,hK⟩:=AX h.BN.made;have h6:w.cell? ⟨p.s,6,none⟩=some (.slice a p.t.zs.length c):=by
   have:=cell_of h.BN.bs 6 p.t.K rfl;rw[hK]at this;exact this
  exact acs w p.s p.t.zs.length a c u h6 (by rw[ae];exact hm)
theorem LW.log(h:LW p F G w)(u:Int):
  Calls Tryz.prog 9 #[ptr p.x,.int .i64 u] w fun e w'=>e=.returned (.tuple #[.int .i64 (R.I4 G u).1,.int .i64 (R.I4 G u).2])/\Below w.heap.size w w':=by
 have x1:w.cell? ⟨p.x,1,none⟩=some (ptr p.s):=cell_of h.bx 1 _ rfl;have HS:=Ac (h.aed u);generalize R.I4 G u=Z at *;clear h;go_enter Tryz.func9,Tryz.ntmps9;go_wp2_with (go_at_call 20;refine(Aa HS).mono ?_;rintro e w' ⟨rfl,hw⟩;have HW:=Ac hw;clear hw)
 go_returns;exact⟨rfl,Aa HW⟩
def UR:List Value:=[.int .i64 0,.int .i64 0,.int .i64 0,.int .i64 0,.int .i64 0,.slice none 0 0,.slice none 0 0]
abbrev acI(w:World)(b:Nat)(v0 v1 v2 v3 v4 v5 v6:Value):World:=((((((w.setCell ⟨b,0,none⟩ v0).setCell ⟨b,1,none⟩ v1).setCell ⟨b,2,none⟩ v2).setCell ⟨b,3,none⟩ v3).setCell ⟨b,4,none⟩ v4).setCell ⟨b,5,none⟩ v5).setCell ⟨b,6,none⟩ v6
structure En7(w0:World)(b:Nat)(v0 v1 v2 v3 v4 v5 v6:Value)(W:World):Prop where
 c0:W.cell? ⟨b,0,none⟩=some v0
 c1:W.cell? ⟨b,1,none⟩=some v1
 c2:W.cell? ⟨b,2,none⟩=some v2
 c3:W.cell? ⟨b,3,none⟩=some v3
 c4:W.cell? ⟨b,4,none⟩=some v4
 c5:W.cell? ⟨b,5,none⟩=some v5
 c6:W.cell? ⟨b,6,none⟩=some v6
 z:∀j,W.frozen? ⟨b,j,none⟩=false
 keep:Af (fun k=>k=b) w0 W
theorem GR{w0:World}{v0 v1 v2 v3 v4 v5 v6:Value}(h:W.heap[b]?=some (.cells #[v0,v1,v2,v3,v4,v5,v6] 45 (0,0)))(hk:Af (fun k=>k=b) w0 W):En7 w0 b v0 v1 v2 v3 v4 v5 v6 W:=
 ⟨cell_of h 0 _ rfl,cell_of h 1 _ rfl,cell_of h 2 _ rfl,cell_of h 3 _ rfl,cell_of h 4 _ rfl,cell_of h 5 _ rfl,cell_of h 6 _ rfl,fun _=>open_list h,hk⟩
theorem ZI(h:w.heap[b]?=some (.cells #[u0,u1,u2,u3,u4,u5,u6] 45 (0,0)))(v0 v1 v2 v3 v4 v5 v6:Value):(acI w b v0 v1 v2 v3 v4 v5 v6).heap[b]?=some (.cells #[v0,v1,v2,v3,v4,v5,v6] 45 (0,0)):=by
 have e0:=Ai (cs:=[u0,u1,u2,u3,u4,u5,u6]) (off:=0) h v0;have e1:=Ai (off:=1) e0 v1;have e2:=Ai (off:=2) e1 v2;have e3:=Ai (off:=3) e2 v3;have e4:=Ai (off:=4) e3 v4;have e5:=Ai (off:=5) e4 v5;exact Ai (off:=6) e5 v6
theorem WU(w:World)(b:Nat)(v0 v1 v2 v3 v4 v5 v6:Value):Af (fun k=>k=b) w (acI w b v0 v1 v2 v3 v4 v5 v6):=((((((Ah _).trans (Ah _)).trans (Ah _)).trans (Ah _)).trans (Ah _)).trans (Ah _)).trans (Ah _)
theorem IG(h:w.heap[b]?=some (.cells #[u0,u1,u2,u3,u4,u5,u6] 45 (0,0)))(v0 v1 v2 v3 v4 v5 v6:Value):En7 w b v0 v1 v2 v3 v4 v5 v6 (acI w b v0 v1 v2 v3 v4 v5 v6):=GR (ZI h v0 v1 v2 v3 v4 v5 v6) (WU w b v0 v1 v2 v3 v4 v5 v6)
theorem Gh(hb:Below w.heap.size w w1)(hk:Af (fun k=>k=w.heap.size) w1 W):Below w.heap.size w W:=hb.trans ⟨hk.os,hk.tape,hk.output,hk.size,fun k aa=>hk.block k (afT aa hb.size) (by omega)⟩
theorem Ku(hb:Below (w.alloc (.cells UR.toArray 45)).heap.size (w.alloc (.cells UR.toArray 45)) w1):w1.heap[w.heap.size]?=some (.cells #[.int .i64 0,.int .i64 0,.int .i64 0,.int .i64 0,.int .i64 0,.slice none 0 0,.slice none 0 0] 45 (0,0))/\Below w.heap.size w w1:=
 ⟨(hb.block _ (by simp)).trans (heap_alloc_new w _),((Below.refl _ _).alloc (afI _) _).trans ⟨hb.os,hb.tape,hb.output,hb.size,fun k hk=>hb.block k (by simp;omega)⟩⟩
theorem Yc(w:World)(s:Nat)(u k n er:Int)(h:∀wa,Below w.heap.size w wa->Calls Tryz.prog 20 #[ptr s,.int .i64 u] wa fun e w'=>e=.returned (.tuple #[.int .i64 n,.int .i64 er])/\Below wa.heap.size wa w')(ab:er≠0\/k<0\/n<=k):
  Calls Tryz.prog 21 #[ptr s,.int .i64 u,.int .i64 k] w fun e w'=>e=.returned (.tuple #[.agg UR.toArray,.int .i64 9])/\Below w.heap.size w w':=by
 have HL:=Ac (h (w.alloc (.cells UR.toArray 45)) ((Below.refl _ _).alloc (afI _) _));clear h;by_cases h1:er=0
 ·subst h1;by_cases h2:k<0
  ·clear ab;go_enter Tryz.func21,Tryz.ntmps21;go_wp2_with (go_at_call 20;refine(Aa HL).mono ?_;rintro e w1 ⟨rfl,aa⟩;obtain⟨b1,b4⟩:=Ku aa;obtain⟨f0,f1,f2,f3,f4,f5,f6,fz,_⟩:=GR b1 (Af.refl _ w1);have ac:=lt_of_block b1;have HX:=Ac b1;have HB:=Ac b4;clear aa b4 b1)
   refine AQ _ (IG (Aa HX) (.int .i64 0) (.int .i64 0) (.int .i64 0) (.int .i64 0) (.int .i64 0) (.slice none 0 0) (.slice none 0 0)) ?_;rintro W ⟨g0,g1,g2,g3,g4,g5,g6,gz,gk⟩;have HK:=Ac gk;clear gk;go_wp2
   (try simp only[Exit.inBlock,Exit.then])
   refine bodyPost_ret (by simp[results,Tryz.results21,go_sem,g0,g1,g2,g3,g4,g5,g6];try rfl) rfl ?_;exact⟨rfl,Gh (Aa HB) (Aa HK)⟩
  ·have h3:n<=k:=by omega
   have h4:¬k<n:=by omega
   clear ab;go_enter Tryz.func21,Tryz.ntmps21;go_wp2_with (go_at_call 20;refine(Aa HL).mono ?_;rintro e w1 ⟨rfl,aa⟩;obtain⟨b1,b4⟩:=Ku aa;obtain⟨f0,f1,f2,f3,f4,f5,f6,fz,_⟩:=GR b1 (Af.refl _ w1);have ac:=lt_of_block b1;have HX:=Ac b1;have HB:=Ac b4;clear aa b4 b1)
   refine AQ _ (IG (Aa HX) (.int .i64 0) (.int .i64 0) (.int .i64 0) (.int .i64 0) (.int .i64 0) (.slice none 0 0) (.slice none 0 0)) ?_;rintro W ⟨g0,g1,g2,g3,g4,g5,g6,gz,gk⟩;have HK:=Ac gk;clear gk;go_wp2
   (try simp only[Exit.inBlock,Exit.then])
   refine bodyPost_ret (by simp[results,Tryz.results21,go_sem,g0,g1,g2,g3,g4,g5,g6];try rfl) rfl ?_;exact⟨rfl,Gh (Aa HB) (Aa HK)⟩
 ·have e1:(er != 0)=true:=by simpa using h1
  clear ab;go_enter Tryz.func21,Tryz.ntmps21;go_wp2_with (go_at_call 20;refine(Aa HL).mono ?_;rintro e w1 ⟨rfl,aa⟩;obtain⟨b1,b4⟩:=Ku aa;obtain⟨f0,f1,f2,f3,f4,f5,f6,fz,_⟩:=GR b1 (Af.refl _ w1);have ac:=lt_of_block b1;have HX:=Ac b1;have HB:=Ac b4;clear aa b4 b1)
  refine AQ _ (IG (Aa HX) (.int .i64 0) (.int .i64 0) (.int .i64 0) (.int .i64 0) (.int .i64 0) (.slice none 0 0) (.slice none 0 0)) ?_;rintro W ⟨g0,g1,g2,g3,g4,g5,g6,gz,gk⟩;have HK:=Ac gk;clear gk;go_wp2
  (try simp only[Exit.inBlock,Exit.then])
  refine bodyPost_ret (by simp[results,Tryz.results21,go_sem,g0,g1,g2,g3,g4,g5,g6];try rfl) rfl ?_;exact⟨rfl,Gh (Aa HB) (Aa HK)⟩
theorem VR(w:World)(s g u lb dl dc k:Nat)(n:Int)(v0 v1 v2 v3 v4:Int)(xa ya:Option Addr)(xn xc yn yc:Nat)(P Q:Value->World->Prop)(hn:(k:Int)<n)(hk:k<dl)
  (d2:w.cell? ⟨g,u*3+2,none⟩=some (.slice (some ⟨lb,0,none⟩) dl dc)) (e0:w.cell? ⟨lb,k*7,none⟩=some (.int .i64 v0)) (e1:w.cell? ⟨lb,k*7+1,none⟩=some (.int .i64 v1)) (e2:w.cell? ⟨lb,k*7+2,none⟩=some (.int .i64 v2)) (e3:w.cell? ⟨lb,k*7+3,none⟩=some (.int .i64 v3)) (e4:w.cell? ⟨lb,k*7+4,none⟩=some (.int .i64 v4)) (e5:w.cell? ⟨lb,k*7+5,none⟩=some (.slice xa xn xc)) (e6:w.cell? ⟨lb,k*7+6,none⟩=some (.slice ya yn yc))
  (ah:∀wa,Below w.heap.size w wa->Calls Tryz.prog 20 #[ptr s,.int .i64 ((u:Int)+1)] wa fun e w'=>e=.returned (.tuple #[.int .i64 n,.int .i64 0])/\Below wa.heap.size wa w')
  (ad:∀wa,Below w.heap.size w wa->Calls Tryz.prog 38 #[ptr s,.int .i64 ((u:Int)+1)] wa fun e w'=>e=.returned (.pointer (some ⟨g,u*3,none⟩))/\w'=wa)
  (HA:∀wa,Below w.heap.size w wa->Calls Tryz.prog 39 #[.slice xa xn xc] wa fun e w'=>(∃ra rn rc,e=.returned (.slice ra rn rc)/\∀wb,Af (fun k=>w.heap.size<=k/\k<wa.heap.size) w' wb->P (.slice ra rn rc) wb)/\Below wa.heap.size wa w')
  (HB:∀wa,Below w.heap.size w wa->Calls Tryz.prog 39 #[.slice ya yn yc] wa fun e w'=>(∃ra rn rc,e=.returned (.slice ra rn rc)/\∀wb,Af (fun k=>w.heap.size<=k/\k<wa.heap.size) w' wb->Q (.slice ra rn rc) wb)/\Below wa.heap.size wa w'):
  Calls Tryz.prog 21 #[ptr s,.int .i64 ((u:Int)+1),.int .i64 (k:Int)] w fun e w'=>∃X Y,e=.returned (.tuple #[.agg #[.int .i64 v0,.int .i64 v1,.int .i64 v2,.int .i64 v3,.int .i64 v4,X,Y],.int .i64 0])/\P X w'/\Q Y w'/\Below w.heap.size w w':=by
 have HL:=Ac (ah (w.alloc (.cells UR.toArray 45)) ((Below.refl _ _).alloc (afI _) _));have HV:=Ac ad;have HA:=Ac HA;have HB:=Ac HB;have ay:=lt_of_cell d2;have ac:=lt_of_cell e0;have q0:¬(k:Int)<0:=by omega
 have q1:¬n<=(k:Int):=by omega
 have q2:(0:Int)<=(k:Int):=by omega
 have q3:(k:Int)<(dl:Int):=by omega
 have HC:Hid (∀w1,Below w.heap.size w w1->w1.cell? ⟨g,u*3+2,none⟩=some (.slice (some ⟨lb,0,none⟩) dl dc)/\w1.cell? ⟨lb,k*7,none⟩=some (.int .i64 v0)/\w1.cell? ⟨lb,k*7+1,none⟩=some (.int .i64 v1)/\w1.cell? ⟨lb,k*7+2,none⟩=some (.int .i64 v2)/\w1.cell? ⟨lb,k*7+3,none⟩=some (.int .i64 v3)/\w1.cell? ⟨lb,k*7+4,none⟩=some (.int .i64 v4)/\w1.cell? ⟨lb,k*7+5,none⟩=some (.slice xa xn xc)/\w1.cell? ⟨lb,k*7+6,none⟩=some (.slice ya yn yc)):=fun w1 hb=>
  ⟨(hb.cell (p:=⟨g,_,none⟩) ay).trans d2,(hb.cell (p:=⟨lb,_,none⟩) ac).trans e0,(hb.cell (p:=⟨lb,_,none⟩) ac).trans e1,(hb.cell (p:=⟨lb,_,none⟩) ac).trans e2,(hb.cell (p:=⟨lb,_,none⟩) ac).trans e3,(hb.cell (p:=⟨lb,_,none⟩) ac).trans e4,(hb.cell (p:=⟨lb,_,none⟩) ac).trans e5,(hb.cell (p:=⟨lb,_,none⟩) ac).trans e6⟩
 clear ah ad d2 e0 e1 e2 e3 e4 e5 e6;go_enter Tryz.func21,Tryz.ntmps21;go_wp2_with (first
  |(go_at_call 20;refine(Aa HL).mono ?_;rintro e w1 ⟨rfl,ap⟩;obtain⟨b1,b4⟩:=Ku ap;have aw:=lt_of_block b1;have HX:=Ac b1;have ar:=Ac b4;have am:=Ac ((Aa HV) w1 b4);obtain⟨d2,e0,e1,e2,e3,e4,e5,e6⟩:=(Aa HC) w1 b4;clear ap b4 b1)
  |(go_at_call 38;refine(Aa am).mono ?_;rintro e w2 ⟨rfl,aq⟩;rw[aq];clear aq))
 have az:w.heap.size<w1.heap.size:=aw;have af:Below w.heap.size w (w1.alloc (.cells #[.int .i64 v0,.int .i64 v1,.int .i64 v2,.int .i64 v3,.int .i64 v4,.slice xa xn xc,.slice ya yn yc] 45)):=(Aa ar).alloc (by omega) _;refine((Aa HA) _ af).mono ?_;rintro e w2 ⟨⟨ra,rn,rc,rfl,hP⟩,ab⟩;have b2:w2.heap[w1.heap.size]?=some (.cells #[.int .i64 v0,.int .i64 v1,.int .i64 v2,.int .i64 v3,.int .i64 v4,.slice xa xn xc,.slice ya yn yc] 45 (0,0)):=(ab.block _ (by simp)).trans (heap_alloc_new w1 _);have r2:=((ab.block w.heap.size (by simp;omega)).trans (Below.heap_alloc _ _ _ az)).trans (Aa HX);obtain⟨f0,f1,f2,f3,f4,f5,f6,fz,_⟩:=GR b2 (Af.refl _ w2);have aC:=lt_of_block b2;have ag:Below w.heap.size w (w2.setCell ⟨w1.heap.size,5,none⟩ (.slice ra rn rc)):=by
  have hk:Af (fun k=>k=w1.heap.size) w2 (w2.setCell ⟨w1.heap.size,5,none⟩ (.slice ra rn rc)):=Ah _;have h1:Below w.heap.size w w2:=af.trans ⟨ab.os,ab.tape,ab.output,ab.size,fun k hk=>ab.block k (by simp;omega)⟩;exact h1.trans ⟨hk.os,hk.tape,hk.output,hk.size,fun k av=>hk.block k (afT av h1.size) (by omega)⟩
 have HP:=Ac hP;have ai:=Ac b2;have ak:=Ac r2;have al:=Ac ab.size;have aj:=Ac ((Aa HB) _ ag);have an:=Ac ag;clear hP b2 r2 ab ag af HA HB HC HV am HL HX d2 e0 e1 e2 e3 e4 e5 e6;go_wp2_with fail
 refine(Aa aj).mono ?_;rintro e w3 ⟨⟨sa,sn,sc,rfl,hQ⟩,aa⟩;have ao:w.heap.size≠w1.heap.size:=by omega
 have aB:=aa.size;simp only[World.size_setCell]at aB;have b3:w3.heap[w1.heap.size]?=some (.cells #[.int .i64 v0,.int .i64 v1,.int .i64 v2,.int .i64 v3,.int .i64 v4,.slice ra rn rc,.slice ya yn yc] 45 (0,0)):=(aa.block _ (by simp;omega)).trans (Ai (cs:=[.int .i64 v0,.int .i64 v1,.int .i64 v2,.int .i64 v3,.int .i64 v4,.slice xa xn xc,.slice ya yn yc]) (off:=5) (Aa ai) _);have r3:=((aa.block w.heap.size (by simp;omega)).trans (Below.heap_setCell _ _ _ _ ao)).trans (Aa ak);have r4:=(Below.heap_setCell w3 ⟨w1.heap.size,6,none⟩ (.slice sa sn sc) w.heap.size ao).trans r3;clear f0 f1 f2 f3 f4 f5 f6 fz;obtain⟨f0,f1,f2,f3,f4,f5,f6,fz,_⟩:=GR b3 (Af.refl _ w3);obtain⟨g0,g1,g2,g3,g4,g5,g6,gz,_⟩:=GR r3 (Af.refl _ w3);have aD:=lt_of_block b3;have ax:=lt_of_block r3;have ae:Af (fun k=>k=w1.heap.size) w3 (w3.setCell ⟨w1.heap.size,6,none⟩ (.slice sa sn sc)):=Ah _;have HF:Hid (∀W,Af (fun k=>k=w.heap.size) (w3.setCell ⟨w1.heap.size,6,none⟩ (.slice sa sn sc)) W->P (.slice ra rn rc) W/\Q (.slice sa sn sc) W/\Below w.heap.size w W):=fun W hW=>by
  have k3:Af (fun k=>k=w.heap.size\/k=w1.heap.size) w3 W:=(ae.mono (fun k _ e=>afM e)).trans (hW.mono (fun k _ e=>afJ e));have aA:=Aa al;simp only[World.size_alloc]at aA;refine⟨(Aa HP) W ?_,hQ W (k3.mono (fun k _ e=>by simp only[World.size_setCell];omega)),?_⟩
  ·have ka:Af (fun k=>w.heap.size<=k/\k<(w1.alloc (.cells #[.int .i64 v0,.int .i64 v1,.int .i64 v2,.int .i64 v3,.int .i64 v4,.slice xa xn xc,.slice ya yn yc] 45)).heap.size) w2 (w2.setCell ⟨w1.heap.size,5,none⟩ (.slice ra rn rc)):=(Ah _).mono (fun k _ e=>by simp only[World.size_alloc];have:k=w1.heap.size:=e;omega);exact(ka.trans (Af.Al aa _)).trans (k3.mono (fun k _ e=>by simp only[World.size_alloc];omega))
  ·have h3:Below w.heap.size w w3:=(Aa an).trans ⟨aa.os,aa.tape,aa.output,aa.size,fun k hk=>aa.block k (by simp;omega)⟩;exact h3.trans ⟨k3.os,k3.tape,k3.output,k3.size,fun k hk=>k3.block k (by omega) (by omega)⟩
 have au:=Ac r4;clear r4 b3 r3 hQ aa aj an ae HP ai ak al;go_wp2;refine AQ _ (IG (Aa au) (.int .i64 v0) (.int .i64 v1) (.int .i64 v2) (.int .i64 v3) (.int .i64 v4) (.slice ra rn rc) (.slice sa sn sc)) ?_;rintro W ⟨m0,m1,m2,m3,m4,m5,m6,mz,mk⟩;have HK:=Ac mk;clear mk;go_wp2
 (try simp only[Exit.inBlock,Exit.then])
 refine bodyPost_ret (by simp[results,Tryz.results21,go_sem,m0,m1,m2,m3,m4,m5,m6];try rfl) rfl ?_;obtain⟨z1,z2,z3⟩:=(Aa HF) W (Aa HK);exact⟨_,_,rfl,z1,z2,z3⟩
end Go.Proofs.YtblomippkddgiabGreatDoor
