import Derived.Test.YtblomippkddgiaaGreatDoorK41
set_option maxRecDepth 100000
set_option maxHeartbeats 2000000
namespace Go.Proofs.YtblomippkddgiaaGreatDoor
open Go.RowKit
structure SvA(p:Pl)(F:Aq)(G:R.Wd)(w:World)(M:R.Bk)(js:List R.Jb)(w1:World):Prop where
 lw:LW p F {G with jobs:=js} w1
 went:Ay F F w w1
 inv:R.Inv M {G with jobs:=js}
 eq:R.AP G=R.BV G js
structure SvB(p:Pl)(F:Aq)(G:R.Wd)(w:World)(M:R.Bk)(j:R.Jb)(js:List R.Jb)(w1:World):Prop where
 lw:LW p F {G with jobs:=js} w1
 went:Ay F F w w1
 inv:R.Inv M {G with jobs:=js}
 eq:R.AP G=R.BV G (j :: js)
 jb:(0<=j.client/\j.client<=2)/\(0<=j.line/\j.line<=2)
 uid:∃d,M ⟨j.client,j.Ag,j.line,j.seq⟩=some d/\j.uid=d.uid
theorem O8(j:R.Jb)(js:List R.Jb):(((j :: js).map NY).toArray).extract 1 (((j :: js).map NY).toArray).size=(js.map NY).toArray:=by
 apply Array.toList_inj.1;rw[Array.toList_extract];simp[List.extract];exact List.take_of_length_le (by simp)
def Tc(b:Nat)(w:World):Nat:=match w.heap[b]? with
 |some (.chan _ buf _ _ _ _)=>buf.size
 |_=>0
theorem SvB.below{p:Pl}{F:Aq}{G:R.Wd}{w w1 w2:World}{M:R.Bk}{j:R.Jb}{js:List R.Jb}(h:SvB p F G w M j js w1)(hb:Below w1.heap.size w1 w2):SvB p F G w M j js w2:=⟨h.lw.below hb,h.went.trans (Ay.Aj F hb),h.inv,h.eq,h.jb,h.uid⟩
theorem LW.serve{p:Pl}{F:Aq}{G:R.Wd}{w:World}(h:LW p F G w)(ht:DU w)(hF0:¬F 0){M:R.Bk}(hI:R.Inv M G):
  Calls Tryz.prog 48 #[ptr p.s] w fun e w'=>e=.returned (.int .i64 (R.AP G).1)/\Ib p F w (R.AP G).2 w':=by
 refine(Sg w p.s (SvA p F G w M) (SvB p F G w M) (fun j js w1=>SvB p F G w M j js w1/\R.Et G j) (fun w'=>(R.AP G).1=19/\Ib p F w (R.AP G).2 w') (fun w'=>(R.AP G).1=0/\Ib p F w (R.AP G).2 w') (Tc p.t.jc) G.jobs ⟨h,Ay.refl F w,hI,rfl⟩ ?_ ?_ ?_ ?_ ?_).mono ?_
 ·intro js w1 hA;obtain⟨a,b,hj⟩:=hA.lw.Co.jobs;unfold Tc;rw[hj];simp
 ·intro w1 hA;obtain⟨a,b,hj⟩:=hA.lw.Co.jobs;refine(On w1 p.s p.t.jc _ a b (cell_of hA.lw.Co.bs 19 _ rfl) hj).mono ?_;rintro e w2 ⟨rfl,hb⟩;refine⟨rfl,fun wa hba=>?_⟩;rw[hA.eq];have hb2:Below w1.heap.size w1 wa:=hb.trans ⟨hba.os,hba.tape,hba.output,hba.size,fun k hk=>hba.block k (Nat.lt_of_lt_of_le hk hb.size)⟩;exact⟨rfl,p.t,F,hA.lw.below hb2,hA.went.trans (Ay.Aj F hb2)⟩
 ·intro j js w1 hA;obtain⟨a,b,hj⟩:=hA.lw.Co.jobs;refine(Oo w1 p.s p.t.jc _ a b _ j.client j.Ag j.line j.seq j.uid (cell_of hA.lw.Co.bs 19 _ rfl) hj (by simp) (by simp[NY])).mono ?_;rintro e w2 ⟨rfl,hj2,hk⟩;refine⟨rfl,fun wa hba=>?_⟩;have hmem:∀x∈js,x∈j :: js:=fun x hx=>List.mem_cons_of_mem _ hx
  have hI2:R.Inv M {G with jobs:=js}:=hA.inv.JW (js:=js) (by
   have:=hA.inv.ws.jl;simp at this;show (js.length:Int)<=G.c.table;omega) (fun x hx=>⟨hA.inv.ws.jb x (hmem x hx),hA.inv.jb x (hmem x hx)⟩)
  obtain⟨l2,w2'⟩:=hA.lw.Jr (js:=js) hk ⟨a,b+1,by rw[hj2,O8]⟩ hI2.ws;have hB:SvB p F G w M j js w2:=⟨l2,hA.went.trans w2',hI2,hA.eq,hA.inv.ws.jb j (List.mem_cons_self),hA.inv.jb j (List.mem_cons_self)⟩;exact hB.below hba
 ·intro j js w1 hB;obtain⟨ci,hci⟩:∃ci:Nat,j.client=(ci:Int):=⟨j.client.toNat,by have:=hB.jb;omega⟩;obtain⟨ni,hni⟩:∃ni:Nat,j.line=(ni:Int):=⟨j.line.toNat,by have:=hB.jb;omega⟩;have h3:ci<3:=by have:=hB.jb;omega
  have h3':ni<3:=by have:=hB.jb;omega
  have e10:10+ci*3+ni=10+(3*ci+ni):=by omega
  have c10:w1.cell? ⟨p.s,10+ci*3+ni,none⟩=some (Bm p.t G.seen (3*ci+ni)):=by
   rw[e10];exact AY hB.lw.Co.bs (Hu p.t G.seen p.n p.nm G.c G.Ai (i:=3*ci+ni) (by omega))
  have hi9:3*ci+ni<9:=by omega
  have hsn:=hB.inv.Dl hi9;have hse:R.Ap {G with jobs:=js} (3*ci+ni)=R.Ap G (3*ci+ni):=rfl;rw[hse]at hsn;have hix:3*j.client.toNat+j.line.toNat=3*ci+ni:=by rw[hci,hni];simp
  have hwait:R.Et G j↔(R.Ap G (3*ci+ni)).state=2/\(R.Ap G (3*ci+ni)).seq=j.seq/\G.Ai.getD ci 0=j.Ag:=by
   unfold R.Et;rw[hix,hci];simp
  rw[hci,hni];generalize R.Ap G (3*ci+ni)=r at hsn hwait;have hno:¬R.Et G j->R.AP G=R.BV G js:=fun hn=>by
   rw[hB.eq];simp only[R.BV];rw[if_neg hn]
  by_cases h0:r.seq=0
  ·have hz:=(hB.inv.ws.sn _ r hsn).zero h0;have hc:Bm p.t G.seen (3*ci+ni)=.pointer none:=by
    unfold Bm;rw[show G.seen[3*ci+ni]?=some r from hsn];simp[h0]
   rw[hc]at c10;have hn:¬R.Et G j:=fun q=>by
    have:=(hwait.1 q).1;rw[hz]at this;cases this
   refine(Vw w1 p.s ci ni j.Ag j.seq j.uid h3 h3' c10).mono ?_;rintro e w2 ⟨rfl,hb⟩;have hB2:=hB.below hb;exact⟨hb,Or.inl ⟨rfl,hB2.lw,hB2.went,hB2.inv,hno hn⟩⟩
  ·have hc:Bm p.t G.seen (3*ci+ni)=ptr (p.t.ql (3*ci+ni)):=by
    unfold Bm;rw[show G.seen[3*ci+ni]?=some r from hsn];simp[h0]
   rw[hc]at c10;obtain⟨y,hq,_⟩:=hB.lw.q (i:=3*ci+ni) (r:=r) hsn h0;have hY:=TK hq.blk;have hrl:=hq.rel;have hdiv:(3*ci+ni) / 3=ci:=by omega
   have hmod:(3*ci+ni) % 3=ni:=by omega
   have d0:=hY.a0;have d2:=hY.a2;rw[hrl.client,hdiv]at d0;rw[hrl.line,hmod]at d2;refine(SK w1 p.s (p.t.ql (3*ci+ni)) ci ni j.Ag j.seq j.uid y.Ag y.seq y.uid y.state h3 h3' c10 d0 hY.a1 d2 hY.a3 hY.a4 hY.a5).mono ?_;rintro e w2 ⟨rfl,hb⟩;have hB2:=hB.below hb;refine⟨hb,?_⟩;have hiff:(y.Ag=j.Ag/\y.seq=j.seq/\y.uid=j.uid/\y.state=1)↔R.Et G j:=by
    rw[hwait,hrl.Ag,hrl.seq,hrl.uid,hrl.state,hdiv];constructor
    ·rintro ⟨q1,q2,q3,q4⟩;exact⟨by omega,q2,q1⟩
    ·rintro ⟨q1,q2,q3⟩;refine⟨q3,q2,?_,by omega⟩;obtain⟨d,hd⟩:=hB.inv.sn _ r hsn h0;obtain⟨d',hd',hu⟩:=hB.uid;have:=hd.made;rw[hdiv,hmod]at this;rw[hci,hni,<-q2,<-q3]at hd';have e:some d=some d':=this.symm.trans hd';cases e;rw[hd.uid,hu]
   by_cases hw:R.Et G j
   ·right;exact⟨by rw[decide_eq_true (hiff.2 hw)],hB2,hw⟩
   ·left;exact⟨by rw[decide_eq_false (fun q=>hw (hiff.1 q))],hB2.lw,hB2.went,hB2.inv,hno hw⟩
 ·rintro j js w1 ⟨hB,hw⟩;obtain⟨ci,hci⟩:∃ci:Nat,j.client=(ci:Int):=⟨j.client.toNat,by have:=hB.jb;omega⟩;obtain⟨ni,hni⟩:∃ni:Nat,j.line=(ni:Int):=⟨j.line.toNat,by have:=hB.jb;omega⟩;have h3:ci<3:=by have:=hB.jb;omega
  have h3':ni<3:=by have:=hB.jb;omega
  have e10:10+ci*3+ni=10+(3*ci+ni):=by omega
  have hix:3*j.client.toNat+j.line.toNat=3*ci+ni:=by rw[hci,hni];simp
  have hi9:3*ci+ni<9:=by omega
  have h2:(R.Ap {G with jobs:=js} (3*ci+ni)).state=2:=by
   have:=hw.1;rw[hix]at this;exact this
  have hsn:=hB.inv.Dl hi9;have h0:(R.Ap {G with jobs:=js} (3*ci+ni)).seq≠0:=fun e=>by
   rw[(hB.inv.ws.sn _ _ hsn).zero e]at h2;cases h2
  have c10:w1.cell? ⟨p.s,10+ci*3+ni,none⟩=some (ptr (p.t.ql (3*ci+ni))):=by
   rw[e10];have:=AY hB.lw.Co.bs (Hu p.t G.seen p.n p.nm G.c G.Ai (i:=3*ci+ni) (by omega));rw[this];unfold Bm;rw[show G.seen[3*ci+ni]?=some _ from hsn];simp only[Option.getD_some];rw[if_neg h0]
  refine⟨ci,ni,_,hci,hni,h3,h3',c10,?_⟩;have hbd:Below w1.heap.size w1 w1.drew:=⟨rfl,rfl,rfl,Nat.le_refl _,fun _ _=>rfl⟩;have hB2:=hB.below hbd;refine(hB2.lw.done (ht.keeps hB2.went.keeps hF0) hF0 hB2.inv hi9 h2).mono ?_;rintro e w2 ⟨rfl,t,F',hL,hW⟩;have heq:R.AP G=(0,R.Ha {G with jobs:=js} (3*ci+ni)):=by
   rw[hB.eq];simp only[R.BV];rw[if_pos hw,hix]
  rw[heq];exact⟨rfl,rfl,t,F',hL,hB2.went.trans hW⟩
 ·rintro e w' (⟨rfl,h1,h2⟩|⟨rfl,h1,h2⟩)
  ·exact⟨by rw[h1],h2⟩
  ·exact⟨by rw[h1],h2⟩
theorem LW.aa2{p:Pl}{F:Aq}{G:R.Wd}{w:World}(h:LW p F G w)(ht:DU w)(hF0:¬F 0){M:R.Bk}(hI:R.Inv M G):
  Calls Tryz.prog 22 #[ptr p.x] w fun e w'=>e=.returned (.int .i64 (R.AP G).1)/\Ib p F w (R.AP G).2 w':=by
 have x1:w.cell? ⟨p.x,1,none⟩=some (ptr p.s):=cell_of h.bx 1 _ rfl;have HS:=Ab (h.serve ht hF0 hI);generalize R.AP G=Z at *;clear h ht hI;go_enter Tryz.func22,Tryz.ntmps22;go_wp2_with (go_at_call 48;refine(Aa HS).mono ?_;rintro e w' ⟨rfl,hw⟩;have HW:=Ab hw;clear hw)
 go_returns;exact⟨rfl,Aa HW⟩
theorem Lp(w:World)(s m:Nat)(a:Option Addr)(cap:Nat)(u:Int)(h6:w.cell? ⟨s,6,none⟩=some (.slice a m cap)):Calls Tryz.prog 131 #[ptr s,.int .i64 u] w fun e w'=>e=.returned (.bool (decide (1<=u/\u<=(m:Int))))/\Below w.heap.size w w':=by
 refine(Jv w s m a cap u h6).mono ?_;rintro e w' ⟨rfl,rfl⟩;exact⟨rfl,Below.refl _ _⟩
theorem aaQ(w:World)(s m:Nat)(a:Option Addr)(cap:Nat)(u:Int)(h6:w.cell? ⟨s,6,none⟩=some (.slice a m cap))(hu:¬(1<=u/\u<=(m:Int))):
  Calls Tryz.prog 79 #[ptr s,.int .i64 u] w fun e w'=>e=.returned (.tuple #[.int .i64 0,.int .i64 9])/\Below w.heap.size w w':=by
 have H:=Lp w s m a cap u h6;rw[decide_eq_false hu]at H;have HM:=Ab H;clear H hu;go_enter Tryz.func79,Tryz.ntmps79;go_wp2_with (go_at_call 131;refine(Aa HM).mono ?_;rintro e w1 ⟨rfl,hw1⟩;have HB:=Ab hw1;clear hw1)
 go_returns;exact⟨rfl,Aa HB⟩
theorem Zm(w:World)(s g m cap u:Nat)(da:Option Addr)(dl dc:Nat)(h6:w.cell? ⟨s,6,none⟩=some (.slice (some ⟨g,0,none⟩) m cap))(hu:u<m)(hm:m<=255)(h2:w.cell? ⟨g,u*3+2,none⟩=some (.slice da dl dc)):
  Calls Tryz.prog 79 #[ptr s,.int .i64 ((u:Int)+1)] w fun e w'=>e=.returned (.tuple #[.int .i64 (dl:Int),.int .i64 0])/\Below w.heap.size w w':=by
 have H:=Lp w s m (some ⟨g,0,none⟩) cap ((u:Int)+1) h6;rw[decide_eq_true (by omega)]at H;have HM:=Ab H;have hls:=lt_of_cell h6;have hlg:=lt_of_cell h2;have HV:Hid (∀w1,Below w.heap.size w w1->w1.cell? ⟨g,u*3+2,none⟩=some (.slice da dl dc)/\Calls Tryz.prog 132 #[ptr s,.int .i64 ((u:Int)+1)] w1 fun e w'=>e=.returned (.pointer (some ⟨g,u*3,none⟩))/\w'=w1):=fun w1 hb=>⟨(hb.cell (p:=⟨g,u*3+2,none⟩) hlg).trans h2,EG w1 s g u m cap ((hb.cell (p:=⟨s,6,none⟩) hls).trans h6) hu hm⟩
 clear H;go_enter Tryz.func79,Tryz.ntmps79;go_wp2_with (first
  |(go_at_call 131;refine(Aa HM).mono ?_;rintro e w1 ⟨rfl,hw1⟩;obtain⟨d2,hv⟩:=(Aa HV) w1 hw1;have HB:=Ab hw1;have HV1:=Ab hv;clear hw1 hv)
  |(go_at_call 132;refine(Aa HV1).mono ?_;rintro e w2 ⟨rfl,hw2⟩;rw[hw2];clear hw2))
 go_returns;exact⟨rfl,Aa HB⟩
theorem LW.acr{p:Pl}{F:Aq}{G:R.Wd}{w:World}(h:LW p F G w)(u:Int):
  Calls Tryz.prog 79 #[ptr p.s,.int .i64 u] w fun e w'=>e=.returned (.tuple #[.int .i64 (R.Iw G u).1,.int .i64 (R.Iw G u).2])/\Below w.heap.size w w':=by
 have hzl:p.t.zs.length=G.Ac.length:=by rw[<-h.Co.zs,List.length_map]
 have h255:=h.wf.sv;unfold R.Iw;by_cases hm:R.Ho G u
 ·rw[if_pos hm];unfold R.Ho at hm;obtain⟨n,rfl⟩:∃n:Nat,u=(n:Int)+1:=⟨(u-1).toNat,by omega⟩;have hn:n<G.Ac.length:=by omega
  have hs:G.Ac[n]?=some G.Ac[n]:=List.getElem?_eq_getElem hn;obtain⟨z,hz,hz1⟩:=Mh h.Co.zs hs;obtain⟨g,cap,cur,hK,hg,hFg,k0,k1,k2,_⟩:=h.Co.JR hz;obtain⟨es,he,hrow,_⟩:=(h.Co.each z (List.mem_of_getElem? hz)).log;obtain⟨da,dc,hdn⟩:=Bg hrow;rw[hdn]at k2;have h6:w.cell? ⟨p.s,6,none⟩=some (.slice (some ⟨g,0,none⟩) p.t.zs.length cap):=by
   have:=cell_of h.Co.bs 6 p.t.K rfl;rw[hK]at this;exact this
  have hl:(R.Jt G ((n:Int)+1)).length=es.length:=by
   unfold R.Jt;rw[show ((n:Int)+1-1).toNat=n by omega,hs,<-hz1];simp only[Option.map_some,Option.getD_some];rw[<-he,List.length_map]
  rw[hl];exact Zm w p.s g p.t.zs.length cap n da es.length dc h6 (by omega) (by omega) k2
 ·rw[if_neg hm];unfold R.Ho at hm;obtain⟨a,c,hK⟩:=Bg h.Co.made;have h6:w.cell? ⟨p.s,6,none⟩=some (.slice a p.t.zs.length c):=by
   have:=cell_of h.Co.bs 6 p.t.K rfl;rw[hK]at this;exact this
  exact aaQ w p.s p.t.zs.length a c u h6 (by rw[hzl];exact hm)
theorem LW.log{p:Pl}{F:Aq}{G:R.Wd}{w:World}(h:LW p F G w)(u:Int):
  Calls Tryz.prog 44 #[ptr p.x,.int .i64 u] w fun e w'=>e=.returned (.tuple #[.int .i64 (R.Iw G u).1,.int .i64 (R.Iw G u).2])/\Below w.heap.size w w':=by
 have x1:w.cell? ⟨p.x,1,none⟩=some (ptr p.s):=cell_of h.bx 1 _ rfl;have HS:=Ab (h.acr u);generalize R.Iw G u=Z at *;clear h;go_enter Tryz.func44,Tryz.ntmps44;go_wp2_with (go_at_call 79;refine(Aa HS).mono ?_;rintro e w' ⟨rfl,hw⟩;have HW:=Ab hw;clear hw)
 go_returns;exact⟨rfl,Aa HW⟩
def Tg:List Value:=[.int .i64 0,.int .i64 0,.int .i64 0,.int .i64 0,.int .i64 0,.slice none 0 0,.slice none 0 0]
abbrev aa3(w:World)(b:Nat)(v0 v1 v2 v3 v4 v5 v6:Value):World:=((((((w.setCell ⟨b,0,none⟩ v0).setCell ⟨b,1,none⟩ v1).setCell ⟨b,2,none⟩ v2).setCell ⟨b,3,none⟩ v3).setCell ⟨b,4,none⟩ v4).setCell ⟨b,5,none⟩ v5).setCell ⟨b,6,none⟩ v6
structure En7(w0:World)(b:Nat)(v0 v1 v2 v3 v4 v5 v6:Value)(W:World):Prop where
 c0:W.cell? ⟨b,0,none⟩=some v0
 c1:W.cell? ⟨b,1,none⟩=some v1
 c2:W.cell? ⟨b,2,none⟩=some v2
 c3:W.cell? ⟨b,3,none⟩=some v3
 c4:W.cell? ⟨b,4,none⟩=some v4
 c5:W.cell? ⟨b,5,none⟩=some v5
 c6:W.cell? ⟨b,6,none⟩=some v6
 z:∀j,W.frozen? ⟨b,j,none⟩=false
 keep:Af (fun k=>k=b) w0 W
theorem Gq{w0 W:World}{b:Nat}{v0 v1 v2 v3 v4 v5 v6:Value}(h:W.heap[b]?=some (.cells #[v0,v1,v2,v3,v4,v5,v6] 98 (0,0)))(hk:Af (fun k=>k=b) w0 W):En7 w0 b v0 v1 v2 v3 v4 v5 v6 W:=
 ⟨cell_of h 0 _ rfl,cell_of h 1 _ rfl,cell_of h 2 _ rfl,cell_of h 3 _ rfl,cell_of h 4 _ rfl,cell_of h 5 _ rfl,cell_of h 6 _ rfl,fun _=>open_list h,hk⟩
theorem X5{w:World}{b:Nat}{u0 u1 u2 u3 u4 u5 u6:Value}(h:w.heap[b]?=some (.cells #[u0,u1,u2,u3,u4,u5,u6] 98 (0,0)))(v0 v1 v2 v3 v4 v5 v6:Value):(aa3 w b v0 v1 v2 v3 v4 v5 v6).heap[b]?=some (.cells #[v0,v1,v2,v3,v4,v5,v6] 98 (0,0)):=by
 have e0:=Ak (cs:=[u0,u1,u2,u3,u4,u5,u6]) (off:=0) h v0;have e1:=Ak (off:=1) e0 v1;have e2:=Ak (off:=2) e1 v2;have e3:=Ak (off:=3) e2 v3;have e4:=Ak (off:=4) e3 v4;have e5:=Ak (off:=5) e4 v5;exact Ak (off:=6) e5 v6
theorem Vd(w:World)(b:Nat)(v0 v1 v2 v3 v4 v5 v6:Value):Af (fun k=>k=b) w (aa3 w b v0 v1 v2 v3 v4 v5 v6):=((((((Am _).trans (Am _)).trans (Am _)).trans (Am _)).trans (Am _)).trans (Am _)).trans (Am _)
theorem Ig{w:World}{b:Nat}{u0 u1 u2 u3 u4 u5 u6:Value}(h:w.heap[b]?=some (.cells #[u0,u1,u2,u3,u4,u5,u6] 98 (0,0)))(v0 v1 v2 v3 v4 v5 v6:Value):En7 w b v0 v1 v2 v3 v4 v5 v6 (aa3 w b v0 v1 v2 v3 v4 v5 v6):=Gq (X5 h v0 v1 v2 v3 v4 v5 v6) (Vd w b v0 v1 v2 v3 v4 v5 v6)
theorem FJ{w w1 W:World}(hb:Below w.heap.size w w1)(hk:Af (fun k=>k=w.heap.size) w1 W):Below w.heap.size w W:=hb.trans ⟨hk.os,hk.tape,hk.output,hk.size,fun k hk'=>hk.block k (Nat.lt_of_lt_of_le hk' hb.size) (by omega)⟩
theorem JN{w w1:World}(hb:Below (w.alloc (.cells Tg.toArray 98)).heap.size (w.alloc (.cells Tg.toArray 98)) w1):w1.heap[w.heap.size]?=some (.cells #[.int .i64 0,.int .i64 0,.int .i64 0,.int .i64 0,.int .i64 0,.slice none 0 0,.slice none 0 0] 98 (0,0))/\Below w.heap.size w w1:=
 ⟨(hb.block _ (by simp)).trans (heap_alloc_new w _),((Below.refl _ _).alloc (Nat.le_refl _) _).trans ⟨hb.os,hb.tape,hb.output,hb.size,fun k hk=>hb.block k (by simp;omega)⟩⟩
theorem Wm(w:World)(s:Nat)(u k n er:Int)(h:∀wa,Below w.heap.size w wa->Calls Tryz.prog 79 #[ptr s,.int .i64 u] wa fun e w'=>e=.returned (.tuple #[.int .i64 n,.int .i64 er])/\Below wa.heap.size wa w')(hno:er≠0\/k<0\/n<=k):
  Calls Tryz.prog 80 #[ptr s,.int .i64 u,.int .i64 k] w fun e w'=>e=.returned (.tuple #[.agg Tg.toArray,.int .i64 9])/\Below w.heap.size w w':=by
 have HL:=Ab (h (w.alloc (.cells Tg.toArray 98)) ((Below.refl _ _).alloc (Nat.le_refl _) _));clear h;by_cases h1:er=0
 ·subst h1;by_cases h2:k<0
  ·clear hno;go_enter Tryz.func80,Tryz.ntmps80;go_wp2_with (go_at_call 79;refine(Aa HL).mono ?_;rintro e w1 ⟨rfl,hw1⟩;obtain⟨b1,b4⟩:=JN hw1;obtain⟨f0,f1,f2,f3,f4,f5,f6,fz,_⟩:=Gq b1 (Af.refl _ w1);have hl1:=lt_of_block b1;have HX:=Ab b1;have HB:=Ab b4;clear hw1 b4 b1)
   refine AL _ (Ig (Aa HX) (.int .i64 0) (.int .i64 0) (.int .i64 0) (.int .i64 0) (.int .i64 0) (.slice none 0 0) (.slice none 0 0)) ?_;rintro W ⟨g0,g1,g2,g3,g4,g5,g6,gz,gk⟩;have HK:=Ab gk;clear gk;go_wp2
   (try simp only[Exit.inBlock,Exit.then])
   refine bodyPost_ret (by simp[results,Tryz.results80,go_sem,g0,g1,g2,g3,g4,g5,g6];try rfl) rfl ?_;exact⟨rfl,FJ (Aa HB) (Aa HK)⟩
  ·have h3:n<=k:=by omega
   have h4:¬k<n:=by omega
   clear hno;go_enter Tryz.func80,Tryz.ntmps80;go_wp2_with (go_at_call 79;refine(Aa HL).mono ?_;rintro e w1 ⟨rfl,hw1⟩;obtain⟨b1,b4⟩:=JN hw1;obtain⟨f0,f1,f2,f3,f4,f5,f6,fz,_⟩:=Gq b1 (Af.refl _ w1);have hl1:=lt_of_block b1;have HX:=Ab b1;have HB:=Ab b4;clear hw1 b4 b1)
   refine AL _ (Ig (Aa HX) (.int .i64 0) (.int .i64 0) (.int .i64 0) (.int .i64 0) (.int .i64 0) (.slice none 0 0) (.slice none 0 0)) ?_;rintro W ⟨g0,g1,g2,g3,g4,g5,g6,gz,gk⟩;have HK:=Ab gk;clear gk;go_wp2
   (try simp only[Exit.inBlock,Exit.then])
   refine bodyPost_ret (by simp[results,Tryz.results80,go_sem,g0,g1,g2,g3,g4,g5,g6];try rfl) rfl ?_;exact⟨rfl,FJ (Aa HB) (Aa HK)⟩
 ·have e1:(er != 0)=true:=by simpa using h1
  clear hno;go_enter Tryz.func80,Tryz.ntmps80;go_wp2_with (go_at_call 79;refine(Aa HL).mono ?_;rintro e w1 ⟨rfl,hw1⟩;obtain⟨b1,b4⟩:=JN hw1;obtain⟨f0,f1,f2,f3,f4,f5,f6,fz,_⟩:=Gq b1 (Af.refl _ w1);have hl1:=lt_of_block b1;have HX:=Ab b1;have HB:=Ab b4;clear hw1 b4 b1)
  refine AL _ (Ig (Aa HX) (.int .i64 0) (.int .i64 0) (.int .i64 0) (.int .i64 0) (.int .i64 0) (.slice none 0 0) (.slice none 0 0)) ?_;rintro W ⟨g0,g1,g2,g3,g4,g5,g6,gz,gk⟩;have HK:=Ab gk;clear gk;go_wp2
  (try simp only[Exit.inBlock,Exit.then])
  refine bodyPost_ret (by simp[results,Tryz.results80,go_sem,g0,g1,g2,g3,g4,g5,g6];try rfl) rfl ?_;exact⟨rfl,FJ (Aa HB) (Aa HK)⟩
theorem Uq(w:World)(s g u lb dl dc k:Nat)(n:Int)(v0 v1 v2 v3 v4:Int)(xa ya:Option Addr)(xn xc yn yc:Nat)(P Q:Value->World->Prop)(hn:(k:Int)<n)(hk:k<dl)
  (d2:w.cell? ⟨g,u*3+2,none⟩=some (.slice (some ⟨lb,0,none⟩) dl dc)) (e0:w.cell? ⟨lb,k*7,none⟩=some (.int .i64 v0)) (e1:w.cell? ⟨lb,k*7+1,none⟩=some (.int .i64 v1)) (e2:w.cell? ⟨lb,k*7+2,none⟩=some (.int .i64 v2)) (e3:w.cell? ⟨lb,k*7+3,none⟩=some (.int .i64 v3)) (e4:w.cell? ⟨lb,k*7+4,none⟩=some (.int .i64 v4)) (e5:w.cell? ⟨lb,k*7+5,none⟩=some (.slice xa xn xc)) (e6:w.cell? ⟨lb,k*7+6,none⟩=some (.slice ya yn yc))
  (H79:∀wa,Below w.heap.size w wa->Calls Tryz.prog 79 #[ptr s,.int .i64 ((u:Int)+1)] wa fun e w'=>e=.returned (.tuple #[.int .i64 n,.int .i64 0])/\Below wa.heap.size wa w')
  (H132:∀wa,Below w.heap.size w wa->Calls Tryz.prog 132 #[ptr s,.int .i64 ((u:Int)+1)] wa fun e w'=>e=.returned (.pointer (some ⟨g,u*3,none⟩))/\w'=wa)
  (HA:∀wa,Below w.heap.size w wa->Calls Tryz.prog 74 #[.slice xa xn xc] wa fun e w'=>(∃ra rn rc,e=.returned (.slice ra rn rc)/\∀wb,Af (fun k=>w.heap.size<=k/\k<wa.heap.size) w' wb->P (.slice ra rn rc) wb)/\Below wa.heap.size wa w')
  (HB:∀wa,Below w.heap.size w wa->Calls Tryz.prog 74 #[.slice ya yn yc] wa fun e w'=>(∃ra rn rc,e=.returned (.slice ra rn rc)/\∀wb,Af (fun k=>w.heap.size<=k/\k<wa.heap.size) w' wb->Q (.slice ra rn rc) wb)/\Below wa.heap.size wa w'):
  Calls Tryz.prog 80 #[ptr s,.int .i64 ((u:Int)+1),.int .i64 (k:Int)] w fun e w'=>∃X Y,e=.returned (.tuple #[.agg #[.int .i64 v0,.int .i64 v1,.int .i64 v2,.int .i64 v3,.int .i64 v4,X,Y],.int .i64 0])/\P X w'/\Q Y w'/\Below w.heap.size w w':=by
 have HL:=Ab (H79 (w.alloc (.cells Tg.toArray 98)) ((Below.refl _ _).alloc (Nat.le_refl _) _));have HV:=Ab H132;have HA:=Ab HA;have HB:=Ab HB;have hlg:=lt_of_cell d2;have hll:=lt_of_cell e0;have q0:¬(k:Int)<0:=by omega
 have q1:¬n<=(k:Int):=by omega
 have q2:(0:Int)<=(k:Int):=by omega
 have q3:(k:Int)<(dl:Int):=by omega
 have HC:Hid (∀w1,Below w.heap.size w w1->w1.cell? ⟨g,u*3+2,none⟩=some (.slice (some ⟨lb,0,none⟩) dl dc)/\w1.cell? ⟨lb,k*7,none⟩=some (.int .i64 v0)/\w1.cell? ⟨lb,k*7+1,none⟩=some (.int .i64 v1)/\w1.cell? ⟨lb,k*7+2,none⟩=some (.int .i64 v2)/\w1.cell? ⟨lb,k*7+3,none⟩=some (.int .i64 v3)/\w1.cell? ⟨lb,k*7+4,none⟩=some (.int .i64 v4)/\w1.cell? ⟨lb,k*7+5,none⟩=some (.slice xa xn xc)/\w1.cell? ⟨lb,k*7+6,none⟩=some (.slice ya yn yc)):=fun w1 hb=>
  ⟨(hb.cell (p:=⟨g,_,none⟩) hlg).trans d2,(hb.cell (p:=⟨lb,_,none⟩) hll).trans e0,(hb.cell (p:=⟨lb,_,none⟩) hll).trans e1,(hb.cell (p:=⟨lb,_,none⟩) hll).trans e2,(hb.cell (p:=⟨lb,_,none⟩) hll).trans e3,(hb.cell (p:=⟨lb,_,none⟩) hll).trans e4,(hb.cell (p:=⟨lb,_,none⟩) hll).trans e5,(hb.cell (p:=⟨lb,_,none⟩) hll).trans e6⟩
 clear H79 H132 d2 e0 e1 e2 e3 e4 e5 e6;go_enter Tryz.func80,Tryz.ntmps80;go_wp2_with (first
  |(go_at_call 79;refine(Aa HL).mono ?_;rintro e w1 ⟨rfl,hw1⟩;obtain⟨b1,b4⟩:=JN hw1;have hl1:=lt_of_block b1;have HX:=Ab b1;have HBw:=Ab b4;have HV1:=Ab ((Aa HV) w1 b4);obtain⟨d2,e0,e1,e2,e3,e4,e5,e6⟩:=(Aa HC) w1 b4;clear hw1 b4 b1)
  |(go_at_call 132;refine(Aa HV1).mono ?_;rintro e w2 ⟨rfl,hw2⟩;rw[hw2];clear hw2))
 have hs0:w.heap.size<w1.heap.size:=hl1;have hbA:Below w.heap.size w (w1.alloc (.cells #[.int .i64 v0,.int .i64 v1,.int .i64 v2,.int .i64 v3,.int .i64 v4,.slice xa xn xc,.slice ya yn yc] 98)):=(Aa HBw).alloc (by omega) _;refine((Aa HA) _ hbA).mono ?_;rintro e w2 ⟨⟨ra,rn,rc,rfl,hP⟩,hb2⟩;have b2:w2.heap[w1.heap.size]?=some (.cells #[.int .i64 v0,.int .i64 v1,.int .i64 v2,.int .i64 v3,.int .i64 v4,.slice xa xn xc,.slice ya yn yc] 98 (0,0)):=(hb2.block _ (by simp)).trans (heap_alloc_new w1 _);have r2:=((hb2.block w.heap.size (by simp;omega)).trans (Below.heap_alloc _ _ _ hs0)).trans (Aa HX);obtain⟨f0,f1,f2,f3,f4,f5,f6,fz,_⟩:=Gq b2 (Af.refl _ w2);have hl2:=lt_of_block b2;have hbB:Below w.heap.size w (w2.setCell ⟨w1.heap.size,5,none⟩ (.slice ra rn rc)):=by
  have hk:Af (fun k=>k=w1.heap.size) w2 (w2.setCell ⟨w1.heap.size,5,none⟩ (.slice ra rn rc)):=Am _;have h1:Below w.heap.size w w2:=hbA.trans ⟨hb2.os,hb2.tape,hb2.output,hb2.size,fun k hk=>hb2.block k (by simp;omega)⟩;exact h1.trans ⟨hk.os,hk.tape,hk.output,hk.size,fun k hk'=>hk.block k (Nat.lt_of_lt_of_le hk' h1.size) (by omega)⟩
 have HP:=Ab hP;have HB2:=Ab b2;have HR2:=Ab r2;have HS2:=Ab hb2.size;have HCB:=Ab ((Aa HB) _ hbB);have HbB:=Ab hbB;clear hP b2 r2 hb2 hbB hbA HA HB HC HV HV1 HL HX d2 e0 e1 e2 e3 e4 e5 e6;go_wp2_with fail
 refine(Aa HCB).mono ?_;rintro e w3 ⟨⟨sa,sn,sc,rfl,hQ⟩,hb3⟩;have hne:w.heap.size≠w1.heap.size:=by omega
 have hs3:=hb3.size;simp only[World.size_setCell]at hs3;have b3:w3.heap[w1.heap.size]?=some (.cells #[.int .i64 v0,.int .i64 v1,.int .i64 v2,.int .i64 v3,.int .i64 v4,.slice ra rn rc,.slice ya yn yc] 98 (0,0)):=(hb3.block _ (by simp;omega)).trans (Ak (cs:=[.int .i64 v0,.int .i64 v1,.int .i64 v2,.int .i64 v3,.int .i64 v4,.slice xa xn xc,.slice ya yn yc]) (off:=5) (Aa HB2) _);have r3:=((hb3.block w.heap.size (by simp;omega)).trans (Below.heap_setCell _ _ _ _ hne)).trans (Aa HR2);have r4:=(Below.heap_setCell w3 ⟨w1.heap.size,6,none⟩ (.slice sa sn sc) w.heap.size hne).trans r3;clear f0 f1 f2 f3 f4 f5 f6 fz;obtain⟨f0,f1,f2,f3,f4,f5,f6,fz,_⟩:=Gq b3 (Af.refl _ w3);obtain⟨g0,g1,g2,g3,g4,g5,g6,gz,_⟩:=Gq r3 (Af.refl _ w3);have hl3:=lt_of_block b3;have hl3':=lt_of_block r3;have kbox:Af (fun k=>k=w1.heap.size) w3 (w3.setCell ⟨w1.heap.size,6,none⟩ (.slice sa sn sc)):=Am _;have HF:Hid (∀W,Af (fun k=>k=w.heap.size) (w3.setCell ⟨w1.heap.size,6,none⟩ (.slice sa sn sc)) W->P (.slice ra rn rc) W/\Q (.slice sa sn sc) W/\Below w.heap.size w W):=fun W hW=>by
  have k3:Af (fun k=>k=w.heap.size\/k=w1.heap.size) w3 W:=(kbox.mono (fun k _ e=>Or.inr e)).trans (hW.mono (fun k _ e=>Or.inl e));have hs2:=Aa HS2;simp only[World.size_alloc]at hs2;refine⟨(Aa HP) W ?_,hQ W (k3.mono (fun k _ e=>by simp only[World.size_setCell];omega)),?_⟩
  ·have ka:Af (fun k=>w.heap.size<=k/\k<(w1.alloc (.cells #[.int .i64 v0,.int .i64 v1,.int .i64 v2,.int .i64 v3,.int .i64 v4,.slice xa xn xc,.slice ya yn yc] 98)).heap.size) w2 (w2.setCell ⟨w1.heap.size,5,none⟩ (.slice ra rn rc)):=(Am _).mono (fun k _ e=>by simp only[World.size_alloc];have:k=w1.heap.size:=e;omega);exact(ka.trans (Af.Aj hb3 _)).trans (k3.mono (fun k _ e=>by simp only[World.size_alloc];omega))
  ·have h3:Below w.heap.size w w3:=(Aa HbB).trans ⟨hb3.os,hb3.tape,hb3.output,hb3.size,fun k hk=>hb3.block k (by simp;omega)⟩;exact h3.trans ⟨k3.os,k3.tape,k3.output,k3.size,fun k hk=>k3.block k (by omega) (by omega)⟩
 have HR4:=Ab r4;clear r4 b3 r3 hQ hb3 HCB HbB kbox HP HB2 HR2 HS2;go_wp2;refine AL _ (Ig (Aa HR4) (.int .i64 v0) (.int .i64 v1) (.int .i64 v2) (.int .i64 v3) (.int .i64 v4) (.slice ra rn rc) (.slice sa sn sc)) ?_;rintro W ⟨m0,m1,m2,m3,m4,m5,m6,mz,mk⟩;have HK:=Ab mk;clear mk;go_wp2
 (try simp only[Exit.inBlock,Exit.then])
 refine bodyPost_ret (by simp[results,Tryz.results80,go_sem,m0,m1,m2,m3,m4,m5,m6];try rfl) rfl ?_;obtain⟨z1,z2,z3⟩:=(Aa HF) W (Aa HK);exact⟨_,_,rfl,z1,z2,z3⟩
end Go.Proofs.YtblomippkddgiaaGreatDoor
