import Derived.Test.YtblomippkddgiaaGreatDoorJ42
import Derived.Test.YtblomippkddgiaaGreatDoorJ47
import Derived.Test.YtblomippkddgiaaGreatDoorJ36
import Derived.Test.YtblomippkddgiaaGreatDoorJ37
import Derived.Test.YtblomippkddgiaaGreatDoorJ39
import Derived.Test.YtblomippkddgiaaGreatDoorJ26
import Derived.Laws.StructEq
import Derived.Test.YtblomippkddgiaaGreatDoorJ33
import Derived.Test.YtblomippkddgiaaGreatDoorJ32
import Derived.Test.YtblomippkddgiaaGreatDoorJ43
import Derived.Test.YtblomippkddgiaaGreatDoorJ24
import Derived.Test.YtblomippkddgiaaGreatDoorJ21
import Derived.Test.YtblomippkddgiaaGreatDoorJ44
import Derived.Test.YtblomippkddgiaaGreatDoorJ41
import Derived.Test.YtblomippkddgiaaGreatDoorJ27
import Derived.Test.YtblomippkddgiaaGreatDoorJ38
import Derived.Test.YtblomippkddgiaaGreatDoorJ35
import Derived.Test.YtblomippkddgiaaGreatDoorJ22
import Derived.Test.YtblomippkddgiaaGreatDoorJ14
import Derived.Test.YtblomippkddgiaaGreatDoorJ20
set_option maxRecDepth 100000
set_option maxHeartbeats 4000000
namespace Go.Proofs.YtblomippkddgiaaGreatDoor
open Go.RowKit
open Go.RowKit Go.Maps
structure SvA(p:Pl)(F:aai)(G:R.Wd)(w:World)(M:R.Bk)(js:List R.Jb)(w1:World):Prop where
 lw:LW p F {G with jobs:=js} w1
 went:Went F F w w1
 inv:R.Inv M {G with jobs:=js}
 eq:R.serveP G=R.serveGo G js
structure SvB(p:Pl)(F:aai)(G:R.Wd)(w:World)(M:R.Bk)(j:R.Jb)(js:List R.Jb)(w1:World):Prop where
 lw:LW p F {G with jobs:=js} w1
 went:Went F F w w1
 inv:R.Inv M {G with jobs:=js}
 eq:R.serveP G=R.serveGo G (j :: js)
 jb:(0≤j.client∧j.client≤2)∧(0≤j.line∧j.line≤2)
 uid:∃d,M ⟨j.client,j.life,j.line,j.seq⟩=some d∧j.uid=d.uid
theorem ahn(j:R.Jb)(js:List R.Jb):(((j :: js).map jval).toArray).extract 1 (((j :: js).map jval).toArray).size=(js.map jval).toArray:=by
 apply Array.toList_inj.1
 rw[Array.toList_extract]
 simp[List.extract]
 exact List.take_of_length_le (by simp)
def alw(b:Nat)(w:World):Nat:=match w.heap[b]? with
 |some (.chan _ buf _ _ _ _)=>buf.size
 |_=>0
theorem SvB.below{p:Pl}{F:aai}{G:R.Wd}{w w1 w2:World}{M:R.Bk}{j:R.Jb}{js:List R.Jb}(h:SvB p F G w M j js w1)(hb:Below w1.heap.size w1 w2):SvB p F G w M j js w2:=⟨h.lw.below hb,h.went.trans (Went.ofBelow F hb),h.inv,h.eq,h.jb,h.uid⟩
theorem LW.serve{p:Pl}{F:aai}{G:R.Wd}{w:World}(h:LW p F G w)(ht:acG w)(hF0:¬F 0){M:R.Bk}(hI:R.Inv M G) :
  Calls Tryz.prog 48 #[ptr p.s] w fun e w'=>e=.returned (.int .i64 (R.serveP G).1)∧LWt p F w (R.serveP G).2 w':=by
 refine(aiM w p.s (SvA p F G w M) (SvB p F G w M) (fun j js w1=>SvB p F G w M j js w1∧R.waitsP G j) (fun w'=>(R.serveP G).1=19∧LWt p F w (R.serveP G).2 w') (fun w'=>(R.serveP G).1=0∧LWt p F w (R.serveP G).2 w') (alw p.t.jc) G.jobs ⟨h,Went.refl F w,hI,rfl⟩ ?_ ?_ ?_ ?_ ?_).mono ?_
 ·intro js w1 hA
  obtain⟨a,b,hj⟩:=hA.lw.srv.jobs
  unfold alw
  rw[hj]
  simp
 ·intro w1 hA
  obtain⟨a,b,hj⟩:=hA.lw.srv.jobs
  refine(afN w1 p.s p.t.jc _ a b (aaa hA.lw.srv.bs 19 _ rfl) hj).mono ?_
  rintro e w2 ⟨rfl,hb⟩
  refine⟨rfl,fun wa hba=>?_⟩
  rw[hA.eq]
  have hb2:Below w1.heap.size w1 wa:=hb.trans ⟨hba.os,hba.tape,hba.output,hba.size,fun k hk=>hba.block k (Nat.lt_of_lt_of_le hk hb.size)⟩
  exact⟨rfl,p.t,F,hA.lw.below hb2,hA.went.trans (Went.ofBelow F hb2)⟩
 ·intro j js w1 hA
  obtain⟨a,b,hj⟩:=hA.lw.srv.jobs
  refine(afM w1 p.s p.t.jc _ a b _ j.client j.life j.line j.seq j.uid (aaa hA.lw.srv.bs 19 _ rfl) hj (by simp) (by simp[jval])).mono ?_
  rintro e w2 ⟨rfl,hj2,hk⟩
  refine⟨rfl,fun wa hba=>?_⟩
  have hmem:∀x∈js,x∈j :: js:=fun x hx=>List.mem_cons_of_mem _ hx
  have hI2:R.Inv M {G with jobs:=js}:=hA.inv.putJob (js:=js) (by
   have:=hA.inv.ws.jl
   simp at this
   show (js.length:Int)≤G.c.table
   omega) (fun x hx=>⟨hA.inv.ws.jb x (hmem x hx),hA.inv.jb x (hmem x hx)⟩)
  obtain⟨l2,w2'⟩:=hA.lw.jobsTurn (js:=js) hk ⟨a,b+1,by rw[hj2,ahn]⟩ hI2.ws
  have hB:SvB p F G w M j js w2:=⟨l2,hA.went.trans w2',hI2,hA.eq,hA.inv.ws.jb j (List.mem_cons_self),hA.inv.jb j (List.mem_cons_self)⟩
  exact hB.below hba
 ·intro j js w1 hB
  obtain⟨ci,hci⟩:∃ci:Nat,j.client=(ci:Int):=⟨j.client.toNat,by have:=hB.jb;omega⟩
  obtain⟨ni,hni⟩:∃ni:Nat,j.line=(ni:Int):=⟨j.line.toNat,by have:=hB.jb;omega⟩
  have h3:ci<3:=by have:=hB.jb;omega
  have h3':ni<3:=by have:=hB.jb;omega
  have e10:10+ci*3+ni=10+(3*ci+ni):=by omega
  have c10:w1.cell? ⟨p.s,10+ci*3+ni,none⟩=some (aaE p.t G.seen (3*ci+ni)):=by
   rw[e10]
   exact aah hB.lw.srv.bs (acK p.t G.seen p.n p.nm G.c G.lives (i:=3*ci+ni) (by omega))
  have hi9:3*ci+ni<9:=by omega
  have hsn:=hB.inv.seen_at hi9
  have hse:R.seenP {G with jobs:=js} (3*ci+ni)=R.seenP G (3*ci+ni):=rfl
  rw[hse]at hsn
  have hix:3*j.client.toNat+j.line.toNat=3*ci+ni:=by rw[hci,hni];simp
  have hwait:R.waitsP G j↔(R.seenP G (3*ci+ni)).state=2∧(R.seenP G (3*ci+ni)).seq=j.seq∧G.lives.getD ci 0=j.life:=by
   unfold R.waitsP
   rw[hix,hci]
   simp
  rw[hci,hni]
  generalize R.seenP G (3*ci+ni)=r at hsn hwait
  have hno:¬R.waitsP G j→R.serveP G=R.serveGo G js:=fun hn=>by
   rw[hB.eq]
   simp only[R.serveGo]
   rw[if_neg hn]
  by_cases h0:r.seq=0
  ·have hz:=(hB.inv.ws.sn _ r hsn).zero h0
   have hc:aaE p.t G.seen (3*ci+ni)=.pointer none:=by
    unfold aaE
    rw[show G.seen[3*ci+ni]?=some r from hsn]
    simp[h0]
   rw[hc]at c10
   have hn:¬R.waitsP G j:=fun q=>by
    have:=(hwait.1 q).1
    rw[hz]at this
    cases this
   refine(ajO w1 p.s ci ni j.life j.seq j.uid h3 h3' c10).mono ?_
   rintro e w2 ⟨rfl,hb⟩
   have hB2:=hB.below hb
   exact⟨hb,Or.inl ⟨rfl,hB2.lw,hB2.went,hB2.inv,hno hn⟩⟩
  ·have hc:aaE p.t G.seen (3*ci+ni)=ptr (p.t.ql (3*ci+ni)):=by
    unfold aaE
    rw[show G.seen[3*ci+ni]?=some r from hsn]
    simp[h0]
   rw[hc]at c10
   obtain⟨y,hq,_⟩:=hB.lw.q (i:=3*ci+ni) (r:=r) hsn h0
   have hY:=yAt hq.blk
   have hrl:=hq.rel
   have hdiv:(3*ci+ni) / 3=ci:=by omega
   have hmod:(3*ci+ni) % 3=ni:=by omega
   have d0:=hY.a0
   have d2:=hY.a2
   rw[hrl.client,hdiv]at d0
   rw[hrl.line,hmod]at d2
   refine(ait w1 p.s (p.t.ql (3*ci+ni)) ci ni j.life j.seq j.uid y.life y.seq y.uid y.state h3 h3' c10 d0 hY.a1 d2 hY.a3 hY.a4 hY.a5).mono ?_
   rintro e w2 ⟨rfl,hb⟩
   have hB2:=hB.below hb
   refine⟨hb,?_⟩
   have hiff:(y.life=j.life∧y.seq=j.seq∧y.uid=j.uid∧y.state=1)↔R.waitsP G j:=by
    rw[hwait,hrl.life,hrl.seq,hrl.uid,hrl.state,hdiv]
    constructor
    ·rintro ⟨q1,q2,q3,q4⟩
     exact⟨by omega,q2,q1⟩
    ·rintro ⟨q1,q2,q3⟩
     refine⟨q3,q2,?_,by omega⟩
     obtain⟨d,hd⟩:=hB.inv.sn _ r hsn h0
     obtain⟨d',hd',hu⟩:=hB.uid
     have:=hd.made
     rw[hdiv,hmod]at this
     rw[hci,hni,←q2,←q3]at hd'
     have e:some d=some d':=this.symm.trans hd'
     cases e
     rw[hd.uid,hu]
   by_cases hw:R.waitsP G j
   ·right
    exact⟨by rw[decide_eq_true (hiff.2 hw)],hB2,hw⟩
   ·left
    exact⟨by rw[decide_eq_false (fun q=>hw (hiff.1 q))],hB2.lw,hB2.went,hB2.inv,hno hw⟩
 ·rintro j js w1 ⟨hB,hw⟩
  obtain⟨ci,hci⟩:∃ci:Nat,j.client=(ci:Int):=⟨j.client.toNat,by have:=hB.jb;omega⟩
  obtain⟨ni,hni⟩:∃ni:Nat,j.line=(ni:Int):=⟨j.line.toNat,by have:=hB.jb;omega⟩
  have h3:ci<3:=by have:=hB.jb;omega
  have h3':ni<3:=by have:=hB.jb;omega
  have e10:10+ci*3+ni=10+(3*ci+ni):=by omega
  have hix:3*j.client.toNat+j.line.toNat=3*ci+ni:=by rw[hci,hni];simp
  have hi9:3*ci+ni<9:=by omega
  have h2:(R.seenP {G with jobs:=js} (3*ci+ni)).state=2:=by
   have:=hw.1
   rw[hix]at this
   exact this
  have hsn:=hB.inv.seen_at hi9
  have h0:(R.seenP {G with jobs:=js} (3*ci+ni)).seq≠0:=fun e=>by
   rw[(hB.inv.ws.sn _ _ hsn).zero e]at h2
   cases h2
  have c10:w1.cell? ⟨p.s,10+ci*3+ni,none⟩=some (ptr (p.t.ql (3*ci+ni))):=by
   rw[e10]
   have:=aah hB.lw.srv.bs (acK p.t G.seen p.n p.nm G.c G.lives (i:=3*ci+ni) (by omega))
   rw[this]
   unfold aaE
   rw[show G.seen[3*ci+ni]?=some _ from hsn]
   simp only[Option.getD_some]
   rw[if_neg h0]
  refine⟨ci,ni,_,hci,hni,h3,h3',c10,?_⟩
  have hbd:Below w1.heap.size w1 w1.drew:=⟨rfl,rfl,rfl,Nat.le_refl _,fun _ _=>rfl⟩
  have hB2:=hB.below hbd
  refine(hB2.lw.done (ht.keeps hB2.went.keeps hF0) hF0 hB2.inv hi9 h2).mono ?_
  rintro e w2 ⟨rfl,t,F',hL,hW⟩
  have heq:R.serveP G=(0,R.doneP {G with jobs:=js} (3*ci+ni)):=by
   rw[hB.eq]
   simp only[R.serveGo]
   rw[if_pos hw,hix]
  rw[heq]
  exact⟨rfl,rfl,t,F',hL,hB2.went.trans hW⟩
 ·rintro e w' (⟨rfl,h1,h2⟩|⟨rfl,h1,h2⟩)
  ·exact⟨by rw[h1],h2⟩
  ·exact⟨by rw[h1],h2⟩
theorem LW.serves{p:Pl}{F:aai}{G:R.Wd}{w:World}(h:LW p F G w)(ht:acG w)(hF0:¬F 0){M:R.Bk}(hI:R.Inv M G) :
  Calls Tryz.prog 22 #[ptr p.x] w fun e w'=>e=.returned (.int .i64 (R.serveP G).1)∧LWt p F w (R.serveP G).2 w':=by
 have x1:w.cell? ⟨p.x,1,none⟩=some (ptr p.s):=aaa h.bx 1 _ rfl
 have HS:=aab (h.serve ht hF0 hI)
 generalize R.serveP G=Z at *
 clear h ht hI
 go_enter Tryz.func22,Tryz.ntmps22
 go_wp2_with (go_at_call 48;refine(unhide HS).mono ?_;rintro e w' ⟨rfl,hw⟩;have HW:=aab hw;clear hw)
 go_returns
 exact⟨rfl,unhide HW⟩
theorem aeU(w:World)(s m:Nat)(a:Option Addr)(cap:Nat)(u:Int)(h6:w.cell? ⟨s,6,none⟩=some (.slice a m cap)):Calls Tryz.prog 131 #[ptr s,.int .i64 u] w fun e w'=>e=.returned (.bool (decide (1≤u∧u≤(m:Int))))∧Below w.heap.size w w':=by
 refine(adH w s m a cap u h6).mono ?_
 rintro e w' ⟨rfl,rfl⟩
 exact⟨rfl,Below.refl _ _⟩
theorem apX(w:World)(s m:Nat)(a:Option Addr)(cap:Nat)(u:Int)(h6:w.cell? ⟨s,6,none⟩=some (.slice a m cap))(hu:¬(1≤u∧u≤(m:Int))) :
  Calls Tryz.prog 79 #[ptr s,.int .i64 u] w fun e w'=>e=.returned (.tuple #[.int .i64 0,.int .i64 9])∧Below w.heap.size w w':=by
 have H:=aeU w s m a cap u h6
 rw[decide_eq_false hu]at H
 have HM:=aab H
 clear H hu
 go_enter Tryz.func79,Tryz.ntmps79
 go_wp2_with (go_at_call 131;refine(unhide HM).mono ?_;rintro e w1 ⟨rfl,hw1⟩;have HB:=aab hw1;clear hw1)
 go_returns
 exact⟨rfl,unhide HB⟩
theorem aoG(w:World)(s g m cap u:Nat)(da:Option Addr)(dl dc:Nat)(h6:w.cell? ⟨s,6,none⟩=some (.slice (some ⟨g,0,none⟩) m cap))(hu:u<m)(hm:m≤255)(h2:w.cell? ⟨g,u*3+2,none⟩=some (.slice da dl dc)) :
  Calls Tryz.prog 79 #[ptr s,.int .i64 ((u:Int)+1)] w fun e w'=>e=.returned (.tuple #[.int .i64 (dl:Int),.int .i64 0])∧Below w.heap.size w w':=by
 have H:=aeU w s m (some ⟨g,0,none⟩) cap ((u:Int)+1) h6
 rw[decide_eq_true (by omega)]at H
 have HM:=aab H
 have hls:=lt_of_cell h6
 have hlg:=lt_of_cell h2
 have HV:Hid (∀w1,Below w.heap.size w w1→w1.cell? ⟨g,u*3+2,none⟩=some (.slice da dl dc)∧Calls Tryz.prog 132 #[ptr s,.int .i64 ((u:Int)+1)] w1 fun e w'=>e=.returned (.pointer (some ⟨g,u*3,none⟩))∧w'=w1):=fun w1 hb=>⟨(hb.cell (p:=⟨g,u*3+2,none⟩) hlg).trans h2,abz w1 s g u m cap ((hb.cell (p:=⟨s,6,none⟩) hls).trans h6) hu hm⟩
 clear H
 go_enter Tryz.func79,Tryz.ntmps79
 go_wp2_with (first
  |(go_at_call 131;refine(unhide HM).mono ?_;rintro e w1 ⟨rfl,hw1⟩;obtain⟨d2,hv⟩:=(unhide HV) w1 hw1;have HB:=aab hw1;have HV1:=aab hv;clear hw1 hv)
  |(go_at_call 132;refine(unhide HV1).mono ?_;rintro e w2 ⟨rfl,hw2⟩;rw[hw2];clear hw2))
 go_returns
 exact⟨rfl,unhide HB⟩
theorem LW.slog{p:Pl}{F:aai}{G:R.Wd}{w:World}(h:LW p F G w)(u:Int) :
  Calls Tryz.prog 79 #[ptr p.s,.int .i64 u] w fun e w'=>e=.returned (.tuple #[.int .i64 (R.logP G u).1,.int .i64 (R.logP G u).2])∧Below w.heap.size w w':=by
 have hzl:p.t.zs.length=G.services.length:=by rw[←h.srv.zs,List.length_map]
 have h255:=h.wf.sv
 unfold R.logP
 by_cases hm:R.madeP G u
 ·rw[if_pos hm]
  unfold R.madeP at hm
  obtain⟨n,rfl⟩:∃n:Nat,u=(n:Int)+1:=⟨(u-1).toNat,by omega⟩
  have hn:n<G.services.length:=by omega
  have hs:G.services[n]?=some G.services[n]:=List.getElem?_eq_getElem hn
  obtain⟨z,hz,hz1⟩:=afE h.srv.zs hs
  obtain⟨g,cap,cur,hK,hg,hFg,k0,k1,k2,_⟩:=h.srv.madeAt hz
  obtain⟨es,he,hrow,_⟩:=(h.srv.each z (List.mem_of_getElem? hz)).log
  obtain⟨da,dc,hdn⟩:=aas hrow
  rw[hdn]at k2
  have h6:w.cell? ⟨p.s,6,none⟩=some (.slice (some ⟨g,0,none⟩) p.t.zs.length cap):=by
   have:=aaa h.srv.bs 6 p.t.K rfl
   rw[hK]at this
   exact this
  have hl:(R.logOf G ((n:Int)+1)).length=es.length:=by
   unfold R.logOf
   rw[show ((n:Int)+1-1).toNat=n by omega,hs,←hz1]
   simp only[Option.map_some,Option.getD_some]
   rw[←he,List.length_map]
  rw[hl]
  exact aoG w p.s g p.t.zs.length cap n da es.length dc h6 (by omega) (by omega) k2
 ·rw[if_neg hm]
  unfold R.madeP at hm
  obtain⟨a,c,hK⟩:=aas h.srv.made
  have h6:w.cell? ⟨p.s,6,none⟩=some (.slice a p.t.zs.length c):=by
   have:=aaa h.srv.bs 6 p.t.K rfl
   rw[hK]at this
   exact this
  exact apX w p.s p.t.zs.length a c u h6 (by rw[hzl];exact hm)
theorem LW.log{p:Pl}{F:aai}{G:R.Wd}{w:World}(h:LW p F G w)(u:Int) :
  Calls Tryz.prog 44 #[ptr p.x,.int .i64 u] w fun e w'=>e=.returned (.tuple #[.int .i64 (R.logP G u).1,.int .i64 (R.logP G u).2])∧Below w.heap.size w w':=by
 have x1:w.cell? ⟨p.x,1,none⟩=some (ptr p.s):=aaa h.bx 1 _ rfl
 have HS:=aab (h.slog u)
 generalize R.logP G u=Z at *
 clear h
 go_enter Tryz.func44,Tryz.ntmps44
 go_wp2_with (go_at_call 79;refine(unhide HS).mono ?_;rintro e w' ⟨rfl,hw⟩;have HW:=aab hw;clear hw)
 go_returns
 exact⟨rfl,unhide HW⟩
def enC:List Value:=[.int .i64 0,.int .i64 0,.int .i64 0,.int .i64 0,.int .i64 0,.slice none 0 0,.slice none 0 0]
abbrev aqw(w:World)(b:Nat)(v0 v1 v2 v3 v4 v5 v6:Value):World:=((((((w.setCell ⟨b,0,none⟩ v0).setCell ⟨b,1,none⟩ v1).setCell ⟨b,2,none⟩ v2).setCell ⟨b,3,none⟩ v3).setCell ⟨b,4,none⟩ v4).setCell ⟨b,5,none⟩ v5).setCell ⟨b,6,none⟩ v6
structure En7(w0:World)(b:Nat)(v0 v1 v2 v3 v4 v5 v6:Value)(W:World):Prop where
 c0:W.cell? ⟨b,0,none⟩=some v0
 c1:W.cell? ⟨b,1,none⟩=some v1
 c2:W.cell? ⟨b,2,none⟩=some v2
 c3:W.cell? ⟨b,3,none⟩=some v3
 c4:W.cell? ⟨b,4,none⟩=some v4
 c5:W.cell? ⟨b,5,none⟩=some v5
 c6:W.cell? ⟨b,6,none⟩=some v6
 z:∀j,W.frozen? ⟨b,j,none⟩=false
 keep:Keeps (fun k=>k=b) w0 W
theorem acV{w0 W:World}{b:Nat}{v0 v1 v2 v3 v4 v5 v6:Value}(h:W.heap[b]?=some (.cells #[v0,v1,v2,v3,v4,v5,v6] 98 (0,0)))(hk:Keeps (fun k=>k=b) w0 W):En7 w0 b v0 v1 v2 v3 v4 v5 v6 W:=
 ⟨aaa h 0 _ rfl,aaa h 1 _ rfl,aaa h 2 _ rfl,aaa h 3 _ rfl,aaa h 4 _ rfl,aaa h 5 _ rfl,aaa h 6 _ rfl,fun _=>aac h,hk⟩
theorem amn{w:World}{b:Nat}{u0 u1 u2 u3 u4 u5 u6:Value}(h:w.heap[b]?=some (.cells #[u0,u1,u2,u3,u4,u5,u6] 98 (0,0)))(v0 v1 v2 v3 v4 v5 v6:Value):(aqw w b v0 v1 v2 v3 v4 v5 v6).heap[b]?=some (.cells #[v0,v1,v2,v3,v4,v5,v6] 98 (0,0)):=by
 have e0:=aad (cs:=[u0,u1,u2,u3,u4,u5,u6]) (off:=0) h v0
 have e1:=aad (off:=1) e0 v1
 have e2:=aad (off:=2) e1 v2
 have e3:=aad (off:=3) e2 v3
 have e4:=aad (off:=4) e3 v4
 have e5:=aad (off:=5) e4 v5
 exact aad (off:=6) e5 v6
theorem aj9(w:World)(b:Nat)(v0 v1 v2 v3 v4 v5 v6:Value):Keeps (fun k=>k=b) w (aqw w b v0 v1 v2 v3 v4 v5 v6):=((((((keeps_one _).trans (keeps_one _)).trans (keeps_one _)).trans (keeps_one _)).trans (keeps_one _)).trans (keeps_one _)).trans (keeps_one _)
theorem adb{w:World}{b:Nat}{u0 u1 u2 u3 u4 u5 u6:Value}(h:w.heap[b]?=some (.cells #[u0,u1,u2,u3,u4,u5,u6] 98 (0,0)))(v0 v1 v2 v3 v4 v5 v6:Value):En7 w b v0 v1 v2 v3 v4 v5 v6 (aqw w b v0 v1 v2 v3 v4 v5 v6):=acV (amn h v0 v1 v2 v3 v4 v5 v6) (aj9 w b v0 v1 v2 v3 v4 v5 v6)
theorem ab7{w w1 W:World}(hb:Below w.heap.size w w1)(hk:Keeps (fun k=>k=w.heap.size) w1 W):Below w.heap.size w W:=hb.trans ⟨hk.os,hk.tape,hk.output,hk.size,fun k hk'=>hk.block k (Nat.lt_of_lt_of_le hk' hb.size) (by omega)⟩
theorem ae2{w w1:World}(hb:Below (w.alloc (.cells enC.toArray 98)).heap.size (w.alloc (.cells enC.toArray 98)) w1):w1.heap[w.heap.size]?=some (.cells #[.int .i64 0,.int .i64 0,.int .i64 0,.int .i64 0,.int .i64 0,.slice none 0 0,.slice none 0 0] 98 (0,0))∧Below w.heap.size w w1:=
 ⟨(hb.block _ (by simp)).trans (heap_alloc_new w _),((Below.refl _ _).alloc (Nat.le_refl _) _).trans ⟨hb.os,hb.tape,hb.output,hb.size,fun k hk=>hb.block k (by simp;omega)⟩⟩
theorem ant(w:World)(s:Nat)(u k n er:Int)(h:∀wa,Below w.heap.size w wa→Calls Tryz.prog 79 #[ptr s,.int .i64 u] wa fun e w'=>e=.returned (.tuple #[.int .i64 n,.int .i64 er])∧Below wa.heap.size wa w')(hno:er≠0∨k<0∨n≤k) :
  Calls Tryz.prog 80 #[ptr s,.int .i64 u,.int .i64 k] w fun e w'=>e=.returned (.tuple #[.agg enC.toArray,.int .i64 9])∧Below w.heap.size w w':=by
 have HL:=aab (h (w.alloc (.cells enC.toArray 98)) ((Below.refl _ _).alloc (Nat.le_refl _) _))
 clear h
 by_cases h1:er=0
 ·subst h1
  by_cases h2:k<0
  ·clear hno
   go_enter Tryz.func80,Tryz.ntmps80
   go_wp2_with (go_at_call 79;refine(unhide HL).mono ?_;rintro e w1 ⟨rfl,hw1⟩;obtain⟨b1,b4⟩:=ae2 hw1;obtain⟨f0,f1,f2,f3,f4,f5,f6,fz,_⟩:=acV b1 (Keeps.refl _ w1);have hl1:=lt_of_block b1;have HX:=aab b1;have HB:=aab b4;clear hw1 b4 b1)
   refine aag _ (adb (unhide HX) (.int .i64 0) (.int .i64 0) (.int .i64 0) (.int .i64 0) (.int .i64 0) (.slice none 0 0) (.slice none 0 0)) ?_
   rintro W ⟨g0,g1,g2,g3,g4,g5,g6,gz,gk⟩
   have HK:=aab gk
   clear gk
   go_wp2
   (try simp only[Exit.inBlock,Exit.then])
   refine bodyPost_ret (by simp[results,Tryz.results80,go_sem,g0,g1,g2,g3,g4,g5,g6];try rfl) rfl ?_
   exact⟨rfl,ab7 (unhide HB) (unhide HK)⟩
  ·have h3:n≤k:=by omega
   have h4:¬k<n:=by omega
   clear hno
   go_enter Tryz.func80,Tryz.ntmps80
   go_wp2_with (go_at_call 79;refine(unhide HL).mono ?_;rintro e w1 ⟨rfl,hw1⟩;obtain⟨b1,b4⟩:=ae2 hw1;obtain⟨f0,f1,f2,f3,f4,f5,f6,fz,_⟩:=acV b1 (Keeps.refl _ w1);have hl1:=lt_of_block b1;have HX:=aab b1;have HB:=aab b4;clear hw1 b4 b1)
   refine aag _ (adb (unhide HX) (.int .i64 0) (.int .i64 0) (.int .i64 0) (.int .i64 0) (.int .i64 0) (.slice none 0 0) (.slice none 0 0)) ?_
   rintro W ⟨g0,g1,g2,g3,g4,g5,g6,gz,gk⟩
   have HK:=aab gk
   clear gk
   go_wp2
   (try simp only[Exit.inBlock,Exit.then])
   refine bodyPost_ret (by simp[results,Tryz.results80,go_sem,g0,g1,g2,g3,g4,g5,g6];try rfl) rfl ?_
   exact⟨rfl,ab7 (unhide HB) (unhide HK)⟩
 ·have e1:(er != 0)=true:=by simpa using h1
  clear hno
  go_enter Tryz.func80,Tryz.ntmps80
  go_wp2_with (go_at_call 79;refine(unhide HL).mono ?_;rintro e w1 ⟨rfl,hw1⟩;obtain⟨b1,b4⟩:=ae2 hw1;obtain⟨f0,f1,f2,f3,f4,f5,f6,fz,_⟩:=acV b1 (Keeps.refl _ w1);have hl1:=lt_of_block b1;have HX:=aab b1;have HB:=aab b4;clear hw1 b4 b1)
  refine aag _ (adb (unhide HX) (.int .i64 0) (.int .i64 0) (.int .i64 0) (.int .i64 0) (.int .i64 0) (.slice none 0 0) (.slice none 0 0)) ?_
  rintro W ⟨g0,g1,g2,g3,g4,g5,g6,gz,gk⟩
  have HK:=aab gk
  clear gk
  go_wp2
  (try simp only[Exit.inBlock,Exit.then])
  refine bodyPost_ret (by simp[results,Tryz.results80,go_sem,g0,g1,g2,g3,g4,g5,g6];try rfl) rfl ?_
  exact⟨rfl,ab7 (unhide HB) (unhide HK)⟩
theorem alf(w:World)(s g u lb dl dc k:Nat)(n:Int)(v0 v1 v2 v3 v4:Int)(xa ya:Option Addr)(xn xc yn yc:Nat)(P Q:Value→World→Prop)(hn:(k:Int)<n)(hk:k<dl)
  (d2:w.cell? ⟨g,u*3+2,none⟩=some (.slice (some ⟨lb,0,none⟩) dl dc)) (e0:w.cell? ⟨lb,k*7,none⟩=some (.int .i64 v0)) (e1:w.cell? ⟨lb,k*7+1,none⟩=some (.int .i64 v1)) (e2:w.cell? ⟨lb,k*7+2,none⟩=some (.int .i64 v2)) (e3:w.cell? ⟨lb,k*7+3,none⟩=some (.int .i64 v3)) (e4:w.cell? ⟨lb,k*7+4,none⟩=some (.int .i64 v4)) (e5:w.cell? ⟨lb,k*7+5,none⟩=some (.slice xa xn xc)) (e6:w.cell? ⟨lb,k*7+6,none⟩=some (.slice ya yn yc))
  (H79:∀wa,Below w.heap.size w wa→Calls Tryz.prog 79 #[ptr s,.int .i64 ((u:Int)+1)] wa fun e w'=>e=.returned (.tuple #[.int .i64 n,.int .i64 0])∧Below wa.heap.size wa w')
  (H132:∀wa,Below w.heap.size w wa→Calls Tryz.prog 132 #[ptr s,.int .i64 ((u:Int)+1)] wa fun e w'=>e=.returned (.pointer (some ⟨g,u*3,none⟩))∧w'=wa)
  (HA:∀wa,Below w.heap.size w wa→Calls Tryz.prog 74 #[.slice xa xn xc] wa fun e w'=>(∃ra rn rc,e=.returned (.slice ra rn rc)∧∀wb,Keeps (fun k=>w.heap.size≤k∧k<wa.heap.size) w' wb→P (.slice ra rn rc) wb)∧Below wa.heap.size wa w')
  (HB:∀wa,Below w.heap.size w wa→Calls Tryz.prog 74 #[.slice ya yn yc] wa fun e w'=>(∃ra rn rc,e=.returned (.slice ra rn rc)∧∀wb,Keeps (fun k=>w.heap.size≤k∧k<wa.heap.size) w' wb→Q (.slice ra rn rc) wb)∧Below wa.heap.size wa w') :
  Calls Tryz.prog 80 #[ptr s,.int .i64 ((u:Int)+1),.int .i64 (k:Int)] w fun e w'=>∃X Y,e=.returned (.tuple #[.agg #[.int .i64 v0,.int .i64 v1,.int .i64 v2,.int .i64 v3,.int .i64 v4,X,Y],.int .i64 0])∧P X w'∧Q Y w'∧Below w.heap.size w w':=by
 have HL:=aab (H79 (w.alloc (.cells enC.toArray 98)) ((Below.refl _ _).alloc (Nat.le_refl _) _))
 have HV:=aab H132
 have HA:=aab HA
 have HB:=aab HB
 have hlg:=lt_of_cell d2
 have hll:=lt_of_cell e0
 have q0:¬(k:Int)<0:=by omega
 have q1:¬n≤(k:Int):=by omega
 have q2:(0:Int)≤(k:Int):=by omega
 have q3:(k:Int)<(dl:Int):=by omega
 have HC:Hid (∀w1,Below w.heap.size w w1→w1.cell? ⟨g,u*3+2,none⟩=some (.slice (some ⟨lb,0,none⟩) dl dc)∧w1.cell? ⟨lb,k*7,none⟩=some (.int .i64 v0)∧w1.cell? ⟨lb,k*7+1,none⟩=some (.int .i64 v1)∧w1.cell? ⟨lb,k*7+2,none⟩=some (.int .i64 v2)∧w1.cell? ⟨lb,k*7+3,none⟩=some (.int .i64 v3)∧w1.cell? ⟨lb,k*7+4,none⟩=some (.int .i64 v4)∧w1.cell? ⟨lb,k*7+5,none⟩=some (.slice xa xn xc)∧w1.cell? ⟨lb,k*7+6,none⟩=some (.slice ya yn yc)):=fun w1 hb=>
  ⟨(hb.cell (p:=⟨g,_,none⟩) hlg).trans d2,(hb.cell (p:=⟨lb,_,none⟩) hll).trans e0,(hb.cell (p:=⟨lb,_,none⟩) hll).trans e1,(hb.cell (p:=⟨lb,_,none⟩) hll).trans e2,(hb.cell (p:=⟨lb,_,none⟩) hll).trans e3,(hb.cell (p:=⟨lb,_,none⟩) hll).trans e4,(hb.cell (p:=⟨lb,_,none⟩) hll).trans e5,(hb.cell (p:=⟨lb,_,none⟩) hll).trans e6⟩
 clear H79 H132 d2 e0 e1 e2 e3 e4 e5 e6
 go_enter Tryz.func80,Tryz.ntmps80
 go_wp2_with (first
  |(go_at_call 79;refine(unhide HL).mono ?_;rintro e w1 ⟨rfl,hw1⟩;obtain⟨b1,b4⟩:=ae2 hw1;have hl1:=lt_of_block b1;have HX:=aab b1;have HBw:=aab b4;have HV1:=aab ((unhide HV) w1 b4);obtain⟨d2,e0,e1,e2,e3,e4,e5,e6⟩:=(unhide HC) w1 b4;clear hw1 b4 b1)
  |(go_at_call 132;refine(unhide HV1).mono ?_;rintro e w2 ⟨rfl,hw2⟩;rw[hw2];clear hw2))
 have hs0:w.heap.size<w1.heap.size:=hl1
 have hbA:Below w.heap.size w (w1.alloc (.cells #[.int .i64 v0,.int .i64 v1,.int .i64 v2,.int .i64 v3,.int .i64 v4,.slice xa xn xc,.slice ya yn yc] 98)):=(unhide HBw).alloc (by omega) _
 refine((unhide HA) _ hbA).mono ?_
 rintro e w2 ⟨⟨ra,rn,rc,rfl,hP⟩,hb2⟩
 have b2:w2.heap[w1.heap.size]?=some (.cells #[.int .i64 v0,.int .i64 v1,.int .i64 v2,.int .i64 v3,.int .i64 v4,.slice xa xn xc,.slice ya yn yc] 98 (0,0)):=(hb2.block _ (by simp)).trans (heap_alloc_new w1 _)
 have r2:=((hb2.block w.heap.size (by simp;omega)).trans (Below.heap_alloc _ _ _ hs0)).trans (unhide HX)
 obtain⟨f0,f1,f2,f3,f4,f5,f6,fz,_⟩:=acV b2 (Keeps.refl _ w2)
 have hl2:=lt_of_block b2
 have hbB:Below w.heap.size w (w2.setCell ⟨w1.heap.size,5,none⟩ (.slice ra rn rc)):=by
  have hk:Keeps (fun k=>k=w1.heap.size) w2 (w2.setCell ⟨w1.heap.size,5,none⟩ (.slice ra rn rc)):=keeps_one _
  have h1:Below w.heap.size w w2:=hbA.trans ⟨hb2.os,hb2.tape,hb2.output,hb2.size,fun k hk=>hb2.block k (by simp;omega)⟩
  exact h1.trans ⟨hk.os,hk.tape,hk.output,hk.size,fun k hk'=>hk.block k (Nat.lt_of_lt_of_le hk' h1.size) (by omega)⟩
 have HP:=aab hP
 have HB2:=aab b2
 have HR2:=aab r2
 have HS2:=aab hb2.size
 have HCB:=aab ((unhide HB) _ hbB)
 have HbB:=aab hbB
 clear hP b2 r2 hb2 hbB hbA HA HB HC HV HV1 HL HX d2 e0 e1 e2 e3 e4 e5 e6
 go_wp2_with fail
 refine(unhide HCB).mono ?_
 rintro e w3 ⟨⟨sa,sn,sc,rfl,hQ⟩,hb3⟩
 have hne:w.heap.size≠w1.heap.size:=by omega
 have hs3:=hb3.size
 simp only[World.size_setCell]at hs3
 have b3:w3.heap[w1.heap.size]?=some (.cells #[.int .i64 v0,.int .i64 v1,.int .i64 v2,.int .i64 v3,.int .i64 v4,.slice ra rn rc,.slice ya yn yc] 98 (0,0)):=(hb3.block _ (by simp;omega)).trans (aad (cs:=[.int .i64 v0,.int .i64 v1,.int .i64 v2,.int .i64 v3,.int .i64 v4,.slice xa xn xc,.slice ya yn yc]) (off:=5) (unhide HB2) _)
 have r3:=((hb3.block w.heap.size (by simp;omega)).trans (Below.heap_setCell _ _ _ _ hne)).trans (unhide HR2)
 have r4:=(Below.heap_setCell w3 ⟨w1.heap.size,6,none⟩ (.slice sa sn sc) w.heap.size hne).trans r3
 clear f0 f1 f2 f3 f4 f5 f6 fz
 obtain⟨f0,f1,f2,f3,f4,f5,f6,fz,_⟩:=acV b3 (Keeps.refl _ w3)
 obtain⟨g0,g1,g2,g3,g4,g5,g6,gz,_⟩:=acV r3 (Keeps.refl _ w3)
 have hl3:=lt_of_block b3
 have hl3':=lt_of_block r3
 have kbox:Keeps (fun k=>k=w1.heap.size) w3 (w3.setCell ⟨w1.heap.size,6,none⟩ (.slice sa sn sc)):=keeps_one _
 have HF:Hid (∀W,Keeps (fun k=>k=w.heap.size) (w3.setCell ⟨w1.heap.size,6,none⟩ (.slice sa sn sc)) W→P (.slice ra rn rc) W∧Q (.slice sa sn sc) W∧Below w.heap.size w W):=fun W hW=>by
  have k3:Keeps (fun k=>k=w.heap.size∨k=w1.heap.size) w3 W:=(kbox.mono (fun k _ e=>Or.inr e)).trans (hW.mono (fun k _ e=>Or.inl e))
  have hs2:=unhide HS2
  simp only[World.size_alloc]at hs2
  refine⟨(unhide HP) W ?_,hQ W (k3.mono (fun k _ e=>by simp only[World.size_setCell];omega)),?_⟩
  ·have ka:Keeps (fun k=>w.heap.size≤k∧k<(w1.alloc (.cells #[.int .i64 v0,.int .i64 v1,.int .i64 v2,.int .i64 v3,.int .i64 v4,.slice xa xn xc,.slice ya yn yc] 98)).heap.size) w2 (w2.setCell ⟨w1.heap.size,5,none⟩ (.slice ra rn rc)):=(keeps_one _).mono (fun k _ e=>by simp only[World.size_alloc];have:k=w1.heap.size:=e;omega)
   exact(ka.trans (Keeps.ofBelow hb3 _)).trans (k3.mono (fun k _ e=>by simp only[World.size_alloc];omega))
  ·have h3:Below w.heap.size w w3:=(unhide HbB).trans ⟨hb3.os,hb3.tape,hb3.output,hb3.size,fun k hk=>hb3.block k (by simp;omega)⟩
   exact h3.trans ⟨k3.os,k3.tape,k3.output,k3.size,fun k hk=>k3.block k (by omega) (by omega)⟩
 have HR4:=aab r4
 clear r4 b3 r3 hQ hb3 HCB HbB kbox HP HB2 HR2 HS2
 go_wp2
 refine aag _ (adb (unhide HR4) (.int .i64 v0) (.int .i64 v1) (.int .i64 v2) (.int .i64 v3) (.int .i64 v4) (.slice ra rn rc) (.slice sa sn sc)) ?_
 rintro W ⟨m0,m1,m2,m3,m4,m5,m6,mz,mk⟩
 have HK:=aab mk
 clear mk
 go_wp2
 (try simp only[Exit.inBlock,Exit.then])
 refine bodyPost_ret (by simp[results,Tryz.results80,go_sem,m0,m1,m2,m3,m4,m5,m6];try rfl) rfl ?_
 obtain⟨z1,z2,z3⟩:=(unhide HF) W (unhide HK)
 exact⟨_,_,rfl,z1,z2,z3⟩
theorem akn{w:World}{A B n size:Nat}{e:TypeId}{v:Value}{xs:List Value}(h:w.ownsRow A e size v n xs)(hB:B≤A):w.ownsRow B e size v n xs:=by
 refine⟨h.1,?_⟩
 rcases h.2 with q|⟨g,cap,cur,q1,q2,q3⟩
 ·exact Or.inl q
 ·exact Or.inr ⟨g,cap,cur,q1,Nat.le_trans hB q2,q3⟩
theorem ae8:∀(ks:List Bool) (v:List V.It),ks.length=v.length→v.length≤(V.bytesOf ks v).length
 |[],[],_=>Nat.le_refl _
 |[],_ :: _,h=>by simp at h
 |_ :: _,[],h=>by simp at h
 |k :: ks,x :: v,h=>by
  have ih:=ae8 ks v (by simpa using h)
  have h2:1≤(V.enc8 k x).length:=by
   cases k
   ·exact Nat.le_of_ble_eq_true rfl
   ·simp[V.enc8,V.two8]
  simp only[V.bytesOf,List.length_append,List.length_cons]
  omega
theorem ali{g:Nat→Nat}{f p:Nat}{v:List V.It}{ks:List Bool}(he:V.eat g f p v=some (ks,[])):ks.length=v.length:=by
 obtain⟨h1,h4⟩:=V.eat_heads _ _ _ _ _ _ he
 have:=congrArg List.length h1
 rw[List.length_drop]at this
 simp at this
 omega
theorem acp{t:ByteArray}{v:List R.It}{bs:List UInt8}(h:R.bytesP t v=some bs):v.length≤70:=by
 obtain⟨hc,ks,he,h1,h2⟩:=V.mRes_parts (R.bytesP_some h)
 have:=ae8 ks v (ali he)
 omega
def alS(o:Option R.En)(w:World)(e:Ending)(w':World):Prop:=(match o with
 |none=>e=.returned (.tuple #[.agg enC.toArray,.int .i64 9])
 |some x=>∃X Y,e=.returned (.tuple #[.agg #[.int .i64 x.client,.int .i64 x.life,.int .i64 x.line,.int .i64 x.seq,.int .i64 x.proc,X,Y],.int .i64 0])∧V.Row w' w.heap.size X x.arg∧V.Row w' w.heap.size Y x.result)∧Below w.heap.size w w'
theorem agk{w:World}{F:aai}{xa:Option Addr}{xn xc:Nat}{v:List R.It}(hn:v.length≤1000)(h:∀wa,Below w.heap.size w wa→aa2 wa F (.slice xa xn xc) v) :
  ∀wa,Below w.heap.size w wa→Calls Tryz.prog 74 #[.slice xa xn xc] wa fun e w'=>(∃ra rn rc,e=.returned (.slice ra rn rc)∧∀wb,Keeps (fun k=>w.heap.size≤k∧k<wa.heap.size) w' wb→V.Row wb w.heap.size (.slice ra rn rc) v)∧Below wa.heap.size wa w':=by
 intro wa hb
 refine(aik (h wa hb) hn).mono ?_
 rintro e w' ⟨⟨O,rfl,hR,_⟩,hb'⟩
 obtain⟨ra,rn,rc,rfl⟩:=aae hR
 refine⟨⟨ra,rn,rc,rfl,fun wb hk=>?_⟩,hb'⟩
 have:=hk.row hR (fun j hj q=>by have:=(World.ownsRow.lt hR j hj).1;omega)
 exact akn this hb.size
theorem LW.sentry{p:Pl}{F:aai}{G:R.Wd}{w:World}(h:LW p F G w){M:R.Bk}(hI:R.Inv M G)(u k:Int) :
  Calls Tryz.prog 80 #[ptr p.s,.int .i64 u,.int .i64 k] w (alS (R.entryAtP G u k) w):=by
 have hL:∀wa,Below w.heap.size w wa→Calls Tryz.prog 79 #[ptr p.s,.int .i64 u] wa fun e w'=>e=.returned (.tuple #[.int .i64 (R.logP G u).1,.int .i64 (R.logP G u).2])∧Below wa.heap.size wa w':=fun wa hb=>(h.below hb).slog u
 have no:((R.logP G u).2≠0∨k<0∨(R.logP G u).1≤k)→R.entryAtP G u k=none→Calls Tryz.prog 80 #[ptr p.s,.int .i64 u,.int .i64 k] w (alS (R.entryAtP G u k) w):=fun h1 h2=>by
  rw[h2]
  exact ant w p.s u k _ _ hL h1
 have hzl:p.t.zs.length=G.services.length:=by rw[←h.srv.zs,List.length_map]
 have h255:=h.wf.sv
 by_cases hm:R.madeP G u
 ·by_cases hk:0≤k∧k<((R.logOf G u).length:Int)
  ·have hm':=hm
   unfold R.madeP at hm'
   obtain⟨n,rfl⟩:∃n:Nat,u=(n:Int)+1:=⟨(u-1).toNat,by omega⟩
   obtain⟨j,rfl⟩:∃j:Nat,k=(j:Int):=⟨k.toNat,by omega⟩
   have hn:n<G.services.length:=by omega
   have hs:G.services[n]?=some G.services[n]:=List.getElem?_eq_getElem hn
   obtain⟨z,hz,hz1⟩:=afE h.srv.zs hs
   obtain⟨g,cap,cur,hK,hg,hFg,k0,k1,k2,_⟩:=h.srv.madeAt hz
   obtain⟨es,he,hrow,hits⟩:=(h.srv.each z (List.mem_of_getElem? hz)).log
   have hlo:R.logOf G ((n:Int)+1)=es.map (·.1):=by
    unfold R.logOf
    rw[show ((n:Int)+1-1).toNat=n by omega,hs,←hz1,he]
    rfl
   rw[hlo,List.length_map]at hk
   have hjl:j<es.length:=by omega
   have hes:es[j]?=some es[j]:=List.getElem?_eq_getElem hjl
   have hmem:es[j]∈es:=List.getElem_mem hjl
   generalize es[j]=y at hes hmem
   have hen:R.entryAtP G ((n:Int)+1) (j:Int)=some y.1:=by
    unfold R.entryAtP
    rw[if_pos ⟨hm,by omega⟩,hlo]
    simp[hes]
   have hlp:R.logP G ((n:Int)+1)=((es.length:Int),0):=by
    unfold R.logP
    rw[if_pos hm,hlo,List.length_map]
   rw[hlp]at hL
   rw[hen]
   have hln:y.1∈G.services[n].log:=by
    rw[←hz1,←he]
    exact List.mem_map_of_mem hmem
   obtain⟨d,rb,d1,d2,d3,d4,d5,d6⟩:=((hI.lg n _ hs).each y.1 hln).some
   have f1:y.1.arg.length≤1000:=by
    rw[d4]
    have:=acp (hI.bk _ _ d1).1.bs
    omega
   have f2:y.1.result.length≤1000:=by
    have:=acp d5
    omega
   rcases hrow.2 with ⟨_,h0⟩|⟨lb,dc,lcur,hdn,_,hlb,hcap,_,_,htk⟩
   ·omega
   ·have q:∀c,c<7→lcur[j*7+c]?=(abX y)[c]?:=fun c hc=>by
     rw[←acz ajo es j c y hes hc,←htk,List.getElem?_take,if_pos (by omega)]
     simp
    have cl:∀c v,c<7→(abX y)[c]?=some v→w.cell? ⟨lb,j*7+c,none⟩=some v:=fun c v hc hv=>by
     simp[World.cell?,hlb,q c hc,hv]
    have cellIt:∀{X:Value} {l:List R.It},aa2 w F X l→∃xa xn xc,X=.slice xa xn xc:=fun hx=>by
     rcases hx with ⟨_,rfl⟩|⟨b,off,cap,cur,_,rfl,_⟩
     ·exact⟨_,_,_,rfl⟩
     ·exact⟨_,_,_,rfl⟩
    obtain⟨i1,i2⟩:=hits y hmem
    have e5:=cl 5 _ (by omega) rfl
    have e6:=cl 6 _ (by omega) rfl
    obtain⟨xa,xn,xc,hX⟩:=cellIt i1
    obtain⟨ya,yn,yc,hY⟩:=cellIt i2
    rw[hX]at i1 e5
    rw[hY]at i2 e6
    rw[hdn]at k2
    have keep:∀{X:Value} {l:List R.It},aa2 w F X l→∀wa,Below w.heap.size w wa→aa2 wa F X l:=fun hx wa hb=>hx.keep (Keeps.ofBelow hb (fun _=>False)) (fun _ _ _ _ q=>q) (fun _ q=>q)
    have h6:w.cell? ⟨p.s,6,none⟩=some (.slice (some ⟨g,0,none⟩) p.t.zs.length cap):=by
     have:=aaa h.srv.bs 6 p.t.K rfl
     rw[hK]at this
     exact this
    have hls:=lt_of_cell h6
    refine(alf w p.s g n lb es.length dc j (es.length:Int) y.1.client y.1.life y.1.line y.1.seq y.1.proc xa ya xn xc yn yc (fun X w'=>V.Row w' w.heap.size X y.1.arg) (fun X w'=>V.Row w' w.heap.size X y.1.result) (by omega) hjl k2 (cl 0 _ (by omega) rfl) (cl 1 _ (by omega) rfl) (cl 2 _ (by omega) rfl) (cl 3 _ (by omega) rfl) (cl 4 _ (by omega) rfl) e5 e6 hL (fun wa hb=>abz wa p.s g n p.t.zs.length cap ((hb.cell (p:=⟨p.s,6,none⟩) hls).trans h6) (by omega) (by omega)) (agk f1 (keep i1)) (agk f2 (keep i2))).mono ?_
    rintro e w' ⟨X,Y,rfl,r1,r2,r3⟩
    exact⟨⟨X,Y,rfl,r1,r2⟩,r3⟩
  ·refine no ?_ ?_
   ·right
    unfold R.logP
    rw[if_pos hm]
    simp only
    omega
   ·unfold R.entryAtP
    split
    ·rw[List.getElem?_eq_none_iff]
     omega
    ·rfl
 ·refine no ?_ ?_
  ·left
   unfold R.logP
   rw[if_neg hm]
   simp
  ·unfold R.entryAtP
   rw[if_neg (fun q=>hm q.1)]
theorem LW.entry{p:Pl}{F:aai}{G:R.Wd}{w:World}(h:LW p F G w){M:R.Bk}(hI:R.Inv M G)(u k:Int) :
  Calls Tryz.prog 45 #[ptr p.x,.int .i64 u,.int .i64 k] w (alS (R.entryAtP G u k) w):=by
 have x1:w.cell? ⟨p.x,1,none⟩=some (ptr p.s):=aaa h.bx 1 _ rfl
 have hlx:=lt_of_cell x1
 have HL:=aab ((h.below ((Below.refl _ _).alloc (Nat.le_refl _) (.cells enC.toArray 98))).sentry hI u k)
 generalize R.entryAtP G u k=Z at *
 clear h hI
 cases Z with
 |none=>
  have HL2:Hid (Calls Tryz.prog 80 #[ptr p.s,.int .i64 u,.int .i64 k] (w.alloc (.cells enC.toArray 98)) fun e w'=>e=.returned (.tuple #[.agg #[.int .i64 0,.int .i64 0,.int .i64 0,.int .i64 0,.int .i64 0,.slice none 0 0,.slice none 0 0],.int .i64 9])∧Below (w.alloc (.cells enC.toArray 98)).heap.size (w.alloc (.cells enC.toArray 98)) w'):=unhide HL
  clear HL
  go_enter Tryz.func45,Tryz.ntmps45
  go_wp2_with (go_at_call 80;refine(unhide HL2).mono ?_;rintro e w1 ⟨rfl,hw1⟩;obtain⟨b1,b4⟩:=ae2 hw1;obtain⟨f0,f1,f2,f3,f4,f5,f6,fz,_⟩:=acV b1 (Keeps.refl _ w1);have hl1:=lt_of_block b1;have HX:=aab b1;have HB:=aab b4;clear hw1 b4 b1)
  refine aag _ (adb (unhide HX) (.int .i64 0) (.int .i64 0) (.int .i64 0) (.int .i64 0) (.int .i64 0) (.slice none 0 0) (.slice none 0 0)) ?_
  rintro W ⟨g0,g1,g2,g3,g4,g5,g6,gz,gk⟩
  have HK:=aab gk
  clear gk
  go_wp2
  (try simp only[Exit.inBlock,Exit.then])
  refine bodyPost_ret (by simp[results,Tryz.results45,go_sem,g0,g1,g2,g3,g4,g5,g6];try rfl) rfl ?_
  exact⟨rfl,ab7 (unhide HB) (unhide HK)⟩
 |some x=>
  have HL2:Hid (Calls Tryz.prog 80 #[ptr p.s,.int .i64 u,.int .i64 k] (w.alloc (.cells enC.toArray 98)) fun e w'=>(∃xa xn xc ya yn yc,e=.returned (.tuple #[.agg #[.int .i64 x.client,.int .i64 x.life,.int .i64 x.line,.int .i64 x.seq,.int .i64 x.proc,.slice xa xn xc,.slice ya yn yc],.int .i64 0])∧V.Row w' (w.heap.size+1) (.slice xa xn xc) x.arg∧V.Row w' (w.heap.size+1) (.slice ya yn yc) x.result)∧Below (w.alloc (.cells enC.toArray 98)).heap.size (w.alloc (.cells enC.toArray 98)) w'):=by
   refine(unhide HL).mono ?_
   rintro e w' ⟨⟨X,Y,rfl,r1,r2⟩,hb⟩
   rw[show (w.alloc (.cells enC.toArray 98)).heap.size=w.heap.size+1 by simp]at r1 r2
   obtain⟨xa,xn,xc,rfl⟩:=aae r1
   obtain⟨ya,yn,yc,rfl⟩:=aae r2
   exact⟨⟨xa,xn,xc,ya,yn,yc,rfl,r1,r2⟩,hb⟩
  clear HL
  go_enter Tryz.func45,Tryz.ntmps45
  go_wp2_with (go_at_call 80;refine(unhide HL2).mono ?_;rintro e w1 ⟨⟨xa,xn,xc,ya,yn,yc,rfl,r1,r2⟩,hw1⟩;obtain⟨b1,b4⟩:=ae2 hw1;obtain⟨f0,f1,f2,f3,f4,f5,f6,fz,_⟩:=acV b1 (Keeps.refl _ w1);have hl1:=lt_of_block b1;have HX:=aab b1;have HB:=aab b4;have R1:=aab r1;have R2:=aab r2;clear hw1 b4 b1 r1 r2)
  refine aag _ (adb (unhide HX) (.int .i64 x.client) (.int .i64 x.life) (.int .i64 x.line) (.int .i64 x.seq) (.int .i64 x.proc) (.slice xa xn xc) (.slice ya yn yc)) ?_
  rintro W ⟨g0,g1,g2,g3,g4,g5,g6,gz,gk⟩
  have HK:=aab gk
  have HR:Hid (∀{O:Value} {v:List V.It},V.Row w1 (w.heap.size+1) O v→V.Row W w.heap.size O v):=fun {O v} hR=>akn ((unhide HK).row hR (fun j hj e=>by have:=(World.ownsRow.lt hR j hj).1;omega)) (by omega)
  clear gk
  go_wp2
  (try simp only[Exit.inBlock,Exit.then])
  refine bodyPost_ret (by simp[results,Tryz.results45,go_sem,g0,g1,g2,g3,g4,g5,g6];try rfl) rfl ?_
  exact⟨⟨_,_,rfl,(unhide HR) (unhide R1),(unhide HR) (unhide R2)⟩,ab7 (unhide HB) (unhide HK)⟩
theorem ahR(w:World)(a b:Option Addr)(c d:Nat):Calls Tryz.prog 46 #[.slice a 0 c,.slice b 0 d] w fun e w'=>e=.returned (.bool true)∧Below w.heap.size w w':=by
 go_enter Tryz.func46,Tryz.ntmps46
 go_wp2
 go_loopw [5] (fun iv wr=>iv=.int .i64 0∧Below w.heap.size w wr) (fun _ _=>0)
 case atStart=>exact⟨rfl,Below.refl _ _⟩
 case round=>
  obtain⟨rfl,hb⟩:=hrel
  have HB:=aab hb
  clear hb
  go_wp2
  go_returns
  exact⟨rfl,unhide HB⟩
theorem akh(w:World)(l:List V.It)(n ab ao ac bb bo bc:Nat)(hn:l.length=n)(hnl:n≤1000000)(hA:∀j x,l[j]?=some x→w.cell? ⟨ab,ao+j*2,none⟩=some (.int .i64 x.1)∧w.cell? ⟨ab,ao+j*2+1,none⟩=some (.string x.2))(hB:∀j x,l[j]?=some x→w.cell? ⟨bb,bo+j*2,none⟩=some (.int .i64 x.1)∧w.cell? ⟨bb,bo+j*2+1,none⟩=some (.string x.2)) :
  Calls Tryz.prog 46 #[.slice (some ⟨ab,ao,none⟩) n ac,.slice (some ⟨bb,bo,none⟩) n bc] w fun e w'=>e=.returned (.bool true)∧Below w.heap.size w w':=by
 have HA:Hid (∀j x wr,Below w.heap.size w wr→l[j]?=some x→(wr.cell? ⟨ab,ao+j*2,none⟩=some (.int .i64 x.1)∧wr.cell? ⟨ab,ao+j*2+1,none⟩=some (.string x.2))∧(wr.cell? ⟨bb,bo+j*2,none⟩=some (.int .i64 x.1)∧wr.cell? ⟨bb,bo+j*2+1,none⟩=some (.string x.2))):=fun j x wr hb hx=>
  ⟨⟨(hb.cell (p:=⟨ab,_,none⟩) (lt_of_cell (hA j x hx).1)).trans (hA j x hx).1,(hb.cell (p:=⟨ab,_,none⟩) (lt_of_cell (hA j x hx).1)).trans (hA j x hx).2⟩,(hb.cell (p:=⟨bb,_,none⟩) (lt_of_cell (hB j x hx).1)).trans (hB j x hx).1,(hb.cell (p:=⟨bb,_,none⟩) (lt_of_cell (hB j x hx).1)).trans (hB j x hx).2⟩
 clear hA hB
 have HN:=aab hn
 clear hn
 go_enter Tryz.func46,Tryz.ntmps46
 go_wp2
 go_loopw [5] (fun iv wr=>∃i:Nat,i≤n∧iv=.int .i64 i∧Below w.heap.size w wr) (fun iv _=>n-(intOf iv).toNat)
 case atStart=>exact⟨0,Nat.zero_le _,rfl,Below.refl _ _⟩
 case round=>
  obtain⟨i,hi,rfl,hb⟩:=hrel
  by_cases hlt:i<n
  ·have hx:l[i]?=some (l[i]'(by have:=unhide HN;omega)):=List.getElem?_eq_getElem _
   generalize l[i]'(by have:=unhide HN;omega)=x at hx
   obtain⟨x1,x2⟩:=x
   obtain⟨⟨a0,a1⟩,b0,b1⟩:=(unhide HA) i (x1,x2) wr hb hx
   simp only at a0 a1 b0 b1
   have q1:(0:Int)≤(i:Int):=by omega
   have q3:IntKind.i64.wrap ((i:Int)+1)=(i:Int)+1:=by rw[IntKind.wrap_i64];omega
   have q2:(i:Int)<(n:Int):=by omega
   have HB:=aab (fun k=>below_drewN hb k)
   have HI:=aab hi
   clear hb hx hi
   go_wp2_with fail
   go_quiet (fail)
   go_wp2
   go_roundw
   case rel=>exact⟨i+1,by omega,by go_num,(unhide HB) _⟩
   case measure=>simp[intOf];omega
  ·obtain rfl:i=n:=by omega
   have HB:=aab hb
   clear hb hi
   go_wp2
   go_returns
   exact⟨rfl,unhide HB⟩
theorem ahQ(w:World)(A B:Value)(l:List V.It)(hA:V.Items w A l)(hB:V.Items w B l)(hl:l.length≤1000):Calls Tryz.prog 46 #[A,B] w fun e w'=>e=.returned (.bool true)∧Below w.heap.size w w':=by
 obtain⟨a,c,rfl,_,hA⟩:=hA
 obtain⟨b,d,rfl,_,hB⟩:=hB
 rcases hA with rfl|⟨ab,ao,rfl,_,hA⟩
 ·exact ahR w a b c d
 ·rcases hB with rfl|⟨bb,bo,rfl,_,hB⟩
  ·exact ahR w _ b c d
  ·exact akh w l l.length ab ao c bb bo d rfl (by omega) hA hB
theorem ad0{w:World}{B:Nat}{X:Value}{v:List V.It}(h:V.Row w B X v):V.Items w X v:=by
 by_cases hv:v=[]
 ·subst hv
  obtain⟨a,c,rfl⟩:=aas h
  exact⟨a,c,rfl,Nat.zero_le _,Or.inl rfl⟩
 ·unfold V.Row at h
  rw[adI]at h
  exact(akZ h hv).items
theorem abN{sv:List R.Sv}{u i:Nat}(hu:u≤sv.length):upTo sv u i <+: allLog sv:=by
 unfold upTo
 by_cases h:u<sv.length
 ·rw[List.getElem?_eq_getElem h]
  simp only[Option.map_some,Option.getD_some]
  refine⟨sv[u].log.drop i++allLog (sv.drop (u+1)),?_⟩
  rw[List.append_assoc,←List.append_assoc _ (sv[u].log.drop i),List.take_append_drop]
  exact(agw h).symm
 ·rw[List.getElem?_eq_none (by omega),List.take_of_length_le (by omega)]
  simp
theorem aqb{sv:List R.Sv}{u i:Nat}{K:R.Key}(hu:u≤sv.length)(h1:cntKey K (allLog sv)=1):cntKey K (upTo sv u i)≤1:=by
 rw[←h1]
 exact List.Sublist.countP_le (abN hu).sublist
structure RunAt(w:World)(r x lf sq nl ns ci kk:Nat)(nu lf0 sqv:Int):Prop where
 r0:w.cell? ⟨r,0,none⟩=some (ptr x)
 r6:w.cell? ⟨r,6,none⟩=some (.slice (some ⟨lf,0,none⟩) nl nl)
 r7:w.cell? ⟨r,7,none⟩=some (.slice (some ⟨sq,0,none⟩) ns ns)
 r10:w.cell? ⟨r,10,none⟩=some (.int .i64 nu)
 l0:w.cell? ⟨lf,ci,none⟩=some (.int .i64 lf0)
 s0:w.cell? ⟨sq,kk,none⟩=some (.int .i64 sqv)
theorem RunAt.below{w w':World}{r x lf sq nl ns ci kk:Nat}{nu lf0 sqv:Int}(h:RunAt w r x lf sq nl ns ci kk nu lf0 sqv){B:Nat}(hB:w.heap.size≤B)(hb:Below B w w'):RunAt w' r x lf sq nl ns ci kk nu lf0 sqv:=
 ⟨(hb.cell (p:=⟨r,0,none⟩) (Nat.lt_of_lt_of_le (lt_of_cell h.r0) hB)).trans h.r0,(hb.cell (p:=⟨r,6,none⟩) (Nat.lt_of_lt_of_le (lt_of_cell h.r0) hB)).trans h.r6,(hb.cell (p:=⟨r,7,none⟩) (Nat.lt_of_lt_of_le (lt_of_cell h.r0) hB)).trans h.r7,(hb.cell (p:=⟨r,10,none⟩) (Nat.lt_of_lt_of_le (lt_of_cell h.r0) hB)).trans h.r10,(hb.cell (p:=⟨lf,ci,none⟩) (Nat.lt_of_lt_of_le (lt_of_cell h.l0) hB)).trans h.l0,(hb.cell (p:=⟨sq,kk,none⟩) (Nat.lt_of_lt_of_le (lt_of_cell h.s0) hB)).trans h.s0⟩
theorem ai4(w:World)(r x lf sq nl ns ci li kk:Nat)(nu lf0 sqv st:Int)(h:RunAt w r x lf sq nl ns ci kk nu lf0 sqv)(hkk:kk<ns)(e3:IntKind.i64.wrap (3*(ci:Int))=3*(ci:Int))(e4:IntKind.i64.wrap (3*(ci:Int)+(li:Int))=(kk:Int))(hst:¬st=2)(hid:st=0↔sqv=0)
  (H16:Calls Tryz.prog 16 #[ptr x,.int .i64 (ci:Int),.int .i64 (li:Int)] w fun e w'=>(∃oa oc,e=.returned (.tuple #[.agg #[.int .i64 st,.int .i64 sqv,.slice oa 0 oc],.int .i64 0]))∧Below w.heap.size w w') :
  Calls Tryz.prog 20 #[ptr r,.int .i64 (ci:Int),.int .i64 (li:Int)] w fun e w'=>e=.returned (.bool true)∧Below w.heap.size w w':=by
 have HS:=aab H16
 have hkl:(kk:Int)<(ns:Int):=by omega
 have hk0:(0:Int)≤(kk:Int):=by omega
 have e5:(st==2)=false:=by simpa using hst
 have e6:(st==0)=(sqv==0):=by
  rw[Bool.eq_iff_iff]
  simpa using hid
 have HR:Hid (∀w',Below w.heap.size w w'→RunAt w' r x lf sq nl ns ci kk nu lf0 sqv):=fun w' hb=>h.below (Nat.le_refl _) hb
 obtain⟨r0,r6,r7,r10,l0,s0⟩:=h
 clear H16 hst hid
 go_enter Tryz.func20,Tryz.ntmps20
 go_wp2_with (go_at_call 16;refine(unhide HS).mono ?_;rintro e w1 ⟨⟨oa,oc,rfl⟩,hb1⟩;clear HS r0 r6 r7 r10 l0 s0;obtain⟨r0,r6,r7,r10,l0,s0⟩:=(unhide HR) w1 hb1;have hl1:=lt_of_cell r0;have hl2:=lt_of_cell s0;have HB:=aab hb1;have HBS:=aab hb1.size;clear hb1)
 go_returns
 exact⟨rfl,(unhide HB).alloc (unhide HBS) _⟩
theorem ahb(w:World)(r x lf sq nl ns ci li kk:Nat)(lf0 sqv:Int)(sv:List R.Sv)(res:List R.It)(h:RunAt w r x lf sq nl ns ci kk (sv.length:Int) lf0 sqv)(hkk:kk<ns)(hci:ci<nl)(e3:IntKind.i64.wrap (3*(ci:Int))=3*(ci:Int))(e4:IntKind.i64.wrap (3*(ci:Int)+(li:Int))=(kk:Int))(hq:¬sqv=0)(hsl:sv.length≤255)(hll:∀s∈sv,s.log.length≤3000000)
  (hrl:res.length≤1000) (hone:cntKey ⟨ci,lf0,li,sqv⟩ (allLog sv)=1) (hres:∀e∈allLog sv,R.enKey e=⟨ci,lf0,li,sqv⟩→e.result=res)
  (H16:Calls Tryz.prog 16 #[ptr x,.int .i64 (ci:Int),.int .i64 (li:Int)] w fun e w'=>(∃oa on oc,e=.returned (.tuple #[.agg #[.int .i64 2,.int .i64 sqv,.slice oa on oc],.int .i64 0])∧V.Items w' (.slice oa on oc) res)∧Below w.heap.size w w')
  (H44:∀wr (u:Nat) (s:R.Sv),Below w.heap.size w wr→sv[u]?=some s→Calls Tryz.prog 44 #[ptr x,.int .i64 ((u:Int)+1)] wr fun e w'=>e=.returned (.tuple #[.int .i64 (s.log.length:Int),.int .i64 0])∧Below wr.heap.size wr w')
  (H45:∀wr (u i:Nat) (s:R.Sv) (y:R.En),Below w.heap.size w wr→sv[u]?=some s→s.log[i]?=some y→Calls Tryz.prog 45 #[ptr x,.int .i64 ((u:Int)+1),.int .i64 (i:Int)] wr fun e w'=>(∃xa xn xc ya yn yc,e=.returned (.tuple #[.agg #[.int .i64 y.client,.int .i64 y.life,.int .i64 y.line,.int .i64 y.seq,.int .i64 y.proc,.slice xa xn xc,.slice ya yn yc],.int .i64 0])∧V.Items w' (.slice ya yn yc) y.result)∧Below wr.heap.size wr w') :
  Calls Tryz.prog 20 #[ptr r,.int .i64 (ci:Int),.int .i64 (li:Int)] w fun e w'=>e=.returned (.bool true)∧Below w.heap.size w w':=by
 have HS:=aab H16
 have HL:Hid (∀wr (u:Nat) (s:R.Sv),Below w.heap.size w wr→sv[u]?=some s→Calls Tryz.prog 44 #[ptr x,.int .i64 ((u:Int)+1)] wr fun e w'=>e=.returned (.tuple #[.int .i64 (s.log.length:Int),.int .i64 0])∧Below wr.heap.size wr w'):=H44
 have HE:Hid (∀wr (u i:Nat) (s:R.Sv) (y:R.En),Below w.heap.size w wr→sv[u]?=some s→s.log[i]?=some y→Calls Tryz.prog 45 #[ptr x,.int .i64 ((u:Int)+1),.int .i64 (i:Int)] wr fun e w'=>(∃xa xn xc ya yn yc,e=.returned (.tuple #[.agg #[.int .i64 y.client,.int .i64 y.life,.int .i64 y.line,.int .i64 y.seq,.int .i64 y.proc,.slice xa xn xc,.slice ya yn yc],.int .i64 0])∧V.Items w' (.slice ya yn yc) y.result)∧Below wr.heap.size wr w'):=H45
 have hkl:(kk:Int)<(ns:Int):=by omega
 have hk0:(0:Int)≤(kk:Int):=by omega
 have hcl:(ci:Int)<(nl:Int):=by omega
 have hc0:(0:Int)≤(ci:Int):=by omega
 have e6:(sqv==0)=false:=by simpa using hq
 have HR:Hid (∀w',Below w.heap.size w w'→RunAt w' r x lf sq nl ns ci kk (sv.length:Int) lf0 sqv):=fun w' hb=>h.below (Nat.le_refl _) hb
 have HONE:=aab hone
 have HRES:Hid (∀e∈allLog sv,R.enKey e=⟨ci,lf0,li,sqv⟩→e.result=res):=hres
 have HLL:Hid (∀s∈sv,s.log.length≤3000000):=hll
 obtain⟨r0,r6,r7,r10,l0,s0⟩:=h
 clear H16 H44 H45 hone hres hq hll
 go_enter Tryz.func20,Tryz.ntmps20
 go_wp2_with (go_at_call 16;refine(unhide HS).mono ?_;rintro e w1 ⟨⟨oa,on,oc,rfl,hI1⟩,hb1⟩;clear HS r0 r6 r7 r10 l0 s0;obtain⟨r0,r6,r7,r10,l0,s0⟩:=(unhide HR) w1 hb1;have hl1:=lt_of_cell r0;have hl2:=lt_of_cell s0;have HB1:=aab hb1;have HI1:=aab hI1;clear hb1 hI1)
 have HBX:Hid ((w1.alloc (.cells #[.int .i64 2,.int .i64 sqv,.slice oa on oc] 46)).heap[w1.heap.size]?=some (.cells #[.int .i64 2,.int .i64 sqv,.slice oa on oc] 46 (0,0))):=heap_alloc_new w1 _
 have HBB:Hid (Below w1.heap.size w1 (w1.alloc (.cells #[.int .i64 2,.int .i64 sqv,.slice oa on oc] 46))):=(Below.refl _ _).alloc (Nat.le_refl _) _
 have HSZ:Hid (w1.heap.size<(w1.alloc (.cells #[.int .i64 2,.int .i64 sqv,.slice oa on oc] 46)).heap.size):=by
  show w1.heap.size<_
  simp
 refine abG (fun W=>W.heap[w1.heap.size]?=some (.cells #[.int .i64 2,.int .i64 sqv,.slice oa on oc] 46 (0,0))∧Below w1.heap.size w1 W∧w1.heap.size<W.heap.size) ⟨unhide HBX,unhide HBB,unhide HSZ⟩ ?_
 clear HBX HBB HSZ r0 r6 r7 r10 l0 s0 hl1 hl2
 rintro W ⟨hbx,hbW,hsz⟩
 have hbwW:=(unhide HB1).trans (hbW.mono (unhide HB1).size)
 have HKW:Hid (∀wr,Below W.heap.size W wr→(Below w.heap.size w wr∧RunAt wr r x lf sq nl ns ci kk (sv.length:Int) lf0 sqv)∧wr.cell? ⟨w1.heap.size,2,none⟩=some (.slice oa on oc)∧V.Items wr (.slice oa on oc) res∧w1.heap.size<wr.heap.size):=fun wr hb=>by
  have h1:Below w.heap.size w wr:=hbwW.trans (hb.mono hbwW.size)
  exact⟨⟨h1,(unhide HR) wr h1⟩,(hb.cell (p:=⟨w1.heap.size,2,none⟩) hsz).trans (aaa hbx 2 _ rfl),((unhide HI1).below hbW).below hb,Nat.lt_of_lt_of_le hsz hb.size⟩
 obtain⟨⟨-,r0,r6,r7,r10,l0,s0⟩,-⟩:=(unhide HKW) W (Below.refl _ _)
 have x1:W.cell? ⟨w1.heap.size,1,none⟩=some (.int .i64 sqv):=aaa hbx 1 _ rfl
 have x0:W.cell? ⟨w1.heap.size,0,none⟩=some (.int .i64 2):=aaa hbx 0 _ rfl
 have hl1:=lt_of_cell r0
 have hl2:=lt_of_cell s0
 clear hbx hbW hsz hbwW
 go_wp2
 go_loopw [10,11] (fun tv uv wr=>∃u:Nat,u≤sv.length∧uv=.int .i64 ((u:Int)+1)∧tv=.int .i64 (cntKey ⟨ci,lf0,li,sqv⟩ (upTo sv u 0):Int)∧Below W.heap.size W wr) (fun _ uv _=>sv.length+1-(intOf uv).toNat)
 case atStart=>exact⟨0,Nat.zero_le _,rfl,rfl,Below.refl _ _⟩
 case round=>
  obtain⟨u,hu,rfl,rfl,hb⟩:=hrel
  clear r0 r6 r7 r10 l0 s0 x0 x1 hl1 hl2
  obtain⟨⟨hbw,r0,r6,r7,r10,l0,s0⟩,x2,hI,hsz⟩:=(unhide HKW) wr hb
  by_cases hlt:u<sv.length
  ·have hs:sv[u]?=some sv[u]:=List.getElem?_eq_getElem hlt
   have hlen:=(unhide HLL) sv[u] (List.getElem_mem hlt)
   generalize sv[u]=s at hs hlen
   have hle:((u:Int)+1≤(sv.length:Int)):=by omega
   have HC:=aab ((unhide HL) wr u s hbw hs)
   have HS:=aab hs
   have HBr:=aab hb
   clear hb hbw hI x2 hs
   go_wp2_with (go_at_call 44;refine(unhide HC).mono ?_;rintro e w2 ⟨rfl,hb2⟩;have HB2:=aab ((unhide HBr).trans (hb2.mono (unhide HBr).size));clear hb2 HC)
   go_loopw [10,14] (fun tv iv wr=>∃i:Nat,i≤s.log.length∧iv=.int .i64 (i:Int)∧tv=.int .i64 (cntKey ⟨ci,lf0,li,sqv⟩ (upTo sv u i):Int)∧Below W.heap.size W wr) (fun _ iv _=>s.log.length-(intOf iv).toNat)
   case atStart=>exact⟨0,Nat.zero_le _,rfl,rfl,unhide HB2⟩
   case round=>
    obtain⟨i,hi,rfl,rfl,hb⟩:=hrel
    clear r0 r6 r7 r10 l0 s0
    obtain⟨⟨hbw,r0,r6,r7,r10,l0,s0⟩,x2,hI,hsz2⟩:=(unhide HKW) _ hb
    by_cases hlt2:i<s.log.length
    ·have hy:s.log[i]?=some s.log[i]:=List.getElem?_eq_getElem hlt2
     generalize s.log[i]=y at hy
     have hq1:(i:Int)<(s.log.length:Int):=by omega
     have HC:=aab ((unhide HE) _ u i s y hbw (unhide HS) hy)
     have hup:=acH (unhide HS) hy
     have hcn:cntKey ⟨ci,lf0,li,sqv⟩ (upTo sv u (i+1))=cntKey ⟨ci,lf0,li,sqv⟩ (upTo sv u i)+cntKey ⟨ci,lf0,li,sqv⟩ [y]:=by rw[hup,ajw]
     have hmem:y∈allLog sv:=(abN (i:=i+1) hu).subset (by rw[hup];simp)
     have hle1:=aqb (i:=i) hu (unhide HONE)
     have HCN:=aab hcn
     have HMEM:=aab hmem
     have HBr2:=aab hb
     generalize cntKey ⟨ci,lf0,li,sqv⟩ (upTo sv u i)=N at *
     have hw1:IntKind.i64.wrap ((N:Int)+1)=(N:Int)+1:=by rw[IntKind.wrap_i64];omega
     have hw2:IntKind.i64.wrap ((i:Int)+1)=(i:Int)+1:=by rw[IntKind.wrap_i64];omega
     clear hb hbw hI x2 hy hcn hmem hup
     go_wp2_with (go_at_call 45;refine(unhide HC).mono ?_;rintro e w3 ⟨⟨xa,xn,xc,ya,yn,yc,rfl,hI3⟩,hb3⟩;have HB3:=aab ((unhide HBr2).trans (hb3.mono (unhide HBr2).size));have HI3:=aab hI3;clear hb3 hI3 HC)
     have HBX:Hid ((w3.alloc (.cells #[.int .i64 y.client,.int .i64 y.life,.int .i64 y.line,.int .i64 y.seq,.int .i64 y.proc,.slice xa xn xc,.slice ya yn yc] 98)).heap[w3.heap.size]?=some (.cells #[.int .i64 y.client,.int .i64 y.life,.int .i64 y.line,.int .i64 y.seq,.int .i64 y.proc,.slice xa xn xc,.slice ya yn yc] 98 (0,0))):=heap_alloc_new w3 _
     have HBB:Hid (Below w3.heap.size w3 (w3.alloc (.cells #[.int .i64 y.client,.int .i64 y.life,.int .i64 y.line,.int .i64 y.seq,.int .i64 y.proc,.slice xa xn xc,.slice ya yn yc] 98))):=(Below.refl _ _).alloc (Nat.le_refl _) _
     refine abG (fun V=>V.heap[w3.heap.size]?=some (.cells #[.int .i64 y.client,.int .i64 y.life,.int .i64 y.line,.int .i64 y.seq,.int .i64 y.proc,.slice xa xn xc,.slice ya yn yc] 98 (0,0))∧Below w3.heap.size w3 V) ⟨unhide HBX,unhide HBB⟩ ?_
     clear HBX HBB r0 r6 r7 r10 l0 s0
     rintro W3 ⟨hbx,hbW3⟩
     have hb33:=(unhide HB3).trans (hbW3.mono (unhide HB3).size)
     obtain⟨⟨-,r0,r6,r7,r10,l0,s0⟩,x2,hI,hsz3⟩:=(unhide HKW) W3 hb33
     have y0:W3.cell? ⟨w3.heap.size,0,none⟩=some (.int .i64 y.client):=aaa hbx 0 _ rfl
     have y1:W3.cell? ⟨w3.heap.size,1,none⟩=some (.int .i64 y.life):=aaa hbx 1 _ rfl
     have y2:W3.cell? ⟨w3.heap.size,2,none⟩=some (.int .i64 y.line):=aaa hbx 2 _ rfl
     have y3:W3.cell? ⟨w3.heap.size,3,none⟩=some (.int .i64 y.seq):=aaa hbx 3 _ rfl
     have y6:W3.cell? ⟨w3.heap.size,6,none⟩=some (.slice ya yn yc):=aaa hbx 6 _ rfl
     have hl1:=lt_of_cell r0
     have hl2:=lt_of_cell l0
     have hl3:=lt_of_cell y0
     have HB33:=aab (fun n=>below_drewN hb33 n)
     have HSM:Hid (y.result=res→∀n,Calls Tryz.prog 46 #[.slice ya yn yc,.slice oa on oc] (W3.drewN n) fun e w'=>e=.returned (.bool true)∧Below (W3.drewN n).heap.size (W3.drewN n) w'):=fun e n=>by
      have h1:V.Items (W3.drewN n) (.slice ya yn yc) y.result:=((unhide HI3).below hbW3).below (below_drewN (Below.refl _ _) n)
      rw[e]at h1
      exact ahQ _ _ _ res h1 (hI.below (below_drewN (Below.refl _ _) n)) hrl
     have h4:(y.client==(ci:Int))=false∨((y.client==(ci:Int))=true∧(y.life==lf0)=false)∨((y.client==(ci:Int))=true∧(y.life==lf0)=true∧(y.line==(li:Int))=false)∨((y.client==(ci:Int))=true∧(y.life==lf0)=true∧(y.line==(li:Int))=true∧(y.seq==sqv)=false)∨((y.client==(ci:Int))=true∧(y.life==lf0)=true∧(y.line==(li:Int))=true∧(y.seq==sqv)=true):=by
      cases (y.client==(ci:Int)) <;> cases (y.life==lf0) <;> cases (y.line==(li:Int)) <;> cases (y.seq==sqv) <;> simp
     have HNO:Hid (((y.client==(ci:Int))&&(y.life==lf0)&&(y.line==(li:Int))&&(y.seq==sqv))=false→cntKey ⟨ci,lf0,li,sqv⟩ [y]=0):=fun e=>by
      refine aij (fun z hz q=>?_)
      obtain rfl:z=y:=by simpa using hz
      unfold R.enKey at q
      simp only[R.Key.mk.injEq]at q
      simp[q.1,q.2.1,q.2.2.1,q.2.2.2]at e
     have HYES:Hid ((y.client==(ci:Int))=true→(y.life==lf0)=true→(y.line==(li:Int))=true→(y.seq==sqv)=true→R.enKey y=⟨ci,lf0,li,sqv⟩):=fun a1 a2 a3 a4=>by
      unfold R.enKey
      simp only[R.Key.mk.injEq]
      exact⟨by simpa using a1,by simpa using a2,by simpa using a3,by simpa using a4⟩
     clear hbx hbW3 hb33 hI HI3
     rcases h4 with q1|⟨q1,q2⟩|⟨q1,q2,q3⟩|⟨q1,q2,q3,q4⟩|⟨q1,q2,q3,q4⟩
     rotate_left 4
     ·have hky:=(unhide HYES) q1 q2 q3 q4
      have HSM2:=aab ((unhide HSM) ((unhide HRES) y (unhide HMEM) hky))
      have h1:cntKey ⟨ci,lf0,li,sqv⟩ [y]=1:=by
       unfold cntKey
       simp[hky]
      have HCN2:=aab h1
      clear hky h1 HSM HYES HNO
      go_wp2_with fail
      go_quiet (fail)
      go_wp2_with (go_at_call 46;refine((unhide HSM2) _).mono ?_;rintro e w4 ⟨rfl,hb4⟩;have HB4:=aab hb4;clear hb4)
      go_roundw
      case rel=>exact⟨i+1,by omega,by go_num,by rw[unhide HCN,unhide HCN2];rfl,((unhide HB33) _).trans ((unhide HB4).mono ((unhide HB33) _).size)⟩
      case measure=>simp[intOf];omega
     all_goals
      have h0:=(unhide HNO) (by simp_all)
      have HCN2:=aab h0
      clear h0 HSM HYES HNO
      go_wp2_with fail
      go_quiet (fail)
      go_wp2_with fail
      go_roundw
      case rel=>exact⟨i+1,by omega,by go_num,by rw[unhide HCN,unhide HCN2];rfl,(unhide HB33) _⟩
      case measure=>simp[intOf];omega
    ·obtain rfl:i=s.log.length:=by omega
     have hnx:=afJ (unhide HS)
     have hw2:IntKind.i64.wrap ((u:Int)+1+1)=(u:Int)+1+1:=by rw[IntKind.wrap_i64];omega
     have HBr2:=aab hb
     have HNX:=aab hnx
     clear hb hbw hI x2 hnx
     go_wp2
     go_roundw
     case rel=>exact⟨u+1,by omega,by go_num,by rw[←unhide HNX],unhide HBr2⟩
     case measure=>simp[intOf];omega
  ·obtain rfl:u=sv.length:=by omega
   have hgt:¬((sv.length:Int)+1≤(sv.length:Int)):=by omega
   have hall:cntKey ⟨ci,lf0,li,sqv⟩ (upTo sv sv.length 0)=1:=by rw[ahH];exact unhide HONE
   rw[hall]
   have HBr:=aab hbw
   clear hb hbw hI x2 hall
   go_wp2
   go_returns
   exact⟨rfl,unhide HBr⟩
structure LogsAt(w:World)(r x mb mc db dc:Nat)(mk:List (Mk×Value))(dead:List Int)(nu:Int):Prop where
 r0:w.cell? ⟨r,0,none⟩=some (ptr x)
 r9:w.cell? ⟨r,9,none⟩=some (.slice (some ⟨mb,0,none⟩) mk.length mc)
 r10:w.cell? ⟨r,10,none⟩=some (.int .i64 nu)
 r11:w.cell? ⟨r,11,none⟩=some (.slice (some ⟨db,0,none⟩) dead.length dc)
 m:∀j z,mk[j]?=some z→∀c v,(abf z)[c]?=some v→w.cell? ⟨mb,j*7+c,none⟩=some v
 d:∀u n,dead[u]?=some n→w.cell? ⟨db,u,none⟩=some (.int .i64 n)
 it:∀z∈mk,V.Items w z.2 z.1.arg
theorem LogsAt.below{w w':World}{r x mb mc db dc:Nat}{mk:List (Mk×Value)}{dead:List Int}{nu:Int}(h:LogsAt w r x mb mc db dc mk dead nu)(hb:Below w.heap.size w w'):LogsAt w' r x mb mc db dc mk dead nu:=
 ⟨(hb.cell (p:=⟨r,0,none⟩) (lt_of_cell h.r0)).trans h.r0,(hb.cell (p:=⟨r,9,none⟩) (lt_of_cell h.r0)).trans h.r9,(hb.cell (p:=⟨r,10,none⟩) (lt_of_cell h.r0)).trans h.r10,(hb.cell (p:=⟨r,11,none⟩) (lt_of_cell h.r0)).trans h.r11,fun j z hz c v hv=>(hb.cell (p:=⟨mb,j*7+c,none⟩) (lt_of_cell (h.m j z hz c v hv))).trans (h.m j z hz c v hv),fun u n hn=>(hb.cell (p:=⟨db,u,none⟩) (lt_of_cell (h.d u n hn))).trans (h.d u n hn),fun z hz=>(h.it z hz).below hb⟩
theorem abu{w:World}{X:Value}{l:List V.It}(h:V.Items w X l):∃xa xn xc,X=.slice xa xn xc:=by
 obtain⟨a,c,rfl,_⟩:=h
 exact⟨_,_,_,rfl⟩
theorem ajj(w:World)(r x mb mc db dc k:Nat)(mk:List (Mk×Value))(dead:List Int)(nu uid:Int)(y:R.En)(xa ya:Option Addr)(xn xc yn yc:Nat)(zk:Mk×Value)(h:LogsAt w r x mb mc db dc mk dead nu)(hI:V.Items w (.slice xa xn xc) y.arg)(hl:mk.length≤3000000)(hal:y.arg.length≤1000)
  (hk:mk[k]?=some zk) (hkey:zk.1.key=R.enKey y) (hu:zk.1.uid=uid) (hp:zk.1.proc=y.proc) (ha:zk.1.arg=y.arg) (hne:∀j z,j<k→mk[j]?=some z→z.1.key≠R.enKey y) :
  Calls Tryz.prog 47 #[ptr r,.int .i64 uid,.agg #[.int .i64 y.client,.int .i64 y.life,.int .i64 y.line,.int .i64 y.seq,.int .i64 y.proc,.slice xa xn xc,.slice ya yn yc]] w fun e w'=>e=.returned (.int .i64 (k:Int))∧Below w.heap.size w w':=by
 have HBX:Hid ((w.alloc (.cells #[.int .i64 y.client,.int .i64 y.life,.int .i64 y.line,.int .i64 y.seq,.int .i64 y.proc,.slice xa xn xc,.slice ya yn yc] 98)).heap[w.heap.size]?=some (.cells #[.int .i64 y.client,.int .i64 y.life,.int .i64 y.line,.int .i64 y.seq,.int .i64 y.proc,.slice xa xn xc,.slice ya yn yc] 98 (0,0))):=heap_alloc_new w _
 have HBB:Hid (Below w.heap.size w (w.alloc (.cells #[.int .i64 y.client,.int .i64 y.life,.int .i64 y.line,.int .i64 y.seq,.int .i64 y.proc,.slice xa xn xc,.slice ya yn yc] 98))):=(Below.refl _ _).alloc (Nat.le_refl _) _
 have hkl:=(List.getElem?_eq_some_iff.1 hk).1
 obtain⟨W0,hW0⟩:∃W0,w.alloc (.cells #[.int .i64 y.client,.int .i64 y.life,.int .i64 y.line,.int .i64 y.seq,.int .i64 y.proc,.slice xa xn xc,.slice ya yn yc] 98)=W0:=⟨_,rfl⟩
 have hbx:W0.heap[w.heap.size]?=some (.cells #[.int .i64 y.client,.int .i64 y.life,.int .i64 y.line,.int .i64 y.seq,.int .i64 y.proc,.slice xa xn xc,.slice ya yn yc] 98 (0,0)):=by rw[←hW0];exact unhide HBX
 have hbb:Below w.heap.size w W0:=by rw[←hW0];exact unhide HBB
 have HKW:Hid (∀wr,Below W0.heap.size W0 wr→Below w.heap.size w wr∧LogsAt wr r x mb mc db dc mk dead nu∧V.Items wr (.slice xa xn xc) y.arg∧wr.heap[w.heap.size]?=some (.cells #[.int .i64 y.client,.int .i64 y.life,.int .i64 y.line,.int .i64 y.seq,.int .i64 y.proc,.slice xa xn xc,.slice ya yn yc] 98 (0,0))):=fun wr hb=>by
  have h1:=hbb.trans (hb.mono hbb.size)
  exact⟨h1,h.below h1,hI.below h1,(hb.block _ (lt_of_block hbx)).trans hbx⟩
 have HW0:=aab hW0
 have HKK:=aab (And.intro hk (And.intro hkey (And.intro hu (And.intro hp ha))))
 have HNE:Hid (∀j z,j<k→mk[j]?=some z→z.1.key≠R.enKey y):=hne
 clear HBX HBB hW0 hbx hbb hk hkey hu hp ha hne h hI
 go_enter Tryz.func47,Tryz.ntmps47
 go_wp2
 rw[unhide HW0]
 go_loopw [7] (fun iv wr=>∃i:Nat,i≤k∧iv=.int .i64 (i:Int)∧Below W0.heap.size W0 wr) (fun iv _=>k-(intOf iv).toNat)
 case atStart=>exact⟨0,Nat.zero_le _,rfl,Below.refl _ _⟩
 case round=>
  obtain⟨i,hi,rfl,hb⟩:=hrel
  obtain⟨hbw,hL,hX,hbx⟩:=(unhide HKW) wr hb
  have hz:mk[i]?=some (mk[i]'(by omega)):=List.getElem?_eq_getElem _
  generalize mk[i]'(by omega)=z at hz
  obtain⟨za,zn,zc,hzs⟩:=abu (hL.it z (List.mem_of_getElem? hz))
  have hit:=hL.it z (List.mem_of_getElem? hz)
  rw[hzs]at hit
  have r0:=hL.r0
  have r9:=hL.r9
  have hlr:=lt_of_cell r0
  have m0:wr.cell? ⟨mb,i*7,none⟩=some (.int .i64 z.1.client):=hL.m i z hz 0 _ rfl
  have m1:wr.cell? ⟨mb,i*7+1,none⟩=some (.int .i64 z.1.life):=hL.m i z hz 1 _ rfl
  have m2:wr.cell? ⟨mb,i*7+2,none⟩=some (.int .i64 z.1.line):=hL.m i z hz 2 _ rfl
  have m3:wr.cell? ⟨mb,i*7+3,none⟩=some (.int .i64 z.1.seq):=hL.m i z hz 3 _ rfl
  have m4:wr.cell? ⟨mb,i*7+4,none⟩=some (.int .i64 z.1.uid):=hL.m i z hz 4 _ rfl
  have m5:wr.cell? ⟨mb,i*7+5,none⟩=some (.int .i64 z.1.proc):=hL.m i z hz 5 _ rfl
  have m6:wr.cell? ⟨mb,i*7+6,none⟩=some (.slice za zn zc):=by
   rw[←hzs]
   exact hL.m i z hz 6 _ rfl
  have hlm:=lt_of_cell m0
  have q1:(0:Int)≤(i:Int):=by omega
  have q2:(i:Int)<(mk.length:Int):=by omega
  have q3:i<mk.length:=by omega
  have hw2:IntKind.i64.wrap ((i:Int)+1)=(i:Int)+1:=by rw[IntKind.wrap_i64];omega
  have y0:wr.cell? ⟨w.heap.size,0,none⟩=some (.int .i64 y.client):=aaa hbx 0 _ rfl
  have y1:wr.cell? ⟨w.heap.size,1,none⟩=some (.int .i64 y.life):=aaa hbx 1 _ rfl
  have y2:wr.cell? ⟨w.heap.size,2,none⟩=some (.int .i64 y.line):=aaa hbx 2 _ rfl
  have y3:wr.cell? ⟨w.heap.size,3,none⟩=some (.int .i64 y.seq):=aaa hbx 3 _ rfl
  have y4:wr.cell? ⟨w.heap.size,4,none⟩=some (.int .i64 y.proc):=aaa hbx 4 _ rfl
  have y5:wr.cell? ⟨w.heap.size,5,none⟩=some (.slice xa xn xc):=aaa hbx 5 _ rfl
  have hl2:=lt_of_block hbx
  have HB1:Hid (Below W0.heap.size W0 (wr.alloc (.cells #[.int .i64 z.1.client,.int .i64 z.1.life,.int .i64 z.1.line,.int .i64 z.1.seq,.int .i64 z.1.uid,.int .i64 z.1.proc,.slice za zn zc] 55))):=hb.alloc hb.size _
  have HIT:Hid (V.Items (wr.alloc (.cells #[.int .i64 z.1.client,.int .i64 z.1.life,.int .i64 z.1.line,.int .i64 z.1.seq,.int .i64 z.1.uid,.int .i64 z.1.proc,.slice za zn zc] 55)) (.slice za zn zc) z.1.arg):=hit.below ((Below.refl _ _).alloc (Nat.le_refl _) _)
  have HX1:Hid (V.Items (wr.alloc (.cells #[.int .i64 z.1.client,.int .i64 z.1.life,.int .i64 z.1.line,.int .i64 z.1.seq,.int .i64 z.1.uid,.int .i64 z.1.proc,.slice za zn zc] 55)) (.slice xa xn xc) y.arg):=hX.below ((Below.refl _ _).alloc (Nat.le_refl _) _)
  have HNB:Hid ((wr.alloc (.cells #[.int .i64 z.1.client,.int .i64 z.1.life,.int .i64 z.1.line,.int .i64 z.1.seq,.int .i64 z.1.uid,.int .i64 z.1.proc,.slice za zn zc] 55)).heap[wr.heap.size]?=some (.cells #[.int .i64 z.1.client,.int .i64 z.1.life,.int .i64 z.1.line,.int .i64 z.1.seq,.int .i64 z.1.uid,.int .i64 z.1.proc,.slice za zn zc] 55 (0,0))):=heap_alloc_new wr _
  have HXB:Hid ((wr.alloc (.cells #[.int .i64 z.1.client,.int .i64 z.1.life,.int .i64 z.1.line,.int .i64 z.1.seq,.int .i64 z.1.uid,.int .i64 z.1.proc,.slice za zn zc] 55)).heap[w.heap.size]?=some (.cells #[.int .i64 y.client,.int .i64 y.life,.int .i64 y.line,.int .i64 y.seq,.int .i64 y.proc,.slice xa xn xc,.slice ya yn yc] 98 (0,0))):=(Below.heap_alloc _ _ _ hl2).trans hbx
  have HZ:=aab hz
  clear hb hbw hL hX hbx hit hzs hz
  by_cases hlt:i<k
  ·have hkn:=(unhide HNE) i z hlt (unhide HZ)
   have h4:(z.1.client==y.client)=false∨((z.1.client==y.client)=true∧(z.1.life==y.life)=false)∨((z.1.client==y.client)=true∧(z.1.life==y.life)=true∧(z.1.line==y.line)=false)∨((z.1.client==y.client)=true∧(z.1.life==y.life)=true∧(z.1.line==y.line)=true∧(z.1.seq==y.seq)=false):=by
    unfold Mk.key R.enKey at hkn
    simp only[ne_eq,R.Key.mk.injEq]at hkn
    by_cases a1:z.1.client=y.client
    ·by_cases a2:z.1.life=y.life
     ·by_cases a3:z.1.line=y.line
      ·by_cases a4:z.1.seq=y.seq
       ·exact absurd ⟨a1,a2,a3,a4⟩ hkn
       ·simp[a1,a2,a3,a4]
      ·simp[a1,a2,a3]
     ·simp[a1,a2]
    ·simp[a1]
   clear hkn
   rcases h4 with q4|⟨q4,q5⟩|⟨q4,q5,q6⟩|⟨q4,q5,q6,q7⟩
   all_goals
    go_wp2_with fail
    go_roundw
    case rel=>exact⟨i+1,by omega,by go_num,unhide HB1⟩
    case measure=>simp[intOf];omega
  ·obtain rfl:i=k:=by omega
   obtain⟨g1,g2,g3,g4,g5⟩:=unhide HKK
   obtain rfl:=Option.some.inj ((unhide HZ).symm.trans g1)
   have g6:=g2
   unfold Mk.key R.enKey at g6
   simp only[R.Key.mk.injEq]at g6
   have q4:(z.1.client==y.client)=true:=by simpa using g6.1
   have q5:(z.1.life==y.life)=true:=by simpa using g6.2.1
   have q6:(z.1.line==y.line)=true:=by simpa using g6.2.2.1
   have q7:(z.1.seq==y.seq)=true:=by simpa using g6.2.2.2
   have q8:(z.1.uid==uid)=true:=by simpa using g3
   have q9:(z.1.proc==y.proc)=true:=by simpa using g4
   have HSM:Hid (Calls Tryz.prog 46 #[.slice za zn zc,.slice xa xn xc] (wr.alloc (.cells #[.int .i64 z.1.client,.int .i64 z.1.life,.int .i64 z.1.line,.int .i64 z.1.seq,.int .i64 z.1.uid,.int .i64 z.1.proc,.slice za zn zc] 55)) fun e w'=>e=.returned (.bool true)∧Below (wr.alloc (.cells #[.int .i64 z.1.client,.int .i64 z.1.life,.int .i64 z.1.line,.int .i64 z.1.seq,.int .i64 z.1.uid,.int .i64 z.1.proc,.slice za zn zc] 55)).heap.size (wr.alloc (.cells #[.int .i64 z.1.client,.int .i64 z.1.life,.int .i64 z.1.line,.int .i64 z.1.seq,.int .i64 z.1.uid,.int .i64 z.1.proc,.slice za zn zc] 55)) w'):=by
    have:=unhide HIT
    rw[g5]at this
    exact ahQ _ _ _ y.arg this (unhide HX1) hal
   have HKP:Hid (∀w',Below (wr.alloc (.cells #[.int .i64 z.1.client,.int .i64 z.1.life,.int .i64 z.1.line,.int .i64 z.1.seq,.int .i64 z.1.uid,.int .i64 z.1.proc,.slice za zn zc] 55)).heap.size (wr.alloc (.cells #[.int .i64 z.1.client,.int .i64 z.1.life,.int .i64 z.1.line,.int .i64 z.1.seq,.int .i64 z.1.uid,.int .i64 z.1.proc,.slice za zn zc] 55)) w'→w'.cell? ⟨wr.heap.size,4,none⟩=some (.int .i64 z.1.uid)∧w'.cell? ⟨wr.heap.size,5,none⟩=some (.int .i64 z.1.proc)∧w'.cell? ⟨w.heap.size,4,none⟩=some (.int .i64 y.proc)):=fun w' hb=>⟨aaa ((hb.block _ (lt_of_block (unhide HNB))).trans (unhide HNB)) 4 _ rfl,aaa ((hb.block _ (lt_of_block (unhide HNB))).trans (unhide HNB)) 5 _ rfl,aaa ((hb.block _ (lt_of_block (unhide HXB))).trans (unhide HXB)) 4 _ rfl⟩
   clear g1 g2 g3 g4 g5 g6 HKK
   go_wp2_with (go_at_call 46;refine(unhide HSM).mono ?_;rintro e w4 ⟨rfl,hb4⟩;clear y0 y1 y2 y3 y4 y5;obtain⟨n4,n5,y4⟩:=(unhide HKP) w4 hb4;have HB4:=aab ((unhide HB1).trans (hb4.mono (unhide HB1).size));clear hb4)
   go_returns
   exact⟨rfl,((unhide HKW) _ (unhide HB4)).1⟩
def aa5(ms:List Mk)(P:List R.En):List Bool:=ms.map fun m=>P.any fun e=>decide (R.enKey e=m.key)
theorem aiP(ms:List Mk):aa5 ms []=List.replicate ms.length false:=by
 unfold aa5
 rw[List.eq_replicate_iff]
 refine⟨by simp,fun b hb=>?_⟩
 obtain⟨m,_,rfl⟩:=List.mem_map.1 hb
 rfl
theorem aeL(ms:List Mk)(P:List R.En):(aa5 ms P).length=ms.length:=by simp[aa5]
theorem agR{ms:List Mk}{M:R.Bk}(hb:Booked ms M){k:Nat}{m:Mk}{y:R.En}(hk:ms[k]?=some m)(hkey:m.key=R.enKey y)(P:List R.En):aa5 ms (P++[y])=(aa5 ms P).set k true:=by
 refine List.ext_getElem? (fun j=>?_)
 rw[List.getElem?_set]
 have hkl:=(List.getElem?_eq_some_iff.1 hk).1
 by_cases hj:k=j
 ·subst hj
  rw[if_pos rfl,if_pos (by rw[aeL];exact hkl)]
  unfold aa5
  simp[hk,hkey]
 ·rw[if_neg hj]
  unfold aa5
  cases hm:ms[j]? with
  |none=>simp[hm]
  |some m'=>
   have:¬R.enKey y=m'.key:=fun e=>hj (hb.uniq hk hm (hkey.trans e))
   simp[hm,this]
theorem akf{ms:List Mk}{P:List R.En}{k:Nat}{m:Mk}{y:R.En}(hk:ms[k]?=some m)(hkey:m.key=R.enKey y)(h:∀x∈P,R.enKey x≠R.enKey y):(aa5 ms P)[k]?=some false:=by
 unfold aa5
 simp only[List.getElem?_map,hk,Option.map_some,Option.some.injEq]
 rw[List.any_eq_false]
 intro x hx
 simp[hkey,h x hx]
theorem aiO{ms:List Mk}{P:List R.En}{k:Nat}{m:Mk}(hk:ms[k]?=some m)(h:(aa5 ms P)[k]?=some true):∃x∈P,m.key=R.enKey x:=by
 unfold aa5 at h
 simp only[List.getElem?_map,hk,Option.map_some,Option.some.injEq]at h
 obtain⟨x,hx,e⟩:=List.any_eq_true.1 h
 exact⟨x,hx,by simpa using (of_decide_eq_true e).symm⟩
def adD(l:List Bool):List Value:=l.map fun b=>Value.bool b
theorem agt{l:List Bool}{k:Nat}{b:Bool}(h:l[k]?=some b):(adD l)[k]?=some (.bool b):=by simp[adD,h]
theorem alC(l:List Bool)(k:Nat)(b:Bool):(adD l).set k (.bool b)=adD (l.set k b):=by simp[adD,List.map_set]
theorem alL:∀(sv:List R.Sv),(∀s∈sv,s.log.length≤3000000)→(allLog sv).length≤3000000*sv.length
 |[],_=>by simp[allLog]
 |s :: sv,h=>by
  have h1:=h s (by simp)
  have h2:=alL sv (fun t ht=>h t (by simp[ht]))
  have:allLog (s :: sv)=s.log++allLog sv:=by simp[allLog]
  rw[this,List.length_append,List.length_cons]
  omega
theorem aqJ:(Tryz.prog.info? 4).map (fun i=>(i.zero,i.size,i.bytes))=some (some (.bool false),1,1):=by kernel_rfl
theorem ajF(n:Nat)(hn:n≤3000000)(W:World):(Instr.makeSlice 59 (.int .i64 (n:Int)) (.int .i64 (n:Int))).run Tryz.prog W=.ok (.slice (some ⟨W.heap.size,0,none⟩) n n) (W.alloc (.cells (adD (List.replicate n false)).toArray 4)):=by
 obtain⟨i0,hi,hz0,hz1,hz2⟩:=info_parts aqJ
 have h:=run_make (P:=Tryz.prog) W 59 4 i0 (.bool false) Tryz.underlying59 hi hz0 .i64 .i64 (n:Int) (n:Int) (by omega) (Int.le_refl _) (by rw[hz2];omega) (by omega)
 rw[hz1,Int.toNat_natCast]at h
 have e:madeCells (Value.bool false).cells (n*1)=(adD (List.replicate n false)).toArray:=by
  apply Array.ext
  ·rw[size_madeCells]
   simp[adD]
  ·intro i h1 h2
   simp[madeCells,adD,Value.cells,Nat.mod_one]
 rw[e]at h
 exact h
structure SeenW(w:World)(ms:List Mk)(P:List R.En)(wr:World):Prop where
 below:Below w.heap.size w wr
 seen:wr.heap[w.heap.size]?=some (.cells (adD (aa5 ms P)).toArray 4 (0,0))
theorem ai5(w:World)(r x mb mc db dc:Nat)(mk:List (Mk×Value))(dead:List Int)(sv:List R.Sv)(M:R.Bk)(G:R.Wd)(hI:R.Inv M G)(hsv:G.services=sv)(hbk:Booked (mk.map (·.1)) M)(h:LogsAt w r x mb mc db dc mk dead (sv.length:Int))(hml:mk.length≤3000000)(hsl:sv.length≤255)(hll:∀s∈sv,s.log.length≤3000000)(hdl:dead.length=sv.length)(hal:∀y∈allLog sv,y.arg.length≤1000)
  (hdead:∀n∈dead,¬0≤n)
  (H44:∀wr (u:Nat) (s:R.Sv),Below w.heap.size w wr→sv[u]?=some s→Calls Tryz.prog 44 #[ptr x,.int .i64 ((u:Int)+1)] wr fun e w'=>e=.returned (.tuple #[.int .i64 (s.log.length:Int),.int .i64 0])∧Below wr.heap.size wr w')
  (H45:∀wr (u i:Nat) (s:R.Sv) (y:R.En),Below w.heap.size w wr→sv[u]?=some s→s.log[i]?=some y→Calls Tryz.prog 45 #[ptr x,.int .i64 ((u:Int)+1),.int .i64 (i:Int)] wr fun e w'=>(∃xa xn xc ya yn yc,e=.returned (.tuple #[.agg #[.int .i64 y.client,.int .i64 y.life,.int .i64 y.line,.int .i64 y.seq,.int .i64 y.proc,.slice xa xn xc,.slice ya yn yc],.int .i64 0])∧V.Items w' (.slice xa xn xc) y.arg)∧Below wr.heap.size wr w') :
  Calls Tryz.prog 21 #[ptr r] w fun e w'=>e=.returned (.int .i64 ((allLog sv).length:Int))∧Below w.heap.size w w':=by
 have HL:Hid (∀wr (u:Nat) (s:R.Sv),Below w.heap.size w wr→sv[u]?=some s→Calls Tryz.prog 44 #[ptr x,.int .i64 ((u:Int)+1)] wr fun e w'=>e=.returned (.tuple #[.int .i64 (s.log.length:Int),.int .i64 0])∧Below wr.heap.size wr w'):=H44
 have HE:Hid (∀wr (u i:Nat) (s:R.Sv) (y:R.En),Below w.heap.size w wr→sv[u]?=some s→s.log[i]?=some y→Calls Tryz.prog 45 #[ptr x,.int .i64 ((u:Int)+1),.int .i64 (i:Int)] wr fun e w'=>(∃xa xn xc ya yn yc,e=.returned (.tuple #[.agg #[.int .i64 y.client,.int .i64 y.life,.int .i64 y.line,.int .i64 y.seq,.int .i64 y.proc,.slice xa xn xc,.slice ya yn yc],.int .i64 0])∧V.Items w' (.slice xa xn xc) y.arg)∧Below wr.heap.size wr w'):=H45
 have hlen:=alL sv hll
 have HMK:=ajF mk.length hml
 have HLA:Hid (∀wr,Below w.heap.size w wr→LogsAt wr r x mb mc db dc mk dead (sv.length:Int)):=fun wr hb=>h.below hb
 have HST:Hid (SeenW w (mk.map (·.1)) [] (w.alloc (.cells (adD (List.replicate mk.length false)).toArray 4))):=⟨(Below.refl _ _).alloc (Nat.le_refl _) _,by
  rw[aiP,List.length_map]
  exact heap_alloc_new w _⟩
 have HDD:Hid (∀n∈dead,¬0≤n):=hdead
 have HLL:Hid (∀s∈sv,s.log.length≤3000000):=hll
 have HAL:Hid (∀y∈allLog sv,y.arg.length≤1000):=hal
 have HAP:Hid (∀(u i:Nat) (s:R.Sv) (y:R.En),sv[u]?=some s→s.log[i]?=some y→∃(k:Nat) (z:Mk×Value),mk[k]?=some z∧z.1.key=R.enKey y∧z.1.uid=(u:Int)+1∧z.1.proc=y.proc∧z.1.arg=y.arg∧(∀j z',j<k→mk[j]?=some z'→z'.1.key≠R.enKey y)∧(aa5 (mk.map (·.1)) (upTo sv u i))[k]?=some false∧aa5 (mk.map (·.1)) (upTo sv u (i+1))=(aa5 (mk.map (·.1)) (upTo sv u i)).set k true∧∀(j:Nat) (z':Mk×Value),k<j→mk[j]?=some z'→∃b,(aa5 (mk.map (·.1)) (upTo sv u (i+1)))[j]?=some b∧¬(b=true∧z'.1.uid=(u:Int)+1∧z'.1.client=y.client∧z'.1.life=y.life∧z'.1.line=y.line)):=fun u i s y hs hy=>by
  subst hsv
  obtain⟨d,d1,d2,d3,d4⟩:=afv hI hs (List.mem_of_getElem? hy)
  obtain⟨k,m,b1,b2,b3,b4,b5⟩:=hbk.at d1
  have b1':=b1
  rw[List.getElem?_map]at b1'
  cases hz:mk[k]? with
  |none=>rw[hz]at b1';cases b1'
  |some z=>
   rw[hz]at b1'
   obtain rfl:z.1=m:=Option.some.inj b1'
   have hap:=aiv hI hs hy
   have hsn:=agR hbk b1 b2 (upTo G.services u i)
   rw[←acH hs hy]at hsn
   have atM:∀{j:Nat} {z':Mk×Value},mk[j]?=some z'→(mk.map (·.1))[j]?=some z'.1:=fun hz'=>by simp[hz']
   refine⟨k,z,hz,b2,by omega,by rw[b4,d3],by rw[b5,d4],fun j z' hj hz' e=>?_,akf b1 b2 hap,hsn,fun j z' hkj hz'=>?_⟩
   ·have:=hbk.uniq (atM hz') b1 (e.trans b2.symm)
    omega
   ·have hjl:=(List.getElem?_eq_some_iff.1 hz').1
    have hb:=List.getElem?_eq_getElem (l:=aa5 (mk.map (·.1)) (upTo G.services u (i+1))) (i:=j) (by rw[aeL,List.length_map];exact hjl)
    refine⟨_,hb,fun q=>?_⟩
    rw[q.1,hsn,List.getElem?_set,if_neg (by omega)]at hb
    obtain⟨x',hx',hxk⟩:=aiO (atM hz') hb
    exact amH hI hbk hs hy b1 b2 (atM hz') hkj hx' hxk q.2.1 q.2.2.1 q.2.2.2.1 q.2.2.2.2
 obtain⟨r0,r9,r10,r11,-,-,-⟩:=h
 have hlr:=lt_of_cell r0
 clear H44 H45 hdead hll hI hbk hal
 go_enter Tryz.func21,Tryz.ntmps21
 go_wp2
 generalize w.alloc (.cells (adD (List.replicate mk.length false)).toArray 4)=W0 at *
 clear r0 r9 r10 r11
 go_loopw [4,5] (fun av uv wr=>∃u:Nat,u≤sv.length∧uv=.int .i64 ((u:Int)+1)∧av=.int .i64 ((upTo sv u 0).length:Int)∧SeenW w (mk.map (·.1)) (upTo sv u 0) wr) (fun _ uv _=>sv.length+1-(intOf uv).toNat)
 case atStart=>exact⟨0,Nat.zero_le _,rfl,rfl,unhide HST⟩
 case round=>
  obtain⟨u,hu,rfl,rfl,hS⟩:=hrel
  obtain⟨r0,r9,r10,r11,-,hD,-⟩:=(unhide HLA) _ hS.below
  have hlr1:=lt_of_cell r0
  by_cases hlt:u<sv.length
  ·have hs:sv[u]?=some sv[u]:=List.getElem?_eq_getElem hlt
   have hslen:=(unhide HLL) sv[u] (List.getElem_mem hlt)
   generalize sv[u]=s at hs hslen
   have hdv:dead[u]?=some (dead[u]'(by omega)):=List.getElem?_eq_getElem _
   generalize dead[u]'(by omega)=dv at hdv
   have hd0:=hD u dv hdv
   have g1:=(unhide HDD) dv (List.mem_of_getElem? hdv)
   have hle:((u:Int)+1≤(sv.length:Int)):=by omega
   have hw3:IntKind.i64.wrap ((u:Int)+1-1)=(u:Int):=by rw[IntKind.wrap_i64];omega
   have hq0:(0:Int)≤(u:Int):=by omega
   have hq1:(u:Int)<(dead.length:Int):=by omega
   have hq2:u<dead.length:=by omega
   have HC:=aab ((unhide HL) _ u s hS.below hs)
   have HSS:=aab hs
   have HSW:=aab hS
   have HKP:Hid (∀w2,Below wr.heap.size wr w2→SeenW w (mk.map (·.1)) (upTo sv u 0) w2):=fun w2 hb=>⟨hS.below.trans (hb.mono hS.below.size),(hb.block _ (lt_of_block hS.seen)).trans hS.seen⟩
   have HD0:Hid (∀w2,Below wr.heap.size wr w2→w2.cell? ⟨db,u,none⟩=some (.int .i64 dv)):=fun w2 hb=>(hb.cell (p:=⟨db,u,none⟩) (lt_of_cell hd0)).trans hd0
   clear hS hs hdv hD
   go_wp2_with (go_at_call 44;refine(unhide HC).mono ?_;rintro e w2 ⟨rfl,hb2⟩;have HS2:=aab ((unhide HKP) w2 hb2);have hc2:=(unhide HLA) _ ((unhide HKP) w2 hb2).below;clear r0 r9 r10 r11 hd0;have r0:=hc2.r0;have r9:=hc2.r9;have r10:=hc2.r10;have r11:=hc2.r11;have hd0:=(unhide HD0) w2 hb2;have hlr2:=lt_of_cell r0;have hld:=lt_of_cell hd0;clear hc2 hb2 HC)
   go_loopw [4,8] (fun av iv wr=>∃i:Nat,i≤s.log.length∧iv=.int .i64 (i:Int)∧av=.int .i64 ((upTo sv u i).length:Int)∧SeenW w (mk.map (·.1)) (upTo sv u i) wr) (fun _ iv _=>s.log.length-(intOf iv).toNat)
   case atStart=>exact⟨0,Nat.zero_le _,rfl,rfl,unhide HS2⟩
   case round=>
    obtain⟨i,hi,rfl,rfl,hS⟩:=hrel
    clear r0 r9 r10 r11 hd0
    have hLA:=(unhide HLA) _ hS.below
    have r0:=hLA.r0
    have r9:=hLA.r9
    have r10:=hLA.r10
    have hlr2:=lt_of_cell r0
    by_cases hlt2:i<s.log.length
    ·have hy:s.log[i]?=some s.log[i]:=List.getElem?_eq_getElem hlt2
     generalize s.log[i]=y at hy
     obtain⟨k,z,hz,hkey,hzu,hzp,hza,hne,hno,hsn,hord⟩:=(unhide HAP) u i s y (unhide HSS) hy
     have hkl:=(List.getElem?_eq_some_iff.1 hz).1
     have hq3:(i:Int)<(s.log.length:Int):=by omega
     have hyl:=(unhide HAL) y ((abN (i:=i+1) hu).subset (by rw[acH (unhide HSS) hy];simp))
     have hup:(upTo sv u (i+1)).length=(upTo sv u i).length+1:=by rw[acH (unhide HSS) hy];simp
     have hul:(upTo sv u (i+1)).length≤(allLog sv).length:=(abN (i:=i+1) hu).length_le
     have hw1:IntKind.i64.wrap (((upTo sv u i).length:Int)+1)=((upTo sv u (i+1)).length:Int):=by rw[IntKind.wrap_i64];omega
     have hw2:IntKind.i64.wrap ((i:Int)+1)=(i:Int)+1:=by rw[IntKind.wrap_i64];omega
     have hw4:IntKind.i64.wrap ((k:Int)+1)=((k+1:Nat):Int):=by rw[IntKind.wrap_i64];omega
     have hk0:(0:Int)≤(k:Int):=by omega
     have hk1:(k:Int)<(mk.length:Int):=by omega
     have hk2:¬(k:Int)<0:=by omega
     have HC:=aab ((unhide HE) _ u i s y hS.below (unhide HSS) hy)
     have HSW2:=aab hS
     have HFI:Hid (∀W xa xn xc ya yn yc,Below w.heap.size w W→V.Items W (.slice xa xn xc) y.arg→Calls Tryz.prog 47 #[ptr r,.int .i64 ((u:Int)+1),.agg #[.int .i64 y.client,.int .i64 y.life,.int .i64 y.line,.int .i64 y.seq,.int .i64 y.proc,.slice xa xn xc,.slice ya yn yc]] W fun e w'=>e=.returned (.int .i64 (k:Int))∧Below W.heap.size W w'):=fun W xa xn xc ya yn yc hb hI=>ajj W r x mb mc db dc k mk dead (sv.length:Int) ((u:Int)+1) y xa ya xn xc yn yc z ((unhide HLA) W hb) hI hml hyl hz hkey hzu hzp hza hne
     have HSN:=aab hsn
     have HNO:=aab hno
     have HORD:Hid (∀(j:Nat) (z':Mk×Value),k<j→mk[j]?=some z'→∃b,(aa5 (mk.map (·.1)) (upTo sv u (i+1)))[j]?=some b∧¬(b=true∧z'.1.uid=(u:Int)+1∧z'.1.client=y.client∧z'.1.life=y.life∧z'.1.line=y.line)):=hord
     clear hS hLA hkey hzu hzp hza hne hno hsn hord hy hz hup hul
     go_wp2_with (go_at_call 45;refine(unhide HC).mono ?_;rintro e w3 ⟨⟨xa,xn,xc,ya,yn,yc,rfl,hI3⟩,hb3⟩;have HI3:=aab hI3;have HB3:=aab hb3;clear hI3 hb3 HC)
     clear r0 r9 r10
     obtain⟨W3,hW3⟩:∃W3,w3.alloc (.cells #[.int .i64 y.client,.int .i64 y.life,.int .i64 y.line,.int .i64 y.seq,.int .i64 y.proc,.slice xa xn xc,.slice ya yn yc] 98)=W3:=⟨_,rfl⟩
     have hbx:W3.heap[w3.heap.size]?=some (.cells #[.int .i64 y.client,.int .i64 y.life,.int .i64 y.line,.int .i64 y.seq,.int .i64 y.proc,.slice xa xn xc,.slice ya yn yc] 98 (0,0)):=by rw[←hW3];exact heap_alloc_new w3 _
     have hbW3:Below w3.heap.size w3 W3:=by rw[←hW3];exact(Below.refl _ _).alloc (Nat.le_refl _) _
     rw[hW3]
     have hSb:=(unhide HSW2).below
     have hbw3:=hSb.trans ((unhide HB3).mono hSb.size)
     have hbW:=hbw3.trans (hbW3.mono hbw3.size)
     have hl3:=lt_of_block hbx
     have HF3:=aab ((unhide HFI) W3 xa xn xc ya yn yc hbW ((unhide HI3).below hbW3))
     have HW3:Hid (∀w4,Below W3.heap.size W3 w4→SeenW w (mk.map (·.1)) (upTo sv u i) w4∧w4.heap[w3.heap.size]?=some (.cells #[.int .i64 y.client,.int .i64 y.life,.int .i64 y.line,.int .i64 y.seq,.int .i64 y.proc,.slice xa xn xc,.slice ya yn yc] 98 (0,0))∧w.heap.size<w3.heap.size):=fun w4 hb4=>by
      have hsw:=unhide HSW2
      have hl0:=lt_of_block hsw.seen
      have hs1:=(unhide HB3).size
      have hs2:=hbW3.size
      refine⟨⟨hbW.trans (hb4.mono hbW.size),?_⟩,(hb4.block _ hl3).trans hbx,by omega⟩
      exact(hb4.block _ (by omega)).trans ((hbW3.block _ (by omega)).trans (((unhide HB3).block _ hl0).trans hsw.seen))
     clear hbx hbW3 hSb hbw3 hbW HI3 HB3 HFI HSW2 hW3
     refine(unhide HF3).mono ?_
     rintro e w4 ⟨rfl,hb4⟩
     obtain⟨hS4,hx4,hlt4⟩:=(unhide HW3) w4 hb4
     (have s0:w4.cell? ⟨w.heap.size,k,none⟩=some (.bool false):=aah hS4.seen (agt (unhide HNO));have sz:w4.frozen? ⟨w.heap.size,k,none⟩=false:=aac hS4.seen;have hl4:=lt_of_block hS4.seen;have HS4:=aab hS4;have HX4:=aab hx4;have r0:=((unhide HLA) _ hS4.below).r0;have r9:=((unhide HLA) _ hS4.below).r9;have hlr4:=lt_of_cell r0;have HL4:=aab hlt4;clear hb4 hS4 hx4 hlt4)
     go_wp2_with fail
     have HST4:Hid (SeenW w (mk.map (·.1)) (upTo sv u (i+1)) (w4.setCell ⟨w.heap.size,k,none⟩ (.bool true))∧(w4.setCell ⟨w.heap.size,k,none⟩ (.bool true)).heap[w3.heap.size]?=some (.cells #[.int .i64 y.client,.int .i64 y.life,.int .i64 y.line,.int .i64 y.seq,.int .i64 y.proc,.slice xa xn xc,.slice ya yn yc] 98 (0,0))):=by
      refine⟨⟨(unhide HS4).below.trans (((Below.refl w.heap.size w4).setCell (Nat.le_refl _) _).mono (Nat.le_refl _)),?_⟩,?_⟩
      ·rw[unhide HSN,←alC]
       exact aad (unhide HS4).seen _
      ·rw[Below.heap_setCell _ _ _ _ (show w3.heap.size≠w.heap.size by have:=unhide HL4;omega)]
       exact unhide HX4
     generalize w4.setCell ⟨w.heap.size,k,none⟩ (.bool true)=W4 at *
     clear r0 r9 s0 sz hl4 HS4 HX4 HW3 HF3
     go_loopw [12] (fun jv wr=>∃j:Nat,k+1≤j∧j≤mk.length∧jv=.int .i64 (j:Int)∧SeenW w (mk.map (·.1)) (upTo sv u (i+1)) wr∧wr.heap[w3.heap.size]?=some (.cells #[.int .i64 y.client,.int .i64 y.life,.int .i64 y.line,.int .i64 y.seq,.int .i64 y.proc,.slice xa xn xc,.slice ya yn yc] 98 (0,0))) (fun jv _=>mk.length-(intOf jv).toNat)
     case atStart=>exact⟨k+1,Nat.le_refl _,hkl,rfl,(unhide HST4).1,(unhide HST4).2⟩
     case round=>
      obtain⟨j,hkj,hjl,rfl,hS5,hx5⟩:=hrel
      have hLA5:=(unhide HLA) _ hS5.below
      have r0:=hLA5.r0
      have r9:=hLA5.r9
      have hlr5:=lt_of_cell r0
      by_cases hlt3:j<mk.length
      ·have hz5:mk[j]?=some mk[j]:=List.getElem?_eq_getElem hlt3
       generalize mk[j]=z' at hz5
       obtain⟨b,hb1,hb2⟩:=(unhide HORD) j z' hkj hz5
       obtain⟨za,zn,zc,hzs⟩:=abu (hLA5.it z' (List.mem_of_getElem? hz5))
       have m0:wr.cell? ⟨mb,j*7,none⟩=some (.int .i64 z'.1.client):=hLA5.m j z' hz5 0 _ rfl
       have m1:wr.cell? ⟨mb,j*7+1,none⟩=some (.int .i64 z'.1.life):=hLA5.m j z' hz5 1 _ rfl
       have m2:wr.cell? ⟨mb,j*7+2,none⟩=some (.int .i64 z'.1.line):=hLA5.m j z' hz5 2 _ rfl
       have m3:wr.cell? ⟨mb,j*7+3,none⟩=some (.int .i64 z'.1.seq):=hLA5.m j z' hz5 3 _ rfl
       have m4:wr.cell? ⟨mb,j*7+4,none⟩=some (.int .i64 z'.1.uid):=hLA5.m j z' hz5 4 _ rfl
       have m5:wr.cell? ⟨mb,j*7+5,none⟩=some (.int .i64 z'.1.proc):=hLA5.m j z' hz5 5 _ rfl
       have m6:wr.cell? ⟨mb,j*7+6,none⟩=some (.slice za zn zc):=by
        rw[←hzs]
        exact hLA5.m j z' hz5 6 _ rfl
       have hlm:=lt_of_cell m0
       have p0:(0:Int)≤(j:Int):=by omega
       have p1:(j:Int)<(mk.length:Int):=by omega
       have p2:IntKind.i64.wrap ((j:Int)+1)=(j:Int)+1:=by rw[IntKind.wrap_i64];omega
       have y0:wr.cell? ⟨w3.heap.size,0,none⟩=some (.int .i64 y.client):=aaa hx5 0 _ rfl
       have y1:wr.cell? ⟨w3.heap.size,1,none⟩=some (.int .i64 y.life):=aaa hx5 1 _ rfl
       have y2:wr.cell? ⟨w3.heap.size,2,none⟩=some (.int .i64 y.line):=aaa hx5 2 _ rfl
       have s0:wr.cell? ⟨w.heap.size,j,none⟩=some (.bool b):=aah hS5.seen (agt hb1)
       have l2:=lt_of_block hx5
       have l3:=lt_of_block hS5.seen
       have HS6:Hid (SeenW w (mk.map (·.1)) (upTo sv u (i+1)) (wr.alloc (.cells #[.int .i64 z'.1.client,.int .i64 z'.1.life,.int .i64 z'.1.line,.int .i64 z'.1.seq,.int .i64 z'.1.uid,.int .i64 z'.1.proc,.slice za zn zc] 55))∧(wr.alloc (.cells #[.int .i64 z'.1.client,.int .i64 z'.1.life,.int .i64 z'.1.line,.int .i64 z'.1.seq,.int .i64 z'.1.uid,.int .i64 z'.1.proc,.slice za zn zc] 55)).heap[w3.heap.size]?=some (.cells #[.int .i64 y.client,.int .i64 y.life,.int .i64 y.line,.int .i64 y.seq,.int .i64 y.proc,.slice xa xn xc,.slice ya yn yc] 98 (0,0))):=⟨⟨hS5.below.alloc hS5.below.size _,(Below.heap_alloc _ _ _ l3).trans hS5.seen⟩,(Below.heap_alloc _ _ _ l2).trans hx5⟩
       have h5:b=false∨(b=true∧(z'.1.uid==(u:Int)+1)=false)∨(b=true∧(z'.1.uid==(u:Int)+1)=true∧(z'.1.client==y.client)=false)∨(b=true∧(z'.1.uid==(u:Int)+1)=true∧(z'.1.client==y.client)=true∧(z'.1.life==y.life)=false)∨(b=true∧(z'.1.uid==(u:Int)+1)=true∧(z'.1.client==y.client)=true∧(z'.1.life==y.life)=true∧(z'.1.line==y.line)=false):=by
        cases b
        ·simp
        ·by_cases a1:z'.1.uid=(u:Int)+1
         ·by_cases a2:z'.1.client=y.client
          ·by_cases a3:z'.1.life=y.life
           ·by_cases a4:z'.1.line=y.line
            ·exact absurd ⟨rfl,a1,a2,a3,a4⟩ hb2
            ·simp[a1,a2,a3,a4]
           ·simp[a1,a2,a3]
          ·simp[a1,a2]
         ·simp[a1]
       clear hS5 hx5 hLA5 hz5 hb1 hb2 hzs
       rcases h5 with rfl|⟨rfl,c1⟩|⟨rfl,c1,c2⟩|⟨rfl,c1,c2,c3⟩|⟨rfl,c1,c2,c3,c4⟩
       all_goals
        go_wp2_with fail
        go_roundw
        case rel=>exact⟨j+1,by omega,by omega,by go_num,(unhide HS6).1,(unhide HS6).2⟩
        case measure=>simp[intOf];omega
      ·obtain rfl:j=mk.length:=by omega
       have HS5:=aab hS5
       clear hS5 hx5 hLA5
       go_wp2
       go_roundw
       case rel=>exact⟨i+1,by omega,by go_num,rfl,unhide HS5⟩
       case measure=>simp[intOf];omega
    ·obtain rfl:i=s.log.length:=by omega
     have hw2:IntKind.i64.wrap ((u:Int)+1+1)=(u:Int)+1+1:=by rw[IntKind.wrap_i64];omega
     have HSr:=aab hS
     have HNX:=aab (afJ (unhide HSS))
     clear hS hLA
     go_wp2
     go_roundw
     case rel=>exact⟨u+1,by omega,by go_num,by rw[←unhide HNX],by rw[←unhide HNX];exact unhide HSr⟩
     case measure=>simp[intOf];omega
  ·obtain rfl:u=sv.length:=by omega
   have hgt:¬((sv.length:Int)+1≤(sv.length:Int)):=by omega
   rw[ahH]
   have HBr:=aab hS.below
   clear hS hD
   go_wp2
   go_returns
   exact⟨rfl,unhide HBr⟩
theorem Mp.look1{α:Type}{w:World}{k t:TypeId}{b n:Nat}{lit:α→Lit}{g:α→Option Int}(h:Mp w k b lit g n)(K:Keyed Tryz.prog k)(ht:Tryz.prog.underlying t=some (.map k 3)){key:Value}{a:α}(hkey:keyOf Tryz.prog k key=some (lit a)):(Instr.lookup t (.map (some b)) key false).run Tryz.prog w=.ok (.int .i64 ((g a).getD 0)) w:=by
 obtain⟨D,h1,h2,h3⟩:=h
 obtain⟨v,ps,hrun,hv⟩:=h1.lookup K ht (apn w) (plainElem_int Tryz.underlying3 (apl (by omega))) hkey
 obtain⟨c,rfl,hc,_⟩:=plainElem_int_inv Tryz.underlying3 hv
 simp only[Prod.mk.injEq]at hc
 rw[hrun]
 cases hg:g a with
 |some x=>
  have:=(h3 a).2 x hg
  rw[hc.1]at this
  cases this
  rfl
 |none=>
  have hn:=(h3 a).1
  rw[hg]at hn
  have:=atKey_of_not_has hn (.lit (.int .i64 0))
  rw[hc.1]at this
  cases this
  rfl
theorem LW.heldP{p:Pl}{F:aai}{G:R.Wd}{w:World}(h:LW p F G w){i k:Nat}{c:R.Cl}{l:R.Ln}(ha:R.At G i k c l):i<3∧k<3:=by
 have hcf:=h.wf.cf
 unfold R.okCf at hcf
 have h1:=h.wf.ncl
 have h2:=(h.wf.cl i c ha.cl).lines
 have h3:=(List.getElem?_eq_some_iff.1 ha.cl).1
 have h4:=(List.getElem?_eq_some_iff.1 ha.ln).1
 omega
theorem LW.acked{p:Pl}{F:aai}{G:R.Wd}{w:World}(h:LW p F G w){i k:Nat}{c:R.Cl}{l:R.Ln}(ha:R.At G i k c l)(h1:l.state=1){P:Pk}(hP:P.line=(k:Int))(hr:aaj P)(hoff:P.off=R.piecesP l.message) :
  Calls Tryz.prog 141 #[ptr (p.cb i),pv P] w fun e w'=>e=.returned (.tuple #[])∧∃F',LW p F' (if P.part=l.acked then R.restP (if l.acked+1<R.piecesP l.message then R.sendPieceP (R.setLine G i k {l with acked:=l.acked+1}) i k false else R.setLine G i k {l with acked:=l.acked+1}) i k else G) w'∧Went F F' w w':=by
 obtain⟨xs,x,hL,hR,hx,hx1,hla,hrs,hit⟩:=h.line ha.cl ha.ln
 have hca:=ail h ha.cl
 have hi:=(List.getElem?_eq_some_iff.1 ha.cl).1
 have hk:=(List.getElem?_eq_some_iff.1 ha.ln).1
 have hok:=(h.wf.cl i c ha.cl).line k l ha.ln
 obtain⟨z1,z2,hml,hac,hwt,htr⟩:=hok.one h1
 obtain⟨eu,em,ea,ew,et⟩:=hx1.one h1
 have hfl:F (p.lb i):=(h.feet i hi).2.1
 have hnl:c.lines.length=c.lines.length:=rfl
 have hb3:w.cell? ⟨p.cb i,3,none⟩=some (.slice (some ⟨p.lb i,0,none⟩) c.lines.length c.lines.length):=hca.a3
 have a6:=hla.a6
 rw[ea]at a6
 have a5:=hla.a5
 rw[em]at a5
 have hpp:=R.pieces_le hml.2
 by_cases hpt:P.part=l.acked
 ·rw[if_pos hpt]
  have hpo:=hr.2.2.2.2.2.2.2.1
  have st:=aaC (j:=6) (x':={x with acked:=l.acked+1}) (v:=.int .i64 (l.acked+1)) hL hx (by omega) rfl
  have hkp:Keeps (fun q=>q=p.lb i) w (w.setCell ⟨p.lb i,k*10+6,none⟩ (.int .i64 (l.acked+1))):=keeps_one _
  have hT:=h.turn (l':={l with acked:=l.acked+1}) ha.cl hL hR hrs hkp st.1 ⟨hok.seq,fun _=>⟨z1,z2,hml,by simp only;omega,hwt,htr⟩⟩ ⟨hx1.state,hx1.seq,hx1.res,fun q=>⟨eu,em,rfl,ew,et⟩,hx1.two⟩ hit
  have hW:Went F F w (w.setCell ⟨p.lb i,k*10+6,none⟩ (.int .i64 (l.acked+1))):=⟨hkp.mono (fun q _ e=>by rw[e];exact hfl),fun _ q=>Or.inl q⟩
  have hat:=ha.set {l with acked:=l.acked+1}
  refine anO w (p.cb i) (p.lb i) c.lines.length k (R.piecesP l.message) l.acked P (str l.message) (fun w'=>∃F',LW p F' (if l.acked+1<R.piecesP l.message then R.sendPieceP (R.setLine G i k {l with acked:=l.acked+1}) i k false else R.setLine G i k {l with acked:=l.acked+1}) w'∧Went F F' w w') _ hk hP hb3 a5 a6 (aac hL) (by omega) hpt (fun w=>aaP l.message w (by omega)) (fun hlt wa hb=>?_) ?_ (fun hlt wa hb=>?_)
  ·have hsz:(w.setCell ⟨p.lb i,k*10+6,none⟩ (.int .i64 (l.acked+1))).heap.size=w.heap.size:=by simp
   rw[←hsz]at hb
   refine((hT.below hb).piece hat.cl hat.ln h1 hlt false).mono ?_
   rintro e w' ⟨rfl,F',q1,q2⟩
   rw[if_pos hlt]
   exact⟨rfl,F',q1,(hW.trans (Went.ofBelow F hb)).trans q2⟩
  ·rintro w' ⟨F',q1,q2⟩
   have hat2:R.At (if l.acked+1<R.piecesP l.message then R.sendPieceP (R.setLine G i k {l with acked:=l.acked+1}) i k false else R.setLine G i k {l with acked:=l.acked+1}) i k {c with lines:=c.lines.set k {l with acked:=l.acked+1}} {l with acked:=l.acked+1}:=by
    split
    ·unfold R.sendPieceP
     exact hat.send _ _
    ·exact hat
   refine(q1.rest hat2 h1).mono ?_
   rintro e w'' ⟨rfl,r1,r2⟩
   exact⟨rfl,F',r1,q2.trans r2⟩
  ·have hsz:(w.setCell ⟨p.lb i,k*10+6,none⟩ (.int .i64 (l.acked+1))).heap.size=w.heap.size:=by simp
   rw[←hsz]at hb
   rw[if_neg hlt]
   exact⟨F,hT.below hb,hW.trans (Went.ofBelow F hb)⟩
 ·rw[if_neg hpt]
  refine(aqk w (p.cb i) (p.lb i) c.lines.length k l.acked P hk hP hb3 a6 hpt).mono ?_
  rintro e w' ⟨rfl,hb⟩
  exact⟨rfl,F,h.below hb,Went.ofBelow F hb⟩
theorem LW.rejected{p:Pl}{F:aai}{G:R.Wd}{w:World}(h:LW p F G w){i k:Nat}{c:R.Cl}{l:R.Ln}(ha:R.At G i k c l)(h1:l.state=1){P:Pk}(hP:P.line=(k:Int))(hr:aaj P)(hoff:P.off=2) :
  Calls Tryz.prog 143 #[ptr (p.cb i),pv P] w fun e w'=>e=.returned (.tuple #[])∧∃F',LW p F' (R.setLine G i k {l with state:=4+P.part}) w'∧Went F F' w w':=by
 obtain⟨xs,x,hL,hR,hx,hx1,hla,hrs,hit⟩:=h.line ha.cl ha.ln
 have hca:=ail h ha.cl
 have hi:=(List.getElem?_eq_some_iff.1 ha.cl).1
 have hk:=(List.getElem?_eq_some_iff.1 ha.ln).1
 have hok:=(h.wf.cl i c ha.cl).line k l ha.ln
 have hfl:F (p.lb i):=(h.feet i hi).2.1
 have hpo:=hr.2.2.2.2.2.2.2.1
 have hr0:l.result=[]:=hx1.res (by omega)
 have hll:=lt_of_block hL
 refine afh w (p.cb i) (p.lb i) c.lines.length k (4+P.part) P _ hk hP hca.a3 (by omega) (fun wa hb=>?_)
 have hL':wa.heap[p.lb i]?=some (.cells (tab LLn.cells xs).toArray 139 (0,0)):=by rw[hb.block _ hll];exact hL
 refine(afw wa (p.lb i) k (4+P.part) xs x (abC hit) hL' hx).mono ?_
 rintro e w' ⟨rfl,q1,q2⟩
 have hkp:Keeps (fun q=>q=p.lb i) w w':=(Keeps.ofBelow hb _).trans q2
 refine⟨rfl,F,?_,hkp.mono (fun q _ e=>by rw[e];exact hfl),fun _ q=>Or.inl q⟩
 refine h.turn ha.cl hL hR hrs hkp q1 ⟨hok.seq,fun q=>by simp only at q;omega⟩ ⟨rfl,hx1.seq,fun _=>hr0,fun q=>by simp only at q;omega,fun q=>by simp only at q;omega⟩ ?_
 simp only
 rw[hr0]
 exact aa2.nil _ _
theorem aiy{a b:Int}(ha:a=0∨a=1)(hb:b=0∨b=1)(h:two8 a=two8 b):a=b:=al8 (by omega) (by omega) (by omega) (by omega) h
theorem aiF{l:List UInt8}{n:Int}(h:(l.length:Int)=8*n):R.piecesP l=n:=by
 unfold R.piecesP
 omega
theorem akR{w:World}{b n:Nat}{g:Int→Option Int}(h:Mp w 3 b alW g n){u:Int}(hu:-9223372036854775808≤u∧u≤9223372036854775807):(Instr.lookup 131 (.map (some b)) (.int .i64 u) false).run Tryz.prog w=.ok (.int .i64 ((g u).getD 0)) w:=
 h.look1 (int_keyed Tryz.underlying3) Tryz.underlying131 (keyOf_int_mk Tryz.underlying3 (apl hu))
theorem aks{t:ByteArray}{v:List R.It}{rb:List UInt8}(h:R.bytesP t v=some rb)(hp:1≤rb.length):v≠[]:=fun e=>by
 subst e
 have h1:=R.bytesP_some h
 unfold R.bytesP at h
 rw[if_pos h1]at h
 obtain⟨_,ks,_,h3,_⟩:=V.mRes_parts h1
 have:=Option.some.inj h
 rw[h3]at this
 rw[←this]at hp
 cases ks <;> simp[V.bytesOf]at hp
theorem LW.resulted{p:Pl}{F:aai}{G:R.Wd}{w:World}(h:LW p F G w)(ht:acG w)(hF0:¬F 0){M:R.Bk}(hI:R.Inv M G){i k:Nat}{c:R.Cl}{l:R.Ln}(ha:R.At G i k c l)(h1:l.state=1){P:Pk}(hP:P.line=(k:Int))(hr:aaj P){d:R.Cd}{e:R.En}{rb:List UInt8}(hd:M ⟨i,c.life,k,l.seq⟩=some d)(hdn:R.DoneIs G.services ⟨i,c.life,k,l.seq⟩ d e rb)(ho:P.off=R.piecesP rb)(hb:P.body=R.pieceP rb P.part) :
  Calls Tryz.prog 142 #[ptr (p.cb i),pv P] w fun e w'=>e=.returned (.tuple #[])∧∃F',LW p F' (R.resultP G i P) w'∧Went F F' w w':=by
 obtain⟨xs,x,hL,hR,hx,hx1,hla,hrs,hit⟩:=h.line ha.cl ha.ln
 have hca:=ail h ha.cl
 obtain⟨hi3,hk3⟩:=h.heldP ha
 have hi:=(List.getElem?_eq_some_iff.1 ha.cl).1
 have hk:=(List.getElem?_eq_some_iff.1 ha.ln).1
 have hok:=(h.wf.cl i c ha.cl).line k l ha.ln
 obtain⟨z1,z2,hml,hac,hwt,htr⟩:=hok.one h1
 obtain⟨eu,em,ea,ew,et⟩:=hx1.one h1
 obtain⟨ec,ep,et2⟩:=hx1.two h1
 have hfl:F (p.lb i):=(h.feet i hi).2.1
 have hlo:=hI.ln i c k l ha.cl ha.ln
 obtain⟨d',w1,w2,w3,w4,w5,w6,w7⟩:=hlo.way h1
 rw[hd]at w1
 cases w1
 obtain⟨hcd,_⟩:=hI.bk _ d hd
 have hpo:=hr.2.2.2.2.2.2.2.1
 have hof:=hr.2.2.2.2.2.2.1
 have hpp:=R.pieces_le hml.2
 have hpp1:=R.pieces_pos (s:=l.message) hml.1
 have hcp:R.piecesP l.came=l.pieces:=aiF w6.2
 have hr0:l.result=[]:=hx1.res (by omega)
 have a3:=hla.a3
 rw[eu]at a3
 have a5:=hla.a5
 rw[em]at a5
 have a6:=hla.a6
 rw[ea]at a6
 have a7:=hla.a7
 rw[ec]at a7
 have hrbl:rb.length≤70:=by
  have:=R.bytesP_some hdn.bytes
  have h2:=V.mRes_le this
  have h3:=hdn.bytes
  unfold R.bytesP at h3
  rw[if_pos this]at h3
  rw[←Option.some.inj h3]
  exact h2
 have hcl:l.came.length≤72:=by
  rcases Int.lt_or_le 0 l.pieces with q|q
  ·obtain⟨e',rb',g1,g2,g3⟩:=w7 q
   obtain⟨_,u2⟩:=hI.unique hd hdn g1
   rw[g2,u2,List.length_take]
   omega
  ·omega
 have hbl:P.body.length≤8:=by rw[hb,R.piece_length];omega
 have H1:Hid (∀w,Calls Tryz.prog 187 #[.string (str l.message)] w fun e w'=>e=.returned (.int .i64 (R.piecesP l.message))∧w'=w):=fun w=>aaP l.message w (by omega)
 have H2:Hid (∀w,Calls Tryz.prog 187 #[.string (str l.came)] w fun e w'=>e=.returned (.int .i64 l.pieces)∧w'=w):=fun w=>by
  have:=aaP l.came w (by omega)
  rw[hcp]at this
  exact this
 have hlP:R.lineP G i P.line=l:=by rw[hP];exact ha.line
 have hresP:R.resultP G i P=if l.acked<R.piecesP l.message-1∨l.pieces<P.part then G else if P.part=l.pieces then (if l.pieces+1=P.off then R.setLine G i k {l with came:=l.came++P.body,pieces:=l.pieces+1,acked:=R.piecesP l.message,result:=(V.uFull l.to (l.came++P.body)).2,state:=2} else R.restP (R.gotP (R.setLine G i k {l with came:=l.came++P.body,pieces:=l.pieces+1,acked:=R.piecesP l.message}) i P) i k) else R.gotP G i P:=by
  unfold R.resultP
  simp only[hlP]
  rw[hP]
 rw[hresP]
 by_cases hold:l.acked<R.piecesP l.message-1∨¬P.part=l.pieces
 ·refine aiW w (p.cb i) (p.lb i) c.lines.length k (R.piecesP l.message) l.pieces l.acked P (str l.message) (str l.came) _ hk hP hca.a3 a5 a6 a7 (by omega) H1 H2 hold (fun q wa hb=>?_) (fun q1 q2 wa hb=>?_)
  ·rw[if_pos q]
   exact⟨F,h.below hb,Went.ofBelow F hb⟩
  ·rw[if_neg (by omega),if_neg (by omega)]
   refine((h.below hb).got ha h1 hr hi3 hk3 hP).mono ?_
   rintro e w' ⟨rfl,F',r1,r2⟩
   exact⟨rfl,F',r1,(Went.ofBelow F hb).trans r2⟩
 ·have hno:¬l.acked<R.piecesP l.message-1:=fun q=>hold (Or.inl q)
  have hm:P.part=l.pieces:=Decidable.byContradiction fun q=>hold (Or.inr q)
  rw[if_neg (by omega),if_pos hm]
  have s1:=aaC (j:=7) (x':={x with came:=l.came++P.body}) (v:=.string (str (l.came++P.body))) hL hx (by omega) rfl
  have s2:=aaC (j:=6) (x':={x with came:=l.came++P.body,acked:=R.piecesP l.message}) (v:=.int .i64 (R.piecesP l.message)) s1.1 s1.2 (by omega) rfl
  simp only[List.set_set]at s2
  have hkp:Keeps (fun q=>q=p.lb i) w (abY w (p.lb i) k (str (l.came++P.body)) (R.piecesP l.message)):=(keeps_one _).trans (keeps_one _)
  have rel1:LnRel {l with came:=l.came++P.body,pieces:=l.pieces+1,acked:=R.piecesP l.message} {x with came:=l.came++P.body,acked:=R.piecesP l.message}:=⟨hx1.state,hx1.seq,hx1.res,fun _=>⟨eu,em,rfl,ew,et⟩,fun _=>⟨rfl,ep,et2⟩⟩
  have hT:=h.turn (l':={l with came:=l.came++P.body,pieces:=l.pieces+1,acked:=R.piecesP l.message}) ha.cl hL hR hrs hkp s2.1 ⟨hok.seq,fun _=>⟨z1,z2,hml,by simp only;omega,hwt,htr⟩⟩ rel1 hit
  have hW:Went F F w (abY w (p.lb i) k (str (l.came++P.body)) (R.piecesP l.message)):=⟨hkp.mono (fun q _ e=>by rw[e];exact hfl),fun _ q=>Or.inl q⟩
  have hat:=ha.set {l with came:=l.came++P.body,pieces:=l.pieces+1,acked:=R.piecesP l.message}
  have hsz:(abY w (p.lb i) k (str (l.came++P.body)) (R.piecesP l.message)).heap.size=w.heap.size:=by simp
  have happ:=agM l.came P.body
  have hnz:¬9223372036854775807<(str l.came).size+(str P.body).size:=by rw[str_size,str_size];omega
  have hT0:∀wa,Below w.heap.size (abY w (p.lb i) k (str (l.came++P.body)) (R.piecesP l.message)) wa→acG wa:=fun wa hb=>by
   refine acG.below (w:=abY w (p.lb i) k (str (l.came++P.body)) (R.piecesP l.message)) (ht.keeps hkp ?_) (by rw[hsz];exact hb)
   intro q
   exact hF0 (by rw[q];exact hfl)
  by_cases hlast:l.pieces+1=P.off
  ·rw[if_pos hlast]
   have hwhole:l.came++P.body=rb:=by
    obtain⟨n,hn⟩:∃n:Nat,l.pieces=(n:Int):=⟨l.pieces.toNat,by omega⟩
    have hcame:l.came=rb.take (8*n):=by
     rcases Nat.eq_zero_or_pos n with h0|h0
     ·subst h0
      have:l.came.length=0:=by omega
      simp[List.length_eq_zero_iff.1 this]
     ·obtain⟨e',rb',g1,g2,g3⟩:=w7 (by omega)
      obtain⟨_,u2⟩:=hI.unique hd hdn g1
      rw[g2,u2,hn,Int.toNat_natCast]
    rw[hcame,hb,hm,hn,R.take_piece,R.pieces_all (by rw[←ho,←hlast,hn];rfl)]
   have hback:V.uFull l.to (l.came++P.body)=(0,e.result):=by rw[hwhole,w4];exact R.bytesP_back hdn.bytes
   have hne:=aks hdn.bytes hdn.pos
   have hkd:aan G l.uid=R.kindS G.services d.uid:=by rw[w2];rfl
   have hpr:x.proc=d.proc:=by
    have h3:l.message.take 2=two8 d.proc:=by rw[w3];simp[R.Cd.msg,two8]
    rw[h3]at et2
    have hs:=R.sig_small hcd.sig
    exact aiy ep hs et2.symm
   rw[hback]
   refine aeN w (p.cb i) (p.lb i) (p.bm i) c.lines.length k (R.piecesP l.message) l.pieces l.acked l.uid x.proc (aan G l.uid) P (str l.message) (str l.came) (fun _=>False) _ (fun O w'=>V.Row w' w.heap.size O e.result∧Below w.heap.size (abY w (p.lb i) k (str (l.came++P.body)) (R.piecesP l.message)) w') hk hP hca.a2 hca.a3 a3 hla.a4 a5 a6 a7 (aac hL) (aac hL) (ne_tag (h.cl i c ha.cl) hL (by decide)) (by omega) hno hm hof hnz H1 H2 (fun q wa hb=>absurd (show P.part=P.off-1 by omega) q) (fun w' q=>q.elim) (fun q wa hb=>?_) (fun q wa hb=>?_) ?_
   ·rw[←happ]at hb
    have hb':=hb
    rw[←hsz]at hb'
    have hbd:=(hT.below hb').bound i _ hat.cl
    have hin:l.uid∈c.bound:=by rw[w2];exact w5
    have:=akR hbd (u:=l.uid) (by omega)
    rw[this]
    have e1:aaJ (R.setLine G i k {l with came:=l.came++P.body,pieces:=l.pieces+1,acked:=R.piecesP l.message}) {c with lines:=c.lines.set k {l with came:=l.came++P.body,pieces:=l.pieces+1,acked:=R.piecesP l.message}} l.uid=some (aan G l.uid):=by
     unfold aaJ
     rw[if_pos hin]
     rfl
    rw[e1]
    rfl
   ·rw[←happ]at hb ⊢
    have hb':=hb
    rw[←hsz]at hb'
    refine(ad3 (aan G l.uid) x.proc d.from' d.to (by rw[hkd,hpr];exact hcd.sig) (l.came++P.body) e.result (by rw[←w4];exact hback) wa (hT0 wa hb)).mono ?_
    rintro e1 w' ⟨⟨O,rfl,hrow⟩,hbb⟩
    obtain⟨ra,rn,rc,hO⟩:=aae hrow
    subst hO
    exact⟨ra,rn,rc,rfl,V.row_base hrow (by have:=hb.size;rw[hsz]at this;exact this),hb.trans (hbb.mono (by have:=hb.size;rw[hsz]at this;exact this))⟩
   ·rintro ra rn rc w' ⟨hrow,hbb⟩
    have hbb':=hbb
    rw[←hsz]at hbb'
    obtain⟨hit2,hlt2⟩:=afW hrow hne
    have hT2:=hT.below hbb'
    have hL2:w'.heap[p.lb i]?=some (.cells (tab LLn.cells (xs.set k {x with came:=l.came++P.body,acked:=R.piecesP l.message})).toArray 139 (0,0)):=by rw[hbb.block _ (lt_of_block hL)];exact s2.1
    refine(aht w' (p.lb i) k ra rn rc (xs.set k {x with came:=l.came++P.body,acked:=R.piecesP l.message}) {x with came:=l.came++P.body,acked:=R.piecesP l.message} (abC hit) hL2 s2.2).mono ?_
    rintro e2 w'' ⟨rfl,q1,q2⟩
    have hwide:=hT2.wide (F':=fun j=>F j∨(Value.slice ra rn rc).ownBlock=some j) (fun _ q=>Or.inl q) (fun j hj=>by
     rcases hj with hj|hj
     ·exact hT2.lt j hj
     ·exact(hlt2 j hj).2)
    have hkw:Keeps (fun q=>q=p.lb i) w w':=hkp.trans (Keeps.ofBelow hbb' _)
    have hav:AvT w F (fun q=>q=p.lb i):=AvT.one hL (by decide)
    have g2:=hR.set (k:=k) rel1
    have g3:abF w' (fun j=>F j∨(Value.slice ra rn rc).ownBlock=some j) (c.lines.set k {l with came:=l.came++P.body,pieces:=l.pieces+1,acked:=R.piecesP l.message}) (xs.set k {x with came:=l.came++P.body,acked:=R.piecesP l.message}):=(hrs.avoid hkw hav (fun _ q=>Or.inl q)).set (hit.avoid hkw hav (fun _ q=>Or.inl q))
    have hfin:=hwide.turn (k:=k) (l':={l with came:=l.came++P.body,pieces:=l.pieces+1,acked:=R.piecesP l.message,result:=e.result,state:=2}) (x':={afx 2 x.seq with rv:=.slice ra rn rc}) hat.cl hL2 g2 g3 q2 q1 ⟨hok.seq,fun q=>by simp only at q;omega⟩ ⟨rfl,hx1.seq,fun q=>absurd rfl q,fun q=>by simp only at q;omega,fun q=>by simp only at q;omega⟩ (hit2.keep (Keeps.refl (fun _=>False) w') (fun _ _ _ _ q=>q) (fun _ q=>Or.inr q))
    refine⟨rfl,fun j=>F j∨(Value.slice ra rn rc).ownBlock=some j,?_,?_,fun j hj=>?_⟩
    ·rw[afd]at hfin
     exact hfin
    ·exact(hkw.trans q2).mono (fun q _ e=>by rw[e];exact hfl)
    ·rcases hj with hj|hj
     ·exact Or.inl hj
     ·exact Or.inr (hlt2 j hj).1
  ·have hnl:=hlast
   rw[if_neg hnl]
   refine aeN w (p.cb i) (p.lb i) (p.bm i) c.lines.length k (R.piecesP l.message) l.pieces l.acked l.uid x.proc (aan G l.uid) P (str l.message) (str l.came) (fun w'=>∃F',LW p F' (R.gotP (R.setLine G i k {l with came:=l.came++P.body,pieces:=l.pieces+1,acked:=R.piecesP l.message}) i P) w'∧Went F F' w w') _ (fun O w'=>V.Row w' w.heap.size O e.result∧Below w.heap.size (abY w (p.lb i) k (str (l.came++P.body)) (R.piecesP l.message)) w'∧l.pieces+1=P.off∧l.came++P.body=rb) hk hP hca.a2 hca.a3 a3 hla.a4 a5 a6 a7 (aac hL) (aac hL) (ne_tag (h.cl i c ha.cl) hL (by decide)) (by omega) hno hm hof hnz H1 H2 (fun q wa hb=>?_) ?_ (fun q wa hb=>?_) (fun q wa hb=>?_) ?_
   ·rw[←happ]at hb
    have hb':=hb
    rw[←hsz]at hb'
    refine((hT.below hb').got hat h1 hr hi3 hk3 hP).mono ?_
    rintro e w' ⟨rfl,F',r1,r2⟩
    exact⟨rfl,F',r1,(hW.trans (Went.ofBelow F hb')).trans r2⟩
   ·rintro w' ⟨F',r1,r2⟩
    have hat2:R.At (R.gotP (R.setLine G i k {l with came:=l.came++P.body,pieces:=l.pieces+1,acked:=R.piecesP l.message}) i P) i k {c with lines:=c.lines.set k {l with came:=l.came++P.body,pieces:=l.pieces+1,acked:=R.piecesP l.message}} {l with came:=l.came++P.body,pieces:=l.pieces+1,acked:=R.piecesP l.message}:=by
     unfold R.gotP
     exact hat.send _ _
    refine(r1.rest hat2 h1).mono ?_
    rintro e w'' ⟨rfl,g1,g2⟩
    exact⟨rfl,F',g1,r2.trans g2⟩
   ·exact absurd q (by omega)
   ·exact absurd q (by omega)
   ·rintro ra rn rc w' ⟨_,_,q,_⟩
    exact absurd q hnl
theorem LW.heard{p:Pl}{F:aai}{G:R.Wd}{w:World}(h:LW p F G w)(ht:acG w)(hF0:¬F 0){M:R.Bk}(hI:R.Inv M G){P:Pk}(hr:aaj P){to:Int}(hto:to≠-1)(hp:R.PkOk M G.services to P) :
  ∃i:Nat,to=(i:Int)∧i<G.clients.length∧Calls Tryz.prog 86 #[ptr (p.cb i),pv P] w fun e w'=>e=.returned (.tuple #[])∧∃F',LW p F' (R.heardP G to P) w'∧Went F F' w w':=by
 obtain⟨d,hd,hu,hk⟩:=hp
 obtain⟨hcd,i,c,k,l,r1,r2,r3,r4,r5,r6,r7,r8,r9⟩:=hI.bk _ d hd
 simp only[R.pkKey]at r1 r3 r5 r6 r7 r8 r9
 have hat:R.At G i k c l:=⟨r2,r4⟩
 have hti:to=(i:Int):=by
  rcases hk with ⟨_,q,_⟩|⟨_,q,_⟩|⟨_,q⟩|⟨_,q⟩|⟨_,q,_⟩|⟨_,q⟩|⟨_,q,_⟩
  ·exact absurd q hto
  ·rw[q,r1]
  ·exact absurd q hto
  ·rw[q,r1]
  ·rw[q,r1]
  ·exact absurd q hto
  ·rw[q,r1]
 subst hti
 refine⟨i,rfl,(List.getElem?_eq_some_iff.1 r2).1,?_⟩
 obtain⟨xs,x,hL,hR,hx,hx1,hla,hrs,hit⟩:=h.line hat.cl hat.ln
 have hca:=ail h hat.cl
 have hkl:=(List.getElem?_eq_some_iff.1 hat.ln).1
 have hll:=lt_of_block hL
 have e0:R.heardP G i P=if l.state≠1∨P.life≠c.life∨P.seq≠l.seq then G else if P.kind=2 then (if P.part=l.acked then R.restP (if l.acked+1<R.piecesP l.message then R.sendPieceP (R.setLine G i k {l with acked:=l.acked+1}) i k false else R.setLine G i k {l with acked:=l.acked+1}) i k else G) else if P.kind=4 then R.restP G i k else if P.kind=5 then R.resultP G i P else if P.kind=7 then R.setLine G i k {l with state:=4+P.part} else G:=by
  unfold R.heardP
  simp only
  rw[r3,hat.line,R.lifeP_some hat.cl]
 rw[e0]
 have hst:=hx1.state
 have hsq:=hx1.seq
 refine ajX w (p.cb i) (p.lb i) c.lines.length k (decide (x.state=1∧c.life=P.life∧x.seq=P.seq)) P _ hkl r3 hca.a3 (fun wa hb=>?_) (fun hb1 h2 wa hb=>?_) (fun hb1 h2 wa hb=>?_) (fun hb1 h2 wa hb=>?_) (fun hb1 h2 wa hb=>?_) (fun hno wa hb=>?_)
 ·have hl1:=lt_of_cell hca.a3
  exact ajQ wa (p.cb i) (p.lb i) c.lines.length k c.life x.state x.seq P hkl r3 ((hb.cell (p:=⟨p.cb i,1,none⟩) hl1).trans hca.a1) ((hb.cell (p:=⟨p.cb i,3,none⟩) hl1).trans hca.a3) ((hb.cell (p:=⟨p.lb i,k*10,none⟩) hll).trans hla.a0) ((hb.cell (p:=⟨p.lb i,k*10+1,none⟩) hll).trans hla.a1)
 ·have hq:=of_decide_eq_true hb1
  have h1:l.state=1:=by omega
  rw[if_neg (by omega),if_pos h2]
  have hoff:P.off=R.piecesP l.message:=by
   have hkey:R.pkKey P=⟨i,c.life,k,l.seq⟩:=by simp[R.pkKey,r1,r3,hq.2.1,←hsq,hq.2.2]
   rw[hkey]at hd
   obtain⟨d',q1,_,q3⟩:=hI.way hat h1
   rw[hd]at q1
   cases q1
   rcases hk with ⟨q,_⟩|⟨q,_,q2⟩|⟨q,_⟩|⟨q,_⟩|⟨q,_⟩|⟨q,_⟩|⟨q,_⟩
   ·omega
   ·rw[q2,q3]
   all_goals omega
  refine((h.below hb).acked hat h1 r3 hr hoff).mono ?_
  rintro e w' ⟨rfl,F',q1,q2⟩
  exact⟨rfl,F',q1,(Went.ofBelow F hb).trans q2⟩
 ·have hq:=of_decide_eq_true hb1
  have h1:l.state=1:=by omega
  rw[if_neg (by omega),if_neg (by omega),if_pos h2]
  refine((h.below hb).rest hat h1).mono ?_
  rintro e w' ⟨rfl,q1,q2⟩
  exact⟨rfl,F,q1,(Went.ofBelow F hb).trans q2⟩
 ·have hq:=of_decide_eq_true hb1
  have h1:l.state=1:=by omega
  rw[if_neg (by omega),if_neg (by omega),if_neg (by omega),if_pos h2]
  have hkey:R.pkKey P=⟨i,c.life,k,l.seq⟩:=by simp[R.pkKey,r1,r3,hq.2.1,←hsq,hq.2.2]
  rw[hkey]at hd hk
  rcases hk with ⟨q,_⟩|⟨q,_⟩|⟨q,_⟩|⟨q,_⟩|⟨_,_,e,rb,q1,q2,q3⟩|⟨q,_⟩|⟨q,_⟩
  ·omega
  ·omega
  ·omega
  ·omega
  ·refine((h.below hb).resulted (ht.below hb) hF0 hI hat h1 r3 hr hd q1 q2 q3).mono ?_
   rintro e w' ⟨rfl,F',q1,q2⟩
   exact⟨rfl,F',q1,(Went.ofBelow F hb).trans q2⟩
  ·omega
  ·omega
 ·have hq:=of_decide_eq_true hb1
  have h1:l.state=1:=by omega
  rw[if_neg (by omega),if_neg (by omega),if_neg (by omega),if_neg (by omega),if_pos h2]
  have hoff:P.off=2:=by
   rcases hk with ⟨q,_⟩|⟨q,_,q2⟩|⟨q,_⟩|⟨q,_⟩|⟨q,_⟩|⟨q,_⟩|⟨_,_,q⟩
   ·omega
   ·omega
   ·omega
   ·omega
   ·omega
   ·omega
   ·exact q
  refine((h.below hb).rejected hat h1 r3 hr hoff).mono ?_
  rintro e w' ⟨rfl,F',q1,q2⟩
  exact⟨rfl,F',q1,(Went.ofBelow F hb).trans q2⟩
 ·have hG:(if l.state≠1∨P.life≠c.life∨P.seq≠l.seq then G else if P.kind=2 then (if P.part=l.acked then R.restP (if l.acked+1<R.piecesP l.message then R.sendPieceP (R.setLine G i k {l with acked:=l.acked+1}) i k false else R.setLine G i k {l with acked:=l.acked+1}) i k else G) else if P.kind=4 then R.restP G i k else if P.kind=5 then R.resultP G i P else if P.kind=7 then R.setLine G i k {l with state:=4+P.part} else G)=G:=by
   rcases hno with q|q
   ·have hq:=of_decide_eq_false q
    rw[if_pos (by omega)]
   ·by_cases hs:l.state≠1∨P.life≠c.life∨P.seq≠l.seq
    ·rw[if_pos hs]
    ·rw[if_neg hs,if_neg (by omega),if_neg (by omega),if_neg (by omega),if_neg (by omega)]
  rw[hG]
  exact⟨F,h.below hb,Went.ofBelow F hb⟩
theorem ak8(w:World)(n:Nat)(a:Option Addr)(m c:Nat)(i:Int)(hK:w.heap[n]?=some (.cells #[.slice a m c] 113 (0,0))) :
  Calls Tryz.prog 65 #[ptr n,.int .i64 i] w fun e w'=>e=.returned (.bool (decide (0≤i∧i<(m:Int))))∧w'=w:=by
 have c1:w.cell? ⟨n,0,none⟩=some (.slice a m c):=aaa hK 0 _ rfl
 clear hK
 by_cases h0:0≤i
 ·have e:decide (0≤i∧i<(m:Int))=decide (i<(m:Int)):=by simp[h0]
  rw[e]
  go_enter Tryz.func65,Tryz.ntmps65
  go_wp2
  go_ret
  exact⟨rfl,rfl⟩
 ·have e:decide (0≤i∧i<(m:Int))=false:=by simp[h0]
  rw[e]
  go_enter Tryz.func65,Tryz.ntmps65
  go_wp2
  go_ret
  exact⟨rfl,rfl⟩
theorem amW(w:World)(n:Nat)(a:Option Addr)(m c:Nat)(i:Int)(hK:w.heap[n]?=some (.cells #[.slice a m c] 113 (0,0)))(hi:i<0∨(m:Int)≤i) :
  Calls Tryz.prog 32 #[ptr n,.int .i64 i] w fun e w'=>e=.returned (.tuple #[.int .i64 0,.string ⟨#[]⟩,.int .i64 9])∧w'=w:=by
 have H:=aab (ak8 w n a m c i hK)
 rw[show decide (0≤i∧i<(m:Int))=false by simp;omega]at H
 clear hK hi
 go_enter Tryz.func32,Tryz.ntmps32
 go_wp2_with (first|(go_at_call 65;refine(unhide H).mono ?_;rintro e w1 ⟨rfl,hw1⟩;rw[hw1];clear hw1))
 go_returns
 exact⟨rfl,rfl⟩
theorem amX(w:World)(n g:Nat)(m c:Nat)(i:Nat)(v0:Int)(v1:ByteArray)(hK:w.heap[n]?=some (.cells #[.slice (some ⟨g,0,none⟩) m c] 113 (0,0)))(hi:i<m)(h0:w.cell? ⟨g,i*3,none⟩=some (.int .i64 v0))(h1:w.cell? ⟨g,i*3+1,none⟩=some (.string v1)) :
  Calls Tryz.prog 32 #[ptr n,.int .i64 (i:Int)] w fun e w'=>e=.returned (.tuple #[.int .i64 v0,.string v1,.int .i64 0])∧Below w.heap.size w w':=by
 have H:=aab (ak8 w n (some ⟨g,0,none⟩) m c i hK)
 rw[show decide (0≤(i:Int)∧(i:Int)<(m:Int))=true by simp;omega]at H
 have c1:w.cell? ⟨n,0,none⟩=some (.slice (some ⟨g,0,none⟩) m c):=aaa hK 0 _ rfl
 have q1:(0:Int)≤(i:Int):=by omega
 have q2:(i:Int)<(m:Int):=by omega
 clear hK
 go_enter Tryz.func32,Tryz.ntmps32
 go_wp2_with (first|(go_at_call 65;refine(unhide H).mono ?_;rintro e w1 ⟨rfl,hw1⟩;rw[hw1];clear hw1))
 go_region_held3 (fun w'=>w'.cell? ⟨n,0,none⟩=some (.slice (some ⟨g,0,none⟩) m c)∧w'.cell? ⟨g,i*3,none⟩=some (.int .i64 v0)∧w'.cell? ⟨g,i*3+1,none⟩=some (.string v1)) (go_keep) (fail)
 go_wp2
 go_returns
 exact⟨rfl,(Below.refl _ _).drew⟩
theorem land_no(w:World)(n:Nat)(a:Option Addr)(m c:Nat)(i:Int)(hK:w.heap[n]?=some (.cells #[.slice a m c] 113 (0,0)))(hi:i<0∨(m:Int)≤i) :
  Calls Tryz.prog 50 #[ptr n,.int .i64 i] w fun e w'=>e=.returned (.tuple #[.int .i64 0,.string ⟨#[]⟩,.int .i64 9])∧w'=w:=by
 have H:=aab (amW w n a m c i hK hi)
 clear hK hi
 go_enter Tryz.func50,Tryz.ntmps50
 go_wp2_with (first|(go_at_call 32;refine(unhide H).mono ?_;rintro e w1 ⟨rfl,hw1⟩;rw[hw1];clear hw1))
 go_returns
 exact⟨rfl,rfl⟩
theorem aoJ(w:World)(n:Nat)(K:Value)(fl:List R.Fl)(i:Nat)(f:R.Fl)(hK:w.heap[n]?=some (.cells #[K] 113 (0,0)))(hrow:w.ownsRow 0 122 3 K fl.length (tab fcells fl))(hf:fl[i]?=some f)(h40:fl.length≤40) :
  Calls Tryz.prog 50 #[ptr n,.int .i64 (i:Int)] w fun e w'=>e=.returned (.tuple #[.int .i64 f.to,.string (str f.s),.int .i64 0])∧NetPost w n K (fl.eraseIdx i) w':=by
 have hi:=(List.getElem?_eq_some_iff.1 hf).1
 rcases hrow.2 with ⟨_,h0⟩|⟨g,cap,cur,rfl,_,hg,hcap,hmax,hsz,htk⟩
 ·omega
 have q:∀j,j<3→cur[i*3+j]?=(fcells f)[j]?:=fun j hj=>by
  rw[←acz ac8 fl i j f hf hj,←htk,List.getElem?_take,if_pos (by omega)]
  simp
 have v0:w.cell? ⟨g,i*3,none⟩=some (.int .i64 f.to):=by
  have:=q 0 (by omega)
  simp[World.cell?,hg]
  simpa [fcells] using this
 have v1:w.cell? ⟨g,i*3+1,none⟩=some (.string (str f.s)):=by
  have:=q 1 (by omega)
  simp[World.cell?,hg]
  simpa [fcells] using this
 have hng:n≠g:=ne_tag hK hg (by decide)
 have H:=aab (amX w n g fl.length cap i f.to (str f.s) hK hi v0 v1)
 have HD:Hid (∀w',Below w.heap.size w w'→Calls Tryz.prog 84 #[.slice (some ⟨g,0,none⟩) fl.length cap,.int .i64 (i:Int),.int .i64 ((i:Int)+1)] w' fun e w''=>e=.returned (.slice (some ⟨g,0,none⟩) (fl.length-1) cap)∧w''.heap[n]?=some (.cells #[.slice (some ⟨g,0,none⟩) fl.length cap] 113 (0,0))∧NetPost w n (.slice (some ⟨g,0,none⟩) fl.length cap) (fl.eraseIdx i) (w''.setCell ⟨n,0,none⟩ (.slice (some ⟨g,0,none⟩) (fl.length-1) cap))):=fun w' hb=>by
  refine(ao8 w' g fl.length cap i cur fl ((hb.block g (Array.getElem?_eq_some_iff.1 hg).1).trans hg) rfl hcap hmax hsz htk hi).mono ?_
  rintro e w'' ⟨rfl,⟨cur',k1,k2,k3⟩,hk⟩
  have hK':w''.heap[n]?=some (.cells #[.slice (some ⟨g,0,none⟩) fl.length cap] 113 (0,0)):=by
   have:=(hb.block n (Array.getElem?_eq_some_iff.1 hK).1).trans hK
   exact hk.at this hng
  have hlen:(fl.eraseIdx i).length=fl.length-1:=by rw[List.length_eraseIdx,if_pos hi]
  refine⟨rfl,hK',⟨⟨.slice (some ⟨g,0,none⟩) (fl.length-1) cap,?_,?_,Or.inl rfl⟩,?_⟩⟩
  ·exact aad (cs:=[.slice (some ⟨g,0,none⟩) fl.length cap]) (off:=0) hK' _
  ·refine⟨?_,Or.inr ⟨g,cap,cur',by rw[hlen],Nat.zero_le _,?_,by rw[hlen];omega,hmax,k2,by rw[hlen];exact k3⟩⟩
   ·rw[ac1 ac8,Nat.mul_comm]
   ·rw[Below.heap_setCell _ _ _ _ (fun e=>hng e.symm)]
    exact k1
  ·have hk0:Keeps (fun k=>k=n∨(Value.slice (some ⟨g,0,none⟩) fl.length cap).ownBlock=some k) w w'':=(Keeps.ofBelow hb _).trans (hk.mono (fun k _ e=>Or.inr (by rw[e];rfl)))
   exact hk0.setCell (p:=⟨n,0,none⟩) (Or.inl (Or.inl rfl)) _
 have c1:w.cell? ⟨n,0,none⟩=some (.slice (some ⟨g,0,none⟩) fl.length cap):=aaa hK 0 _ rfl
 have hln:=lt_of_block hK
 have e1:IntKind.i64.wrap ((i:Int)+1)=(i:Int)+1:=by rw[IntKind.wrap_i64];omega
 generalize NetPost w n (.slice (some ⟨g,0,none⟩) fl.length cap) (fl.eraseIdx i)=Post at *
 generalize str f.s=SF at *
 generalize fl.length-1=L1 at *
 generalize fl.length=L0 at *
 clear q hK hrow hf hg hsz htk v0 v1
 go_enter Tryz.func50,Tryz.ntmps50
 go_wp2_with fail
 refine(unhide H).mono ?_
 rintro e w1 ⟨rfl,hb1⟩
 have HC:=aab ((unhide HD) w1 hb1)
 have d1:w1.cell? ⟨n,0,none⟩=some (.slice (some ⟨g,0,none⟩) L0 cap):=(hb1.cell (p:=⟨n,0,none⟩) hln).trans c1
 clear hb1
 go_wp2_with fail
 refine(unhide HC).mono ?_
 rintro e w2 ⟨rfl,hK2,hpost⟩
 have d2:w2.cell? ⟨n,0,none⟩=some (.slice (some ⟨g,0,none⟩) L0 cap):=aaa hK2 0 _ rfl
 have z2:w2.frozen? ⟨n,0,none⟩=false:=aac hK2
 have hl2:=lt_of_block hK2
 have HP:=aab hpost
 clear hK2 hpost
 go_wp2
 go_returns
 exact⟨rfl,unhide HP⟩
theorem R.Wf.flyTurn{G:R.Wd}(h:R.Wf G){fl:List R.Fl}(h1:fl.length≤40)(h2:∀f∈fl,f.s.length≤21):R.Wf {G with flying:=fl}:=⟨h.cf,h.ncl,fun j c hc=>⟨(h.cl j c hc).lines,(h.cl j c hc).life,(h.cl j c hc).bound,(h.cl j c hc).line⟩,h1,h2,h.sv,h.svk,h.nm,h.st,h.nd,h.sts⟩
theorem R.Wf.erase{G:R.Wd}(h:R.Wf G)(k:Nat):R.Wf {G with flying:=G.flying.eraseIdx k}:=R.Wf.flyTurn h (by
 have:=List.length_eraseIdx_le (l:=G.flying) (i:=k)
 have:=h.fly
 omega) (fun f hf=>h.flys f (List.mem_of_mem_eraseIdx hf))
theorem LW.land{p:Pl}{F:aai}{G:R.Wd}{w:World}(h:LW p F G w){i:Nat}{f:R.Fl}(hf:G.flying[i]?=some f) :
  Calls Tryz.prog 50 #[ptr p.n,.int .i64 (i:Int)] w fun e w'=>e=.returned (.tuple #[.int .i64 f.to,.string (str f.s),.int .i64 0])∧∃F',LW p F' {G with flying:=G.flying.eraseIdx i} w'∧Went F F' w w':=by
 obtain⟨K,hK,hrow,hF⟩:=h.bn
 refine(aoJ w p.n K G.flying i f hK hrow hf h.wf.fly).mono ?_
 rintro e w' ⟨rfl,hn⟩
 exact⟨rfl,h.net hK hrow hn hF (R.Wf.erase h.wf i)⟩
theorem LW.land_no{p:Pl}{F:aai}{G:R.Wd}{w:World}(h:LW p F G w){i:Int}(hi:R.off G i):Calls Tryz.prog 50 #[ptr p.n,.int .i64 i] w fun e w'=>e=.returned (.tuple #[.int .i64 0,.string ⟨#[]⟩,.int .i64 9])∧w'=w:=by
 obtain⟨K,hK,hrow,hF⟩:=h.bn
 obtain⟨a,c,rfl⟩:=aas hrow
 exact YtblomippkddgiaaGreatDoor.land_no w p.n a G.flying.length c i hK hi
theorem R.on_at{G:R.Wd}{i:Int}(h:¬R.off G i):∃(k:Nat) (f:R.Fl),i=(k:Int)∧G.flying[k]?=some f:=by
 unfold R.off at h
 have hl:i.toNat<G.flying.length:=by omega
 exact⟨i.toNat,G.flying[i.toNat],by omega,List.getElem?_eq_getElem hl⟩
theorem LW.drop{p:Pl}{F:aai}{G:R.Wd}{w:World}(h:LW p F G w)(i:Int):Calls Tryz.prog 23 #[ptr p.x,.int .i64 i] w fun e w'=>e=.returned (.int .i64 (R.dropP G i).1)∧∃F',LW p F' (R.dropP G i).2 w'∧Went F F' w w':=by
 have c0:w.cell? ⟨p.x,0,none⟩=some (ptr p.n):=aaa h.bx 0 _ rfl
 unfold R.dropP
 by_cases hi:R.off G i
 ·rw[if_pos hi]
  have H:=aab (h.land_no hi)
  have HE:Hid (∃F',LW p F' G w∧Went F F' w w):=⟨F,h,Went.refl F w⟩
  generalize p.n=n at *
  clear h hi
  go_enter Tryz.func23,Tryz.ntmps23
  go_wp2_with (first|(go_at_call 49;go_in)|(go_at_call 50;refine(unhide H).mono ?_;rintro e w1 ⟨rfl,hw1⟩;rw[hw1];clear hw1))
  go_returns
  exact⟨rfl,unhide HE⟩
 ·rw[if_neg hi]
  obtain⟨k,f,rfl,hf⟩:=R.on_at hi
  rw[Int.toNat_natCast]
  have H:=aab (h.land hf)
  generalize str f.s=SF at *
  clear h hi hf
  go_enter Tryz.func23,Tryz.ntmps23
  go_wp2_with (first|(go_at_call 49;go_in)|(go_at_call 50;refine(unhide H).mono ?_;rintro e w1 ⟨rfl,hw1⟩))
  go_returns
  exact⟨rfl,hw1⟩
theorem arl:∀args w,(callFunc 85 args).run Tryz.prog w=.ok (.enter 85 args) w:=fun _ _=>rfl
theorem ark:∀args w,(callFunc 86 args).run Tryz.prog w=.ok (.enter 86 args) w:=fun _ _=>rfl
theorem ahi(w:World)(x s:Nat)(P:Pk)(Post:World→Prop)(x1:w.cell? ⟨x,1,none⟩=some (ptr s))
  (HQ:Hid (∀wa,Below w.heap.size w wa→Calls Tryz.prog 85 #[ptr s,pv P] wa fun e w'=>e=.returned (.tuple #[])∧Post w')) :
  Calls Tryz.prog 51 #[ptr x,.int .i64 (-1),pv P] w fun e w'=>e=.returned (.tuple #[])∧Post w':=by
 have HB:Hid (∀o,Below w.heap.size w (w.alloc o).drew):=fun o=>((Below.refl _ _).alloc (Nat.le_refl _) _).drew
 have hl:=lt_of_cell x1
 go_enter Tryz.func51,Tryz.ntmps51
 go_wp2_with fail
 go_region_law (refine aak rfl 85 #[.tmp 11,.tmp 12] #[81,41] rfl arl #[ptr s,pv P] rfl _ ((unhide HQ) _ ((unhide HB) _)) ?_;rintro e w3 ⟨rfl,hw3⟩;refine⟨_,rfl,?_⟩)
 all_goals
  go_wp2
  go_returns
  exact⟨rfl,hw3⟩
theorem ahj(w:World)(x cs i n cap cb:Nat)(P:Pk)(Post:World→Prop)(x2:w.cell? ⟨x,2,none⟩=some (.slice (some ⟨cs,0,none⟩) n cap))(hi:i<n)(hc:w.cell? ⟨cs,i,none⟩=some (ptr cb))
  (HQ:Hid (∀wa,Below w.heap.size w wa→Calls Tryz.prog 86 #[ptr cb,pv P] wa fun e w'=>e=.returned (.tuple #[])∧Post w')) :
  Calls Tryz.prog 51 #[ptr x,.int .i64 (i:Int),pv P] w fun e w'=>e=.returned (.tuple #[])∧Post w':=by
 have HB:Hid (∀o,Below w.heap.size w (w.alloc o).drew):=fun o=>((Below.refl _ _).alloc (Nat.le_refl _) _).drew
 have hl:=lt_of_cell x2
 have hl2:=lt_of_cell hc
 have q1:(0:Int)≤(i:Int):=by omega
 have q2:(i:Int)<(n:Int):=by omega
 have e1:((i:Int)==-1)=false:=by simp
 go_enter Tryz.func51,Tryz.ntmps51
 go_wp2_with fail
 go_region_law (refine aak rfl 86 #[.tmp 20,.tmp 21] #[89,41] rfl ark #[ptr cb,pv P] rfl _ ((unhide HQ) _ ((unhide HB) _)) ?_;rintro e w3 ⟨rfl,hw3⟩;refine⟨_,rfl,?_⟩)
 all_goals
  go_wp2
  go_returns
  exact⟨rfl,hw3⟩
theorem aju(w:World)(x n:Nat)(i:Int)(x0:w.cell? ⟨x,0,none⟩=some (ptr n))
  (H50:Hid (Calls Tryz.prog 50 #[ptr n,.int .i64 i] w fun e w'=>e=.returned (.tuple #[.int .i64 0,.string ⟨#[]⟩,.int .i64 9])∧w'=w)) :
  Calls Tryz.prog 24 #[ptr x,.int .i64 i] w fun e w'=>e=.returned (.int .i64 9)∧w'=w:=by
 go_enter Tryz.func24,Tryz.ntmps24
 go_wp2_with (first|(go_at_call 50;refine(unhide H50).mono ?_;rintro e w1 ⟨rfl,hw1⟩;rw[hw1];clear hw1))
 go_returns
 exact⟨rfl,rfl⟩
theorem ahu(w:World)(x n:Nat)(i to:Int)(S:ByteArray)(A Post:World→Prop)(x0:w.cell? ⟨x,0,none⟩=some (ptr n))
  (H50:Hid (Calls Tryz.prog 50 #[ptr n,.int .i64 i] w fun e w'=>e=.returned (.tuple #[.int .i64 to,.string S,.int .i64 0])∧A w'))
  (HO:Hid (∀w1,A w1→Calls Tryz.prog 14 #[.string S] w1 fun e w'=>e=.returned (.tuple #[an5,.int .i64 7])∧Below w1.heap.size w1 w'))
  (HP:Hid (∀w1 wa,A w1→Below w1.heap.size w1 wa→Post wa)) :
  Calls Tryz.prog 24 #[ptr x,.int .i64 i] w fun e w'=>e=.returned (.int .i64 0)∧Post w':=by
 go_enter Tryz.func24,Tryz.ntmps24
 go_wp2_with (first|(go_at_call 50;refine(unhide H50).mono ?_;rintro e w1 ⟨rfl,hw1⟩;have HA:=aab hw1;clear hw1)|(go_at_call 14;refine((unhide HO) _ (unhide HA)).mono ?_;rintro e w2 ⟨rfl,hw2⟩;have HB2:=aab hw2;clear hw2))
 go_returns
 exact⟨rfl,(unhide HP) _ _ (unhide HA) ((unhide HB2).alloc (unhide HB2).size _)⟩
theorem agh(w:World)(x n:Nat)(i to:Int)(S:ByteArray)(P:Pk)(A Post:World→Prop)(x0:w.cell? ⟨x,0,none⟩=some (ptr n))
  (H50:Hid (Calls Tryz.prog 50 #[ptr n,.int .i64 i] w fun e w'=>e=.returned (.tuple #[.int .i64 to,.string S,.int .i64 0])∧A w'))
  (HO:Hid (∀w1,A w1→Calls Tryz.prog 14 #[.string S] w1 fun e w'=>e=.returned (.tuple #[pv P,.int .i64 0])∧Below w1.heap.size w1 w'))
  (HP:Hid (∀w1 wa,A w1→Below w1.heap.size w1 wa→Calls Tryz.prog 51 #[ptr x,.int .i64 to,pv P] wa fun e w'=>e=.returned (.tuple #[])∧Post w')) :
  Calls Tryz.prog 24 #[ptr x,.int .i64 i] w fun e w'=>e=.returned (.int .i64 0)∧Post w':=by
 go_enter Tryz.func24,Tryz.ntmps24
 go_wp2_with (first|(go_at_call 50;refine(unhide H50).mono ?_;rintro e w1 ⟨rfl,hw1⟩;have HA:=aab hw1;clear hw1)|(go_at_call 14;refine((unhide HO) _ (unhide HA)).mono ?_;rintro e w2 ⟨rfl,hw2⟩;have HB2:=aab hw2;clear hw2)|(go_at_call 51;refine((unhide HP) _ _ (unhide HA) ((unhide HB2).alloc (unhide HB2).size _)).mono ?_;rintro e w3 ⟨rfl,hw3⟩))
 go_returns
 exact⟨rfl,hw3⟩
theorem LW.deliver{p:Pl}{F:aai}{G:R.Wd}{w:World}(h:LW p F G w)(ht:acG w)(hF0:¬F 0){M:R.Bk}(hI:R.Inv M G)(hroom:R.Room G)(i:Int) :
  Calls Tryz.prog 24 #[ptr p.x,.int .i64 i] w fun e w'=>e=.returned (.int .i64 (R.deliverP G i).1)∧LWt p F w (R.deliverP G i).2 w':=by
 have x0:=aaa h.bx 0 _ rfl
 by_cases ho:R.off G i
 ·have e0:R.deliverP G i=(9,G):=by
   unfold R.deliverP
   rw[if_pos ho]
  rw[e0]
  refine(aju w p.x p.n i x0 (h.land_no ho)).mono ?_
  rintro e w' ⟨rfl,rfl⟩
  exact⟨rfl,LWt.of h (Went.refl F w')⟩
 ·unfold R.off at ho
  obtain⟨n,rfl⟩:∃n:Nat,i=(n:Int):=⟨i.toNat,by omega⟩
  have hn:n<G.flying.length:=by omega
  obtain⟨f,hf⟩:∃f,G.flying[n]?=some f:=⟨_,List.getElem?_eq_getElem hn⟩
  have hfo:=hI.fl f (List.mem_of_getElem? hf)
  have hI1:=hI.erase n
  have hroom1:R.Room {G with flying:=G.flying.eraseIdx n}:=hroom.same rfl rfl
  have e0:R.deliverP G (n:Int)=(0,if f.bent=true then {G with flying:=G.flying.eraseIdx n} else match abn f.s with
   |none=>{G with flying:=G.flying.eraseIdx n}
   |some p=>if f.to=-1 then R.askedP {G with flying:=G.flying.eraseIdx n} p else R.heardP {G with flying:=G.flying.eraseIdx n} f.to p):=by
   unfold R.deliverP
   rw[if_neg (by unfold R.off;exact ho)]
   simp only[Int.toNat_natCast]
   rw[hf]
   rfl
  have hlen:f.s.length≤1000:=by
   have:=h.wf.flys f (List.mem_of_getElem? hf)
   omega
  have hland:=h.land hf
  rw[e0]
  unfold R.FlOk at hfo
  cases hb:f.bent with
  |true=>
   rw[hb,if_pos rfl]at hfo
   simp only[if_true]
   refine ahu w p.x p.n n f.to (str f.s) (fun w1=>∃F',LW p F' {G with flying:=G.flying.eraseIdx n} w1∧Went F F' w w1) _ x0 hland (fun w1 _=>akH f.s hfo hlen w1) ?_
   rintro w1 wa ⟨F',q1,q2⟩ hba
   exact LWt.of (q1.below hba) (q2.trans (Went.ofBelow F' hba))
  |false=>
   rw[hb,if_neg (by simp)]at hfo
   obtain⟨P,hr,hs,hpk⟩:=hfo
   simp only[if_neg (show ¬(false:Bool)=true by simp)]
   rw[hs,acl hr]
   rw[hs]at hland
   refine agh w p.x p.n n f.to (str (aa3 P)) P (fun w1=>∃F',LW p F' {G with flying:=G.flying.eraseIdx n} w1∧Went F F' w w1) _ x0 hland (fun w1 _=>ai0 P hr w1) ?_
   rintro w1 wa ⟨F',q1,q2⟩ hba
   have hL:=q1.below hba
   have hW:=q2.trans (Went.ofBelow F' hba)
   have hT1:acG wa:=ht.keeps hW.keeps hF0
   have hF1:¬F' 0:=fun q=>by
    rcases hW.fresh 0 q with q|q
    ·exact hF0 q
    ·obtain⟨_,_,hg⟩:=ht
     have:=(Array.getElem?_eq_some_iff.1 hg).1
     omega
   simp only
   by_cases hto:f.to=-1
   ·rw[if_pos hto,hto]
    rw[hto]at hpk
    refine ahi wa p.x p.s P _ (aaa hL.bx 1 _ rfl) (fun wb hbb=>?_)
    refine((hL.below hbb).askedS hI1 hroom1 hr hpk).mono ?_
    rintro e w' ⟨rfl,t,F2,m1,m2⟩
    exact⟨rfl,t,F2,m1,(hW.trans (Went.ofBelow F' hbb)).trans m2⟩
   ·rw[if_neg hto]
    have hH:∀wb,Below wa.heap.size wa wb→_:=fun wb hbb=>(hL.below hbb).heard (hT1.below hbb) hF1 hI1 hr hto hpk
    obtain⟨j,hj,hjl,_⟩:=hH wa (Below.refl _ _)
    rw[hj]
    have hcs:=hL.csAt hjl
    refine ahj wa p.x p.cs j _ p.cap (p.cb j) P _ (aaa hL.bx 2 _ rfl) hjl hcs (fun wb hbb=>?_)
    obtain⟨j',hj',_,hc⟩:=hH wb hbb
    have:j'=j:=by omega
    subst this
    refine hc.mono ?_
    rintro e w' ⟨rfl,F2,m1,m2⟩
    rw[hj]at m1
    exact⟨rfl,LWt.of m1 ((hW.trans (Went.ofBelow F' hbb)).trans m2)⟩
structure Agree(c:R.Cf)(s:RS)(M:R.Bk)(G:R.Wd):Prop where
 inv:R.Inv M G
 room:R.Room G
 cf:G.c=c
 life:s.life=G.clients.map (·.life)
 sql:s.seq.length=3*G.clients.length
 seq:∀(i:Nat) (cl:R.Cl) (k:Nat) (l:R.Ln),G.clients[i]?=some cl→cl.lines[k]?=some l→s.seq[3*i+k]?=some l.seq
 ul:s.uid.length=3
 uid:∀k,k<3→∃u,s.uid[k]?=some u∧aar G (aaW k)=some u∧aan G u=(k:Int)
 bound:∀(i:Nat) (cl:R.Cl) (u:Int),G.clients[i]?=some cl→u∈s.uid→u∈cl.bound
 nu:s.nu=(G.services.length:Int)
 kinds:s.kinds=G.services.map (·.kind)
 dl:s.dead.length=G.services.length
 dead:∀(u:Nat) (n:Int) (sv:R.Sv),s.dead[u]?=some n→G.services[u]?=some sv→0≤n→sv.alive=false∧(sv.log.length:Int)=n
 book:Booked (s.made.map (·.1)) M
theorem Booked.len{ms:List Mk}{M:R.Bk}{G:R.Wd}(h:Booked ms M)(hI:R.Inv M G):ms.length≤3000000:=by
 have hb:∀m∈ms,(0≤m.client∧m.client≤2)∧(1≤m.life∧m.life≤255)∧(0≤m.line∧m.line≤2)∧1≤m.seq∧m.seq≤999:=fun m hm=>by
  obtain⟨d,hd⟩:=h.all m hm
  obtain⟨i,c,k,l,q1,q2,q3,q4,q5,q6,q7,q8,_⟩:=(hI.bk _ d hd).2
  have hi:=(List.getElem?_eq_some_iff.1 q2).1
  have hk:=(List.getElem?_eq_some_iff.1 q4).1
  have hc:=hI.wf.cl i c q2
  have hcf:=hI.wf.cf
  unfold R.okCf at hcf
  have h1:=hI.wf.ncl
  have h2:=hc.lines
  have h3:=hc.life
  simp only[Mk.key]at q1 q3 q5 q6 q7 q8
  omega
 have hnd:(ms.map fun (m:Mk)=>((m.client.toNat*256+m.life.toNat)*3+m.line.toNat)*1000+m.seq.toNat).Nodup:=by
  rw[List.Nodup,List.pairwise_map]
  refine h.ord.imp_of_mem (fun {a b} ha hb' hab e=>?_)
  have h1:=hb a ha
  have h2:=hb b hb'
  have h3:=hab (by omega) (by omega) (by omega)
  omega
 have:=R.nodup_below 2400000 _ hnd (fun x hx=>by
  obtain⟨m,hm,rfl⟩:=List.mem_map.1 hx
  have:=hb m hm
  omega)
 rw[List.length_map]at this
 omega
theorem Agree.ml{c:R.Cf}{s:RS}{M:R.Bk}{G:R.Wd}(h:Agree c s M G):s.made.length≤3000000:=by
 have:=h.book.len h.inv
 rwa [List.length_map]at this
theorem Agree.res{c:R.Cf}{s:RS}{M:R.Bk}{G:R.Wd}(h:Agree c s M G):∀(i:Nat) (c:R.Cl) (k:Nat) (l:R.Ln),G.clients[i]?=some c→c.lines[k]?=some l→l.result.length≤1000:=fun i c k l hc hl=>by
 have hL:=h.inv.ln i c k l hc hl
 by_cases h2:l.state=2
 ·obtain⟨d,e,rb,_,h4,h5⟩:=hL.done h2
  have:=acp h4.bytes
  rw[h5]
  omega
 ·rw[hL.none h2]
  simp
theorem Agree.argl{c:R.Cf}{s:RS}{M:R.Bk}{G:R.Wd}(h:Agree c s M G):∀y∈allLog G.services,y.arg.length≤1000:=fun y hy=>by
 obtain⟨u,sv,hs,he⟩:=akQ hy
 obtain⟨d,h1,_,_,h4⟩:=afv h.inv hs he
 have:=acp (h.inv.bk _ d h1).1.bs
 rw[h4]
 omega
theorem Both.step{w0:World}{q:RP}{p:Pl}{c:R.Cf}{s:RS}{G G':R.Wd}{w:World}{f:Nat}{args:Array Value}{P:Ending→Prop}(h:Both w0 q p c s G w)(H:∀(p':Pl) (F:aai),p'.x=q.x→LW p' F G w→¬F 0→Calls Tryz.prog f args w fun e w'=>P e∧LWt p' F w G' w') :
  Calls Tryz.prog f args w fun e w'=>P e∧Both w0 q p c s G' w':=by
 obtain⟨t,E,F,hr,hw,hd,hlo⟩:=h.run
 refine(H {p with t:=t} F h.x.symm hw (fun h0=>by have:=hlo 0 (Or.inr h0);have:=h.pos;omega)).mono ?_
 rintro e w' ⟨h1,t',F',h2,h3⟩
 exact⟨h1,h.world (t:=t') hr hd hlo h2 h3⟩
theorem LWt.ofEx{p:Pl}{F:aai}{w:World}{G:R.Wd}{w':World}(h:∃F',LW p F' G w'∧Went F F' w w'):LWt p F w G w':=by
 obtain⟨F',h1,h2⟩:=h
 exact⟨p.t,F',h1,h2⟩
theorem Both.tickW{w0:World}{q:RP}{p:Pl}{c:R.Cf}{s:RS}{G:R.Wd}{w:World}(h:Both w0 q p c s G w):Calls Tryz.prog 15 #[ptr q.x] w fun e w'=>e=.returned (.tuple #[])∧Both w0 q p c s (R.tickP G) w':=
 h.step (P:=fun e=>e=.returned (.tuple #[])) (fun p' F hx hw _=>by rw[←hx];exact hw.tick.mono (fun e w' q=>⟨q.1,LWt.ofEx q.2⟩))
theorem Both.serveW{w0:World}{q:RP}{p:Pl}{c:R.Cf}{s:RS}{G:R.Wd}{w:World}(h:Both w0 q p c s G w){M:R.Bk}(hI:R.Inv M G):Calls Tryz.prog 22 #[ptr q.x] w fun e w'=>e=.returned (.int .i64 (R.serveP G).1)∧Both w0 q p c s (R.serveP G).2 w':=
 h.step (P:=fun e=>e=.returned (.int .i64 (R.serveP G).1)) (fun p' F hx hw h0=>by rw[←hx];exact hw.serves h.t0 h0 hI)
theorem Both.dropW{w0:World}{q:RP}{p:Pl}{c:R.Cf}{s:RS}{G:R.Wd}{w:World}(h:Both w0 q p c s G w)(i:Int):Calls Tryz.prog 23 #[ptr q.x,.int .i64 i] w fun e w'=>e=.returned (.int .i64 (R.dropP G i).1)∧Both w0 q p c s (R.dropP G i).2 w':=
 h.step (P:=fun e=>e=.returned (.int .i64 (R.dropP G i).1)) (fun p' F hx hw _=>by rw[←hx];exact(hw.drop i).mono (fun e w' q=>⟨q.1,LWt.ofEx q.2⟩))
theorem Both.deliverW{w0:World}{q:RP}{p:Pl}{c:R.Cf}{s:RS}{G:R.Wd}{w:World}(h:Both w0 q p c s G w){M:R.Bk}(hI:R.Inv M G)(hR:R.Room G)(i:Int):Calls Tryz.prog 24 #[ptr q.x,.int .i64 i] w fun e w'=>e=.returned (.int .i64 (R.deliverP G i).1)∧Both w0 q p c s (R.deliverP G i).2 w':=
 h.step (P:=fun e=>e=.returned (.int .i64 (R.deliverP G i).1)) (fun p' F hx hw h0=>by rw[←hx];exact hw.deliver h.t0 h0 hI hR i)
theorem Both.flyW{w0:World}{q:RP}{p:Pl}{c:R.Cf}{s:RS}{G:R.Wd}{w:World}(h:Both w0 q p c s G w):Calls Tryz.prog 17 #[ptr q.x] w fun e w'=>e=.returned (.int .i64 (G.flying.length:Int))∧w'=w:=by
 obtain⟨tp,E,F,a1,a2,a3,a4⟩:=h.run
 rw[h.x]
 exact a2.flying
theorem Both.statW{w0:World}{q:RP}{p:Pl}{c:R.Cf}{s:RS}{G:R.Wd}{w:World}(h:Both w0 q p c s G w){M:R.Bk}(hA:Agree c s M G){i k:Nat}{cl:R.Cl}{l:R.Ln}(hc:G.clients[i]?=some cl)(hl:cl.lines[k]?=some l) :
  Calls Tryz.prog 16 #[ptr q.x,.int .i64 (i:Int),.int .i64 (k:Int)] w fun e w'=>(∃oa on oc,e=.returned (.tuple #[.agg #[.int .i64 l.state,.int .i64 l.seq,.slice oa on oc],.int .i64 0])∧V.Items w' (.slice oa on oc) l.result)∧Below w.heap.size w w':=by
 obtain⟨tp,E,F,a1,a2,a3,a4⟩:=h.run
 have hi:=(List.getElem?_eq_some_iff.1 hc).1
 have hk:=(List.getElem?_eq_some_iff.1 hl).1
 have hln:=(hA.inv.wf.cl i cl hc).lines
 have hst:R.statusP G i k=(l.state,l.seq,l.result,0):=by
  unfold R.statusP
  rw[if_neg (by omega),if_neg (by omega),R.lineP_some hc hl]
 have:=a2.status hA.res (i:Int) (k:Int)
 rw[hst]at this
 rw[h.x]
 refine this.mono ?_
 rintro e w' ⟨⟨O,rfl,hR⟩,hb⟩
 have hit:=ad0 hR
 obtain⟨oa,on,oc,rfl⟩:=abu hit
 exact⟨⟨oa,on,oc,rfl,hit⟩,hb⟩
theorem Both.logW{w0:World}{q:RP}{p:Pl}{c:R.Cf}{s:RS}{G:R.Wd}{w:World}(h:Both w0 q p c s G w){u:Nat}{sv:R.Sv}(hs:G.services[u]?=some sv) :
  Calls Tryz.prog 44 #[ptr q.x,.int .i64 ((u:Int)+1)] w fun e w'=>e=.returned (.tuple #[.int .i64 (sv.log.length:Int),.int .i64 0])∧Below w.heap.size w w':=by
 obtain⟨tp,E,F,a1,a2,a3,a4⟩:=h.run
 have hu:=(List.getElem?_eq_some_iff.1 hs).1
 have hlp:R.logP G ((u:Int)+1)=((sv.log.length:Int),0):=by
  unfold R.logP R.logOf
  rw[if_pos (by unfold R.madeP;omega),show ((u:Int)+1-1).toNat=u by omega,hs]
  rfl
 have:=a2.log ((u:Int)+1)
 rw[hlp]at this
 rw[h.x]
 exact this
theorem Both.entryW{w0:World}{q:RP}{p:Pl}{c:R.Cf}{s:RS}{G:R.Wd}{w:World}(h:Both w0 q p c s G w){M:R.Bk}(hI:R.Inv M G){u i:Nat}{sv:R.Sv}{y:R.En}(hs:G.services[u]?=some sv)(hy:sv.log[i]?=some y) :
  Calls Tryz.prog 45 #[ptr q.x,.int .i64 ((u:Int)+1),.int .i64 (i:Int)] w fun e w'=>(∃xa xn xc ya yn yc,e=.returned (.tuple #[.agg #[.int .i64 y.client,.int .i64 y.life,.int .i64 y.line,.int .i64 y.seq,.int .i64 y.proc,.slice xa xn xc,.slice ya yn yc],.int .i64 0])∧V.Items w' (.slice xa xn xc) y.arg∧V.Items w' (.slice ya yn yc) y.result)∧Below w.heap.size w w':=by
 obtain⟨tp,E,F,a1,a2,a3,a4⟩:=h.run
 have hu:=(List.getElem?_eq_some_iff.1 hs).1
 have hen:R.entryAtP G ((u:Int)+1) (i:Int)=some y:=by
  unfold R.entryAtP R.logOf
  rw[if_pos (by unfold R.madeP;omega),show ((u:Int)+1-1).toNat=u by omega,hs]
  simpa using hy
 have:=a2.entry hI ((u:Int)+1) (i:Int)
 rw[hen]at this
 rw[h.x]
 refine this.mono ?_
 rintro e w' ⟨⟨X,Y,rfl,r1,r2⟩,hb⟩
 have i1:=ad0 r1
 have i2:=ad0 r2
 obtain⟨xa,xn,xc,rfl⟩:=abu i1
 obtain⟨ya,yn,yc,rfl⟩:=abu i2
 exact⟨⟨xa,xn,xc,ya,yn,yc,rfl,i1,i2⟩,hb⟩
theorem app(i k:Nat)(hi:i<3)(hk:k<3):IntKind.i64.wrap (3*(i:Int))=3*(i:Int)∧IntKind.i64.wrap (3*(i:Int)+(k:Int))=((3*i+k:Nat):Int):=by
 rw[IntKind.wrap_i64,IntKind.wrap_i64]
 omega
theorem Both.lookedW{w0:World}{q:RP}{p:Pl}{c:R.Cf}{s:RS}{G:R.Wd}{w:World}(h:Both w0 q p c s G w){M:R.Bk}(hA:Agree c s M G){i k:Nat}{cl:R.Cl}{l:R.Ln}(hc:G.clients[i]?=some cl)(hl:cl.lines[k]?=some l) :
  Calls Tryz.prog 20 #[ptr q.r,.int .i64 (i:Int),.int .i64 (k:Int)] w fun e w'=>e=.returned (.bool true)∧Below w.heap.size w w':=by
 have hcs:=h.cells
 have hi:=(List.getElem?_eq_some_iff.1 hc).1
 have hk:=(List.getElem?_eq_some_iff.1 hl).1
 have hcf:=hA.inv.wf.cf
 unfold R.okCf at hcf
 have hncl:=hA.inv.wf.ncl
 have hln:=(hA.inv.wf.cl i cl hc).lines
 have hsq:=hA.seq i cl k l hc hl
 have hlf:s.life[i]?=some cl.life:=by rw[hA.life];simp[hc]
 have hsl:=(List.getElem?_eq_some_iff.1 hsq).1
 have hll:=(List.getElem?_eq_some_iff.1 hlf).1
 obtain⟨e3,e4⟩:=app i k (by omega) (by omega)
 have hL:=hA.inv.ln i cl k l hc hl
 have hR:RunAt w q.r q.x q.lf q.sq s.life.length s.seq.length i (3*i+k) (G.services.length:Int) cl.life l.seq:=⟨hcs.a0,hcs.a6,hcs.a7,by rw[←hA.nu];exact hcs.a10,hcs.lf i _ hlf,hcs.sq _ _ hsq⟩
 by_cases h2:l.state=2
 ·obtain⟨o1,o2⟩:=alj hA.inv hc hl h2
  refine ahb w q.r q.x q.lf q.sq s.life.length s.seq.length i k (3*i+k) cl.life l.seq G.services l.result hR hsl hll e3 e4 (fun e=>?_) hA.inv.wf.sv ?_ (hA.res i cl k l hc hl) o1 o2 ?_ (fun wr u sv hb hs=>(h.still hb).logW hs) (fun wr u j sv y hb hs hy=>?_)
  ·have:=hL.idle.2 e
   omega
  ·intro sv hs
   obtain⟨u,hu,rfl⟩:=List.getElem_of_mem hs
   exact hA.inv.log_len (List.getElem?_eq_getElem hu)
  ·have:=h.statW hA hc hl
   rw[h2]at this
   exact this
  ·refine((h.still hb).entryW hA.inv hs hy).mono ?_
   rintro e w' ⟨⟨xa,xn,xc,ya,yn,yc,r1,r2,r3⟩,r4⟩
   exact⟨⟨xa,xn,xc,ya,yn,yc,r1,r3⟩,r4⟩
 ·refine ai4 w q.r q.x q.lf q.sq s.life.length s.seq.length i k (3*i+k) _ cl.life l.seq l.state hR hsl e3 e4 h2 hL.idle ?_
  refine(h.statW hA hc hl).mono ?_
  rintro e w' ⟨⟨oa,on,oc,rfl,r2⟩,r3⟩
  rw[hL.none h2]at r2
  obtain⟨a,cc,r4,_⟩:=r2
  cases r4
  exact⟨⟨oa,oc,rfl⟩,r3⟩
theorem anR{w:World}{B n size:Nat}{e:TypeId}{v:Value}{xs:List Value}(h:w.ownsRow B e size v n xs)(hn:0<n):∃g cap,v=.slice (some ⟨g,0,none⟩) n cap∧∀j u,xs[j]?=some u→w.cell? ⟨g,j,none⟩=some u:=by
 rcases h.2 with ⟨_,h0⟩|⟨g,cap,cur,rfl,_,hg,_,_,_,htk⟩
 ·omega
 ·refine⟨g,cap,rfl,fun j u hj=>?_⟩
  have:cur[j]?=some u:=by
   rw[←htk,List.getElem?_take]at hj
   split at hj
   ·simpa using hj
   ·cases hj
  simp[World.cell?,hg,this]
theorem Both.logsW{w0:World}{q:RP}{p:Pl}{c:R.Cf}{s:RS}{G:R.Wd}{w:World}(h:Both w0 q p c s G w){M:R.Bk}(hA:Agree c s M G)(hm:0<s.made.length)(hd:0<s.dead.length)(hna:∀n∈s.dead,¬0≤n) :
  Calls Tryz.prog 21 #[ptr q.r] w fun e w'=>e=.returned (.int .i64 ((allLog G.services).length:Int))∧Below w.heap.size w w':=by
 have hcs:=h.cells
 obtain⟨tp,E,F,hr,a2,a3,a4⟩:=h.run
 obtain⟨mb,mc,hM,hMc⟩:=anR hr.M hm
 obtain⟨db,dc,hD,hDc⟩:=anR hr.D hd
 have r9:=hcs.a9
 have r11:=hcs.a11
 rw[hM]at r9
 rw[hD]at r11
 refine ai5 w q.r q.x mb mc db dc s.made s.dead G.services M G hA.inv rfl hA.book ⟨hcs.a0,r9,by rw[←hA.nu];exact hcs.a10,r11,fun j z hz cc v hv=>hMc _ _ ?_,fun u n hn=>hDc _ _ (abD hn),fun z hz=>(hr.args z hz).items⟩ hA.ml hA.inv.wf.sv ?_ hA.dl hA.argl hna (fun wr u sv hb hs=>(h.still hb).logW hs) (fun wr u j sv y hb hs hy=>?_)
 ·have hcl:cc<7:=(List.getElem?_eq_some_iff.1 hv).1
  rw[acz aha s.made j cc z hz hcl]
  exact hv
 ·intro sv hs
  obtain⟨u,hu,rfl⟩:=List.getElem_of_mem hs
  exact hA.inv.log_len (List.getElem?_eq_getElem hu)
 ·refine((h.still hb).entryW hA.inv hs hy).mono ?_
  rintro e w' ⟨⟨xa,xn,xc,ya,yn,yc,r1,r2,r3⟩,r4⟩
  exact⟨⟨xa,xn,xc,ya,yn,yc,r1,r2⟩,r4⟩
end Go.Proofs.YtblomippkddgiaaGreatDoor
namespace Go.Proofs.YtblomippkddgiaaGreatDoor.R
structure LnS(a b:List Ln):Prop where
 len:b.length=a.length
 each:∀(k:Nat) (l':Ln),b[k]?=some l'→∃l,a[k]?=some l∧l'.seq=l.seq
structure ClS(a b:List Cl):Prop where
 len:b.length=a.length
 each:∀(i:Nat) (c':Cl),b[i]?=some c'→∃c,a[i]?=some c∧c'.life=c.life∧c'.bound=c.bound∧LnS c.lines c'.lines
structure SvS(a b:List Sv):Prop where
 len:b.length=a.length
 each:∀(u:Nat) (s':Sv),b[u]?=some s'→∃s,a[u]?=some s∧s'.kind=s.kind∧(s.alive=false→s'.alive=false∧s'.log=s.log)∧∃t,s'.log=s.log++t
structure Sm(G G':Wd):Prop where
 c:G'.c=G.c
 names:G'.names=G.names
 stands:G'.stands=G.stands
 sv:SvS G.services G'.services
 cl:ClS G.clients G'.clients
theorem LnS.refl(a:List Ln):LnS a a:=⟨rfl,fun _ l h=>⟨l,h,rfl⟩⟩
theorem ClS.refl(a:List Cl):ClS a a:=⟨rfl,fun _ c h=>⟨c,h,rfl,rfl,LnS.refl _⟩⟩
theorem SvS.refl(a:List Sv):SvS a a:=⟨rfl,fun _ s h=>⟨s,h,rfl,fun q=>⟨q,rfl⟩,[],by simp⟩⟩
theorem Sm.refl(G:Wd):Sm G G:=⟨rfl,rfl,rfl,SvS.refl _,ClS.refl _⟩
theorem LnS.trans{a b c:List Ln}(h:LnS a b)(k:LnS b c):LnS a c:=⟨k.len.trans h.len,fun i l hl=>by
 obtain⟨l1,h1,h2⟩:=k.each i l hl
 obtain⟨l2,h3,h4⟩:=h.each i l1 h1
 exact⟨l2,h3,h2.trans h4⟩⟩
theorem ClS.trans{a b c:List Cl}(h:ClS a b)(k:ClS b c):ClS a c:=⟨k.len.trans h.len,fun i l hl=>by
 obtain⟨l1,h1,h2,h3,h4⟩:=k.each i l hl
 obtain⟨l2,g1,g2,g3,g4⟩:=h.each i l1 h1
 exact⟨l2,g1,h2.trans g2,h3.trans g3,g4.trans h4⟩⟩
theorem SvS.trans{a b c:List Sv}(h:SvS a b)(k:SvS b c):SvS a c:=⟨k.len.trans h.len,fun i l hl=>by
 obtain⟨l1,h1,h2,h3,t1,h4⟩:=k.each i l hl
 obtain⟨l2,g1,g2,g3,t2,g4⟩:=h.each i l1 h1
 refine⟨l2,g1,h2.trans g2,fun q=>?_,t2++t1,by rw[h4,g4,List.append_assoc]⟩
 obtain⟨p1,p2⟩:=g3 q
 obtain⟨p3,p4⟩:=h3 p1
 exact⟨p3,p4.trans p2⟩⟩
theorem Sm.trans{a b c:Wd}(h:Sm a b)(k:Sm b c):Sm a c:=⟨k.c.trans h.c,k.names.trans h.names,k.stands.trans h.stands,h.sv.trans k.sv,h.cl.trans k.cl⟩
theorem Sm.send(G:Wd)(to:Int)(p:Pk):Sm G (sendP G to p):=by
 unfold sendP
 split
 ·exact⟨rfl,rfl,rfl,SvS.refl _,ClS.refl _⟩
 ·exact Sm.refl G
theorem LnS.set{a:List Ln}{k:Nat}{l':Ln}(h:∀l,a[k]?=some l→l'.seq=l.seq):LnS a (a.set k l'):=by
 refine⟨by simp,fun j l hl=>?_⟩
 rw[List.getElem?_set]at hl
 split at hl
 ·rename_i e
  subst e
  split at hl
  ·rename_i hk
   cases hl
   exact⟨_,List.getElem?_eq_getElem hk,h _ (List.getElem?_eq_getElem hk)⟩
  ·cases hl
 ·exact⟨l,hl,rfl⟩
theorem anj{G:Wd}{i k:Int}{c:Cl}{l:Ln}(hc:G.clients[i.toNat]?=some c)(hl:c.lines[k.toNat]?=some l):lineP G i k=l:=by
 unfold lineP
 rw[hc]
 simp[hl]
theorem Sm.line{G:Wd}{i k:Int}{l':Ln}(h:l'.seq=(lineP G i k).seq):Sm G (setLine G i k l'):=by
 refine⟨rfl,rfl,rfl,SvS.refl _,⟨by simp[setLine],fun j c' hj=>?_⟩⟩
 unfold setLine at hj
 simp only[List.getElem?_modify]at hj
 cases hc:G.clients[j]? with
 |none=>rw[hc]at hj;simp at hj
 |some c=>
  rw[hc]at hj
  simp at hj
  split at hj
  ·rename_i e
   subst e
   cases hj
   exact⟨c,rfl,rfl,rfl,LnS.set (fun l hl=>by rw[h,anj hc hl])⟩
  ·cases hj
   exact⟨_,rfl,rfl,rfl,LnS.refl _⟩
theorem Sm.seen(G:Wd)(i:Nat)(r:Sn):Sm G (setSeen G i r):=⟨rfl,rfl,rfl,SvS.refl _,ClS.refl _⟩
theorem Sm.fly(G:Wd)(f:List Fl):Sm G {G with flying:=f}:=⟨rfl,rfl,rfl,SvS.refl _,ClS.refl _⟩
theorem Sm.piece(G:Wd)(i k:Int)(b:Bool):Sm G (sendPieceP G i k b):=Sm.send _ _ _
theorem Sm.probe(G:Wd)(i k:Int):Sm G (probeP G i k):=Sm.send _ _ _
theorem Sm.tickLine(G:Wd)(i k:Int):Sm G (tickLine G i k):=by
 unfold R.tickLine
 simp only
 split
 ·exact Sm.refl G
 ·split
  ·exact Sm.line rfl
  ·split
   ·exact Sm.line rfl
   ·split
    ·exact(Sm.line (G:=G) (i:=i) (k:=k) (l':={lineP G i k with wait:=G.c.retry,tries:=(lineP G i k).tries-1}) rfl).trans (Sm.piece _ _ _ _)
    ·exact(Sm.line (G:=G) (i:=i) (k:=k) (l':={lineP G i k with wait:=G.c.retry,tries:=(lineP G i k).tries-1}) rfl).trans (Sm.probe _ _ _)
theorem Sm.fold{α:Type}(f:Wd→α→Wd)(hf:∀G a,Sm G (f G a)):∀(l:List α) (G:Wd),Sm G (l.foldl f G)
 |[],G=>Sm.refl G
 |a :: l,G=>(hf G a).trans (Sm.fold f hf l (f G a))
theorem Sm.sendResult(G:Wd)(i:Nat):Sm G (sendResultP G i):=Sm.send _ _ _
theorem Sm.tickSeen(G:Wd)(i:Nat):Sm G (tickSeen G i):=by
 unfold R.tickSeen
 simp only
 split
 ·exact Sm.refl G
 ·split
  ·exact Sm.seen _ _ _
  ·split
   ·exact Sm.seen _ _ _
   ·exact(Sm.seen G i _).trans (Sm.sendResult _ _)
theorem Sm.tick(G:Wd):Sm G (tickP G):=by
 unfold tickP tickLines
 refine Sm.trans (Sm.fold _ (fun G a=>?_) _ _) (Sm.fold _ (fun G a=>Sm.tickSeen G a) _ _)
 exact Sm.fold _ (fun G b=>Sm.tickLine G _ _) _ _
theorem Sm.rest(G:Wd)(i k:Int):Sm G (restP G i k):=Sm.line rfl
theorem Sm.got(G:Wd)(i:Int)(p:Pk):Sm G (gotP G i p):=Sm.send _ _ _
theorem Sm.result(G:Wd)(i:Int)(p:Pk):Sm G (resultP G i p):=by
 unfold resultP
 simp only
 split
 ·exact Sm.refl G
 ·split
  ·split
   ·exact Sm.line rfl
   ·exact((Sm.line (G:=G) (i:=i) (k:=p.line) (l':={lineP G i p.line with came:=(lineP G i p.line).came++p.body,pieces:=(lineP G i p.line).pieces+1,acked:=piecesP (lineP G i p.line).message}) rfl).trans (Sm.got _ _ _)).trans (Sm.rest _ _ _)
  ·exact Sm.got _ _ _
theorem Sm.heard(G:Wd)(i:Int)(p:Pk):Sm G (heardP G i p):=by
 unfold heardP
 simp only
 split
 ·exact Sm.refl G
 ·split
  ·split
   ·refine Sm.trans (Sm.line (G:=G) (i:=i) (k:=p.line) (l':={lineP G i p.line with acked:=(lineP G i p.line).acked+1}) rfl) ?_
    split
    ·exact(Sm.piece _ _ _ _).trans (Sm.rest _ _ _)
    ·exact Sm.rest _ _ _
   ·exact Sm.refl G
  ·split
   ·exact Sm.rest _ _ _
   ·split
    ·exact Sm.result _ _ _
    ·split
     ·exact Sm.line rfl
     ·exact Sm.refl G
theorem Sm.reply(G:Wd)(p:Pk)(a b c:Int):Sm G (replyP G p a b c):=Sm.send _ _ _
theorem Sm.tell(G:Wd)(i:Nat):Sm G (tellP G i):=by
 unfold tellP
 exact(Sm.sendResult G i).trans (Sm.seen _ _ _)
theorem Sm.ack(G:Wd)(p:Pk):Sm G (ackP G p):=by
 unfold ackP
 split
 ·exact Sm.reply _ _ _ _ _
 ·exact Sm.refl G
theorem Sm.gather(G:Wd)(i:Nat)(p:Pk):Sm G (gatherP G i p):=by
 unfold gatherP
 simp only
 split
 ·split
  ·split
   ·exact Sm.refl G
   ·refine Sm.trans ?_ (Sm.ack _ _)
    exact⟨rfl,rfl,rfl,SvS.refl _,ClS.refl _⟩
  ·exact(Sm.seen G i _).trans (Sm.ack _ _)
 ·exact Sm.ack _ _
theorem Sm.known(G:Wd)(i:Nat)(p:Pk):Sm G (knownP G i p):=by
 unfold knownP
 simp only
 split
 ·split
  ·exact Sm.gather _ _ _
  ·exact Sm.refl G
 ·split
  ·exact Sm.reply _ _ _ _ _
  ·split
   ·exact Sm.refl G
   ·split
    ·exact Sm.tell _ _
    ·split
     ·exact Sm.reply _ _ _ _ _
     ·exact Sm.reply _ _ _ _ _
theorem Sm.lives(G:Wd)(p:Pk):Sm G (livesP G p):=by
 unfold livesP
 split
 ·exact⟨rfl,rfl,rfl,SvS.refl _,ClS.refl _⟩
 ·exact Sm.refl G
theorem Sm.ask(G:Wd)(i:Nat)(p:Pk):Sm G (askP G i p):=by
 unfold askP
 simp only
 split
 ·split
  ·exact(Sm.seen G i _).trans (Sm.tell _ _)
  ·exact Sm.refl G
 ·split
  ·exact Sm.known _ _ _
  ·split
   ·exact Sm.refl G
   ·split
    ·exact Sm.reply _ _ _ _ _
    ·split
     ·exact Sm.refl G
     ·split
      ·exact Sm.reply _ _ _ _ _
      ·exact(Sm.seen G i _).trans (Sm.known _ _ _)
theorem Sm.asked(G:Wd)(p:Pk):Sm G (askedP G p):=by
 unfold askedP
 split
 ·exact Sm.refl G
 ·exact(Sm.lives G p).trans (Sm.ask _ _ _)
theorem Sm.deliver(G:Wd)(i:Int):Sm G (deliverP G i).2:=by
 unfold deliverP
 split
 ·exact Sm.refl G
 ·split
  ·exact Sm.refl G
  ·simp only
   refine Sm.trans (Sm.fly G (G.flying.eraseIdx i.toNat)) ?_
   split
   ·exact Sm.refl _
   ·split
    ·exact Sm.refl _
    ·split
     ·exact Sm.asked _ _
     ·exact Sm.heard _ _ _
theorem Sm.drop(G:Wd)(i:Int):Sm G (dropP G i).2:=by
 unfold dropP
 split
 ·exact Sm.refl G
 ·exact Sm.fly G _
theorem SvS.done{a:List Sv}{n:Nat}{s:Sv}(hs:a[n]?=some s)(hal:s.alive=true)(e:En):SvS a (a.set n {s with log:=s.log++[e]}):=by
 refine⟨by simp,fun u s' hu=>?_⟩
 rw[List.getElem?_set]at hu
 split at hu
 ·rename_i q
  subst q
  split at hu
  ·cases hu
   exact⟨s,hs,rfl,(fun q=>by rw[hal]at q;cases q),[e],rfl⟩
  ·cases hu
 ·exact⟨s',hu,rfl,fun q=>⟨q,rfl⟩,[],by simp⟩
theorem Sm.done{M:Bk}{G:Wd}(h:Inv M G){i:Nat}(hi:i<9)(h2:(seenP G i).state=2):Sm G (doneP G i):=by
 obtain⟨d,n,s,rb,hd⟩:=h.doneAt hi h2
 rw[hd.eq h2]
 refine Sm.trans ?_ (Sm.tell _ _)
 unfold doneW
 exact⟨rfl,rfl,rfl,SvS.done hd.sv hd.alive _,ClS.refl _⟩
theorem Sm.serveGo{M:Bk}:∀(js:List Jb) {G:Wd} (_:Inv M G) (_:∃a,G.jobs=a++js),Sm G (serveGo G js).2
 |[],G,_,_=>by
  unfold R.serveGo
  exact⟨rfl,rfl,rfl,SvS.refl _,ClS.refl _⟩
 |j :: js,G,h,⟨a,ha⟩=>by
  unfold R.serveGo
  split
  ·rename_i hw
   unfold waitsP at hw
   have hjm:j∈G.jobs:=by rw[ha];simp
   have hb:=h.ws.jb j hjm
   refine Sm.trans (b:={G with jobs:=js}) ⟨rfl,rfl,rfl,SvS.refl _,ClS.refl _⟩ ?_
   have hI:Inv M {G with jobs:=js}:=h.putJob (by
    have:=h.ws.jl
    rw[ha]at this
    simp at this
    omega) (fun q hq=>⟨h.ws.jb q (by rw[ha];simp[hq]),h.jb q (by rw[ha];simp[hq])⟩)
   exact Sm.done hI (by omega) hw.1
  ·exact Sm.serveGo js h ⟨a++[j],by rw[ha];simp⟩
theorem Sm.serve{M:Bk}{G:Wd}(h:Inv M G):Sm G (serveP G).2:=Sm.serveGo G.jobs h ⟨[],rfl⟩
end Go.Proofs.YtblomippkddgiaaGreatDoor.R
namespace Go.Proofs.YtblomippkddgiaaGreatDoor
open Go.RowKit
theorem Agree.same{c:R.Cf}{s:RS}{M:R.Bk}{G G':R.Wd}(h:Agree c s M G)(hS:R.Sm G G')(hI:R.Inv M G')(hR:R.Room G'):Agree c s M G':=by
 have hst:∀n,aar G' n=aar G n:=fun n=>by unfold aar R.entryP;rw[hS.names,hS.stands]
 have hkind:G'.services.map (·.kind)=G.services.map (·.kind):=by
  refine List.ext_getElem? (fun u=>?_)
  rw[List.getElem?_map,List.getElem?_map]
  cases hu:G'.services[u]? with
  |none=>
   have:=List.getElem?_eq_none_iff.1 hu
   rw[List.getElem?_eq_none (by have:=hS.sv.len;omega)]
  |some s'=>
   obtain⟨s0,h1,h2,_⟩:=hS.sv.each u s' hu
   rw[h1]
   simp[h2]
 have hkd:∀u,aan G' u=aan G u:=fun u=>by
  unfold aan
  rw[←List.getElem?_map,←List.getElem?_map,hkind]
 refine⟨hI,hR,hS.c.trans h.cf,?_,by rw[hS.cl.len];exact h.sql,fun i cl k l hc hl=>?_,h.ul,fun k hk=>?_,fun i cl u hc hu=>?_,by rw[hS.sv.len];exact h.nu,by rw[hkind];exact h.kinds,by rw[hS.sv.len];exact h.dl,fun u n sv hn hs h0=>?_,h.book⟩
 ·rw[h.life]
  refine List.ext_getElem? (fun i=>?_)
  rw[List.getElem?_map,List.getElem?_map]
  cases hi:G'.clients[i]? with
  |none=>
   have:=List.getElem?_eq_none_iff.1 hi
   rw[List.getElem?_eq_none (by have:=hS.cl.len;omega)]
  |some c'=>
   obtain⟨c0,h1,h2,_⟩:=hS.cl.each i c' hi
   rw[h1]
   simp[h2]
 ·obtain⟨c0,h1,_,_,h4⟩:=hS.cl.each i cl hc
  obtain⟨l0,h5,h6⟩:=h4.each k l hl
  rw[h6]
  exact h.seq i c0 k l0 h1 h5
 ·obtain⟨u,h1,h2,h3⟩:=h.uid k hk
  exact⟨u,h1,by rw[hst];exact h2,by rw[hkd];exact h3⟩
 ·obtain⟨c0,h1,_,h3,_⟩:=hS.cl.each i cl hc
  rw[h3]
  exact h.bound i c0 u h1 hu
 ·obtain⟨s0,h1,_,h3,_⟩:=hS.sv.each u sv hs
  obtain⟨g1,g2⟩:=h.dead u n s0 hn h1 h0
  obtain⟨g3,g4⟩:=h3 g1
  exact⟨g3,by rw[g4];exact g2⟩
theorem Agree.tick{c:R.Cf}{s:RS}{M:R.Bk}{G:R.Wd}(h:Agree c s M G):Agree c s M (R.tickP G):=h.same (R.Sm.tick G) h.inv.tick h.room.tick
theorem Agree.serve{c:R.Cf}{s:RS}{M:R.Bk}{G:R.Wd}(h:Agree c s M G):Agree c s M (R.serveP G).2:=h.same (R.Sm.serve h.inv) h.inv.serveP h.room.serve
theorem Agree.deliver{c:R.Cf}{s:RS}{M:R.Bk}{G:R.Wd}(h:Agree c s M G)(i:Int):Agree c s M (R.deliverP G i).2:=h.same (R.Sm.deliver G i) (h.inv.deliver i) (h.room.deliver h.inv i)
theorem Agree.drop{c:R.Cf}{s:RS}{M:R.Bk}{G:R.Wd}(h:Agree c s M G)(i:Int):Agree c s M (R.dropP G i).2:=h.same (R.Sm.drop G i) (h.inv.drop i) (h.room.drop i)
def cdOf(u:Int)(kd:Nat)(pr:Int)(v:List R.It):R.Cd:=⟨u,pr,v,adG kd pr,alU kd pr,(V.mRes (adG kd pr) v).2⟩
def aa7(G:R.Wd)(i k:Nat)(l:R.Ln)(d:R.Cd):R.Wd:=R.sendPieceP (R.setLine G i k (R.newLn G l d)) i k false
structure CallTo(s:RS)(M:R.Bk)(G:R.Wd)(i k kd:Nat)(cl:R.Cl)(l:R.Ln)(s':RS)(M':R.Bk)(G':R.Wd):Prop where
 no:l.state=1∨l.seq=999→s'=s∧M'=M∧G'=G
 yes:l.state≠1→l.seq≠999→∃u pr v X Mv,s.uid[kd]?=some u∧(pr=0∨pr=1)∧ahN kd pr=0∧Fits (adG kd pr) v∧s'={s with seq:=s.seq.set (3*i+k) (l.seq+1),M:=Mv,made:=s.made++[(⟨i,cl.life,k,l.seq+1,u,pr,v⟩,X)]}∧M'=R.upd M ⟨i,cl.life,k,l.seq+1⟩ (cdOf u kd pr v)∧G'=aa7 G i k l (cdOf u kd pr v)
theorem agr{G:R.Wd}(hwf:R.Wf G){i k kd:Nat}{cl:R.Cl}{l:R.Ln}(hc:G.clients[i]?=some cl)(hl:cl.lines[k]?=some l){u pr:Int}(hb:u∈cl.bound)(hkd:aan G u=(kd:Int))(hk3:kd<3){v:List V.It}(hF:Fits (adG kd pr) v)(hE:ahN kd pr=0) :
  R.callP G i k u pr v=if l.state=1 then ((0,17),G) else if l.seq=999 then ((0,11),G) else ((l.seq+1,0),aa7 G i k l (cdOf u kd pr v)):=by
 have hi:=(List.getElem?_eq_some_iff.1 hc).1
 have hkl:=(List.getElem?_eq_some_iff.1 hl).1
 have hll:=(hwf.cl i cl hc).lines
 have hkk:((G.services[(u-1).toNat]?).map (·.kind)).getD 0=(kd:Int):=hkd
 unfold R.callP
 rw[if_neg (by omega),if_neg (by omega),if_neg (by simp[hc,hb]),hkk,adF hk3 hE]
 simp only[R.bytesP]
 rw[if_pos hF.zero]
 simp only
 rw[R.lineP_some hc hl]
 rfl
theorem Agree.called{c:R.Cf}{s:RS}{M:R.Bk}{G:R.Wd}(h:Agree c s M G){i k kd:Nat}{cl:R.Cl}{l:R.Ln}(hc:G.clients[i]?=some cl)(hl:cl.lines[k]?=some l){u pr:Int}(hu:s.uid[kd]?=some u)(hkd:aan G u=(kd:Int))(hk3:kd<3){v:List V.It}(hF:Fits (adG kd pr) v)(hE:ahN kd pr=0)(h1:l.state≠1)(h9:l.seq≠999)(Mv X:Value) :
  Agree c {s with seq:=s.seq.set (3*i+k) (l.seq+1),M:=Mv,made:=s.made++[(⟨i,cl.life,k,l.seq+1,u,pr,v⟩,X)]} (R.upd M ⟨i,cl.life,k,l.seq+1⟩ (cdOf u kd pr v)) (aa7 G i k l (cdOf u kd pr v)):=by
 have hb:=h.bound i cl u hc (List.mem_of_getElem? hu)
 have hui:1≤u∧u≤(G.services.length:Int):=(h.inv.wf.cl i cl hc).bound u hb
 have hbs:R.bytesP (adG kd pr) v=some (V.mRes (adG kd pr) v).2:=by
  unfold R.bytesP
  rw[if_pos hF.zero]
 have hcd:R.CdOk G.services (cdOf u kd pr v):=⟨hui,by
  show R.sigP (aan G u) pr=_
  rw[hkd,adF hk3 hE]
  rfl,hbs⟩
 obtain⟨hI,hn⟩:=h.inv.called (d:=cdOf u kd pr v) ⟨hc,hl⟩ h9 hb hcd
 have hroom:R.Room (aa7 G i k l (cdOf u kd pr v)):=by
  have:=h.room.call i k u pr v
  rw[agr h.inv.wf hc hl hb hkd hk3 hF hE,if_neg h1,if_neg h9]at this
  exact this
 have hsend:∀(K:R.Wd),(R.sendPieceP K i k false).names=K.names∧(R.sendPieceP K i k false).stands=K.stands∧(R.sendPieceP K i k false).services=K.services∧(R.sendPieceP K i k false).clients=K.clients∧(R.sendPieceP K i k false).c=K.c:=fun K=>by
  unfold R.sendPieceP R.sendP
  simp only
  split <;> exact⟨rfl,rfl,rfl,rfl,rfl⟩
 obtain⟨s1,s2,s3,s4,s5⟩:=hsend (R.setLine G i k (R.newLn G l (cdOf u kd pr v)))
 have hsv:(aa7 G i k l (cdOf u kd pr v)).services=G.services:=s3
 have hcl:(aa7 G i k l (cdOf u kd pr v)).clients=(R.setLine G i k (R.newLn G l (cdOf u kd pr v))).clients:=s4
 have hst:∀n,aar (aa7 G i k l (cdOf u kd pr v)) n=aar G n:=fun n=>by
  unfold aar R.entryP aa7
  rw[s1,s2]
  rfl
 have hkf:∀n,aan (aa7 G i k l (cdOf u kd pr v)) n=aan G n:=fun n=>by
  unfold aan
  rw[hsv]
 have hclen:(aa7 G i k l (cdOf u kd pr v)).clients.length=G.clients.length:=by rw[hcl];simp[R.setLine]
 have hcat:∀(j:Nat) (c':R.Cl),(aa7 G i k l (cdOf u kd pr v)).clients[j]?=some c'→∃c0,G.clients[j]?=some c0∧c'=if i=j then {c0 with lines:=c0.lines.set k (R.newLn G l (cdOf u kd pr v))} else c0:=fun j c' hj=>by
  rw[hcl,R.setLine_client]at hj
  cases h0:G.clients[j]? with
  |none=>rw[h0]at hj;cases hj
  |some c0=>rw[h0]at hj;exact⟨c0,rfl,(Option.some.inj hj).symm⟩
 have hcf:=h.inv.wf.cf
 unfold R.okCf at hcf
 refine⟨hI,hroom,s5.trans h.cf,?_,?_,fun j c' n l' hj hl'=>?_,h.ul,fun n hn3=>?_,fun j c' n hj hn=>?_,by rw[hsv];exact h.nu,by rw[hsv];exact h.kinds,by rw[hsv];exact h.dl,by rw[hsv];exact h.dead,?_⟩
 ·show s.life=_
  rw[h.life]
  refine List.ext_getElem? (fun j=>?_)
  rw[List.getElem?_map,List.getElem?_map,hcl,R.setLine_client]
  cases G.clients[j]? with
  |none=>rfl
  |some c0=>
   simp only[Option.map_some]
   split <;> rfl
 ·simp only[List.length_set]
  rw[hclen]
  exact h.sql
 ·obtain⟨c0,h0,rfl⟩:=hcat j c' hj
  have hln:=(h.inv.wf.cl j c0 h0).lines
  have hsql:=h.sql
  have hjl:=(List.getElem?_eq_some_iff.1 h0).1
  have hkl:=(List.getElem?_eq_some_iff.1 hl).1
  have hll:=(h.inv.wf.cl i cl hc).lines
  have hil:=(List.getElem?_eq_some_iff.1 hc).1
  show (s.seq.set (3*i+k) (l.seq+1))[3*j+n]?=some l'.seq
  by_cases hij:i=j
  ·subst hij
   obtain rfl:=Option.some.inj (hc.symm.trans h0)
   simp only[if_true]at hl'
   rw[List.getElem?_set]at hl' ⊢
   by_cases hkn:k=n
   ·subst hkn
    rw[if_pos rfl,if_pos hkl]at hl'
    cases hl'
    rw[if_pos rfl,if_pos (by omega)]
    rfl
   ·rw[if_neg hkn]at hl'
    rw[if_neg (by omega)]
    exact h.seq i cl n l' hc hl'
  ·rw[if_neg hij]at hl'
   have hnl:=(List.getElem?_eq_some_iff.1 hl').1
   rw[List.getElem?_set,if_neg (by omega)]
   exact h.seq j c0 n l' h0 hl'
 ·obtain⟨x,h1,h2,h3⟩:=h.uid n hn3
  exact⟨x,h1,by rw[hst];exact h2,by rw[hkf];exact h3⟩
 ·obtain⟨c0,h0,rfl⟩:=hcat j c' hj
  have:=h.bound j c0 n h0 hn
  split <;> exact this
 ·show Booked ((s.made++[((⟨i,cl.life,k,l.seq+1,u,pr,v⟩:Mk),X)]).map (·.1)) _
  rw[List.map_append]
  refine h.book.snoc (m:=⟨i,cl.life,k,l.seq+1,u,pr,v⟩) (d:=cdOf u kd pr v) rfl rfl rfl hn (fun a ha e1 e2 e3=>?_)
  obtain⟨d,hd⟩:=h.book.all a ha
  obtain⟨j,c',n,l',q1,q2,q3,q4,q5,q6,q7,q8,q9⟩:=(h.inv.bk _ d hd).2
  simp only[Mk.key]at q1 q3 q9
  simp only at e1 e2 e3
  obtain rfl:i=j:=by omega
  obtain rfl:=Option.some.inj (hc.symm.trans q2)
  obtain rfl:k=n:=by omega
  obtain rfl:=Option.some.inj (hl.symm.trans q4)
  have:=q9 e2
  simp only
  omega
theorem Both.callR{w0:World}{q:RP}{p:Pl}{c:R.Cf}{s:RS}{G:R.Wd}{w:World}(h:Both w0 q p c s G w){M:R.Bk}(hA:Agree c s M G){i k kd:Nat}{cl:R.Cl}{l:R.Ln}(hc:G.clients[i]?=some cl)(hl:cl.lines[k]?=some l)(hk3:kd<3)(a b:Int)(ha:abW a)(hb:abW b) :
  Calls Tryz.prog 12 #[ptr q.r,.int .i64 (i:Int),.int .i64 (k:Int),.int .i64 (kd:Int),.int .i64 a,.int .i64 b] w fun e w'=>e=.returned (.bool true)∧∃s' M' G',Both w0 q p c s' G' w'∧Agree c s' M' G'∧CallTo s M G i k kd cl l s' M' G':=by
 obtain⟨pr0,hpr0,H10⟩:=aaH b 2 hb (by omega) (by omega)
 obtain⟨u,hu,hst,hkd⟩:=hA.uid kd hk3
 have hbd:=hA.bound i cl u hc (List.mem_of_getElem? hu)
 have hi:=(List.getElem?_eq_some_iff.1 hc).1
 have hkl:=(List.getElem?_eq_some_iff.1 hl).1
 have hcf:=hA.inv.wf.cf
 unfold R.okCf at hcf
 have hncl:=hA.inv.wf.ncl
 have hln:=(hA.inv.wf.cl i cl hc).lines
 have hsq:=hA.seq i cl k l hc hl
 have hlf:s.life[i]?=some cl.life:=by rw[hA.life];simp[hc]
 obtain⟨e3,e4⟩:=app i k (by omega) (by omega)
 have hui:1≤u∧u≤(G.services.length:Int):=(hA.inv.wf.cl i cl hc).bound u hbd
 have h255:=hA.inv.wf.sv
 have hsr:=(hA.inv.wf.cl i cl hc).line k l hl
 have main:∀(prv:Int),(prv=0∨prv=1)→((((kd:Int)==2)=true∧prv=0)∨(((kd:Int)==2)=false∧prv=(pr0:Int)))→∀(v:List V.It),Fits (adG kd prv) v→ahN kd prv=0→(∀w,Calls Tryz.prog 30 #[.int .i64 (kd:Int),.int .i64 prv,.int .i64 a,.int .i64 b] w (aa1 v w))→Calls Tryz.prog 12 #[ptr q.r,.int .i64 (i:Int),.int .i64 (k:Int),.int .i64 (kd:Int),.int .i64 a,.int .i64 b] w fun e w'=>e=.returned (.bool true)∧∃s' M' G',Both w0 q p c s' G' w'∧Agree c s' M' G'∧CallTo s M G i k kd cl l s' M' G':=fun prv hp01 hcase v hF hE H22=>by
  have hcp:=agr hA.inv.wf hc hl hbd hkd hk3 hF hE
  have H15:Hid (∀w',Below w.heap.size w w'→Calls Tryz.prog 16 #[ptr q.x,.int .i64 (i:Int),.int .i64 (k:Int)] w' fun e w''=>(∃oa on oc,e=.returned (.tuple #[.agg #[.int .i64 l.state,.int .i64 l.seq,.slice oa on oc],.int .i64 0]))∧Below w'.heap.size w' w''):=fun w' hb=>by
   refine((h.still hb).statW hA hc hl).mono ?_
   rintro e w'' ⟨⟨oa,on,oc,r1,_⟩,r2⟩
   exact⟨⟨oa,on,oc,r1⟩,r2⟩
  have H23:∀(n f:Int) (G':R.Wd),R.callP G i k u prv v=((n,f),G')→Hid (∀w' W X,Below w.heap.size w w'→Below w'.heap.size w' W→aa2 W (fun k=>w.heap.size≤k) X v→Calls Tryz.prog 31 #[ptr q.x,.int .i64 (i:Int),.int .i64 (k:Int),.int .i64 u,.int .i64 prv,X] W fun e w''=>e=.returned (.tuple #[.int .i64 n,.int .i64 f])∧Both w0 q p c s G' w''∧∀b,w'.heap.size≤b→b<W.heap.size→w''.heap[b]?=W.heap[b]?):=fun n f G' he w' W X hb1 hb2 hX=>by
   have h':=(h.still hb1).still hb2
   obtain⟨tp,E,F,hr,hw,hd,hlo⟩:=(h.still hb1).run
   have hcall:=(hw.below hb2).call h'.t0 (i:Int) (k:Int) u prv (by omega) hX.items (by have:=hF.few;omega)
   rw[he]at hcall
   rw[h.x]
   refine hcall.mono ?_
   rintro e w'' ⟨rfl,F',q1,q2⟩
   exact⟨rfl,h'.world (hr.below hb2) hd hlo q1 q2,fun b h1 h2=>q2.keeps.block b h2 (fun hf=>by have:=hw.lt b hf;omega)⟩
  by_cases h1:l.state=1
  ·rw[if_pos h1]at hcp
   refine(ajA w0 q p c s G G w i k (3*i+k) kd pr0 a b prv l.seq l.state u cl.life v h hk3 hA.ul hu hsq hlf hA.ml e3 e4 (aab H10) hcase (aab H22) H15 (H23 _ _ _ hcp) h1).mono ?_
   rintro e w' ⟨rfl,hB⟩
   exact⟨rfl,s,M,G,hB,hA,⟨fun _=>⟨rfl,rfl,rfl⟩,fun q=>absurd h1 q⟩⟩
  ·rw[if_neg h1]at hcp
   by_cases h9:l.seq=999
   ·rw[if_pos h9]at hcp
    refine(ahy w0 q p c s G G w i k (3*i+k) kd pr0 a b prv l.seq l.state u cl.life v h hk3 hA.ul hu hsq hlf hA.ml e3 e4 (aab H10) hcase (aab H22) H15 (H23 _ _ _ hcp) h1 h9).mono ?_
    rintro e w' ⟨rfl,hB⟩
    exact⟨rfl,s,M,G,hB,hA,⟨fun _=>⟨rfl,rfl,rfl⟩,fun _ q=>absurd h9 q⟩⟩
   ·rw[if_neg h9]at hcp
    have hsr':=hsr.seq
    refine(ahx w0 q p c s G _ w i k (3*i+k) kd pr0 a b prv l.seq l.state u cl.life v h hk3 hA.ul hu hsq hlf hA.ml e3 e4 (aab H10) hcase (aab H22) H15 (H23 _ _ _ hcp) h1 (by omega)).mono ?_
    rintro e w' ⟨rfl,X,Mv,hB⟩
    exact⟨rfl,_,_,_,hB,hA.called hc hl hu hkd hk3 hF hE h1 h9 Mv X,⟨fun q=>by rcases q with q|q;exact absurd q h1;exact absurd q h9,fun _ _=>⟨u,prv,v,X,Mv,hu,hp01,hE,hF,rfl,rfl,rfl⟩⟩⟩
 by_cases h2:kd=2
 ·obtain⟨v,hF,hE,H22⟩:=alK kd 0 hk3 (by omega) (fun _=>rfl) a b ha hb
  exact main 0 (Or.inl rfl) (Or.inl ⟨by subst h2;rfl,rfl⟩) v hF hE H22
 ·obtain⟨v,hF,hE,H22⟩:=alK kd pr0 hk3 hpr0 (fun e=>absurd e h2) a b ha hb
  exact main (pr0:Int) (by omega) (Or.inr ⟨by simp;omega,rfl⟩) v hF hE H22
theorem akU{G:R.Wd}{l':R.Ln}{i k:Nat}(h:¬(i=0∧k=0)):R.lineP (R.setLine G ((0:Nat):Int) ((0:Nat):Int) l') i k=R.lineP G i k:=by
 unfold R.lineP
 simp only[Int.toNat_natCast]
 rw[R.setLine_client]
 cases G.clients[i]? with
 |none=>rfl
 |some c=>
  by_cases hi:0=i
  ·subst hi
   have hk:¬0=k:=fun e=>h ⟨rfl,e.symm⟩
   simp[hk]
  ·simp[hi]
theorem ai8{G:R.Wd}{to:Int}{p:Pk}{i k:Nat}:R.lineP (R.sendP G to p) i k=R.lineP G i k:=by
 unfold R.lineP
 rw[aa4]
theorem ach{G:R.Wd}{to:Int}{p:Pk}(h:G.flying.length<40):(R.sendP G to p).flying=G.flying++[⟨to,aa3 p,false⟩]:=by
 unfold R.sendP
 rw[if_pos h]
structure Alone(G:R.Wd)(c:R.Cf)(cl:R.Cl)(l:R.Ln):Prop where
 cf:G.c=c
 len:1≤G.clients.length
 lines:1≤c.lines.toNat
 gcl:G.clients[0]?=some cl
 gln:cl.lines[0]?=some l
 life:cl.life=1
 rest:∀i k:Nat,¬(i=0∧k=0)→¬(R.lineP G i k).state=1
theorem Alone.at{G:R.Wd}{c:R.Cf}{cl:R.Cl}{l:R.Ln}(h:Alone G c cl l):R.lineP G ((0:Nat):Int) ((0:Nat):Int)=l:=R.lineP_some h.gcl h.gln
theorem Alone.set{G:R.Wd}{c:R.Cf}{cl:R.Cl}{l:R.Ln}(h:Alone G c cl l)(l':R.Ln):Alone (R.setLine G ((0:Nat):Int) ((0:Nat):Int) l') c {cl with lines:=cl.lines.set 0 l'} l':=by
 refine⟨h.cf,by simpa [R.setLine] using h.len,h.lines,?_,?_,h.life,fun i k hik=>by rw[akU hik];exact h.rest i k hik⟩
 ·rw[R.setLine_client,h.gcl]
  simp
 ·simp[(List.getElem?_eq_some_iff.1 h.gln).1]
theorem Alone.send{G:R.Wd}{c:R.Cf}{cl:R.Cl}{l:R.Ln}(h:Alone G c cl l)(to:Int)(p:Pk):Alone (R.sendP G to p) c cl l:=by
 refine⟨by rw[agQ];exact h.cf,by rw[aa4];exact h.len,h.lines,by rw[aa4];exact h.gcl,h.gln,h.life,fun i k hik=>by rw[ai8];exact h.rest i k hik⟩
theorem aeG{G:R.Wd}{i:Nat}:∀n,(∀k:Nat,k<n→¬(R.lineP G i k).state=1)→tickC G i n=G
 |0,_=>rfl
 |n+1,h=>by
  rw[abq,aeG n (fun k hk=>h k (by omega))]
  exact abO rfl (h n (by omega))
theorem agH{G:R.Wd}{n:Nat}(h:∀k:Nat,¬k=0→¬(R.lineP (R.tickLine G ((0:Nat):Int) ((0:Nat):Int)) ((0:Nat):Int) k).state=1):tickC G 0 (n+1)=R.tickLine G ((0:Nat):Int) ((0:Nat):Int):=by
 induction n with
 |zero=>rw[abq];rfl
 |succ n ih=>
  rw[abq,ih]
  exact abO rfl (h (n+1) (by omega))
theorem adO{G G':R.Wd}(hG:G'=R.tickLine G ((0:Nat):Int) ((0:Nat):Int))(hl:1≤G.c.lines.toNat)(h:∀i k:Nat,¬(i=0∧k=0)→¬(R.lineP G' i k).state=1):∀n,tickW G (n+1)=G'
 |0=>by
  rw[ace]
  show tickC G 0 G.c.lines.toNat=G'
  obtain⟨m,hm⟩:∃m,G.c.lines.toNat=m+1:=⟨G.c.lines.toNat-1,by omega⟩
  rw[hm,agH (fun k hk=>by rw[←hG];exact h 0 k (fun e=>hk e.2)),hG]
 |n+1=>by
  rw[ace,adO hG hl h n]
  exact aeG _ (fun k _=>h (n+1) k (fun e=>by omega))
theorem Alone.tick{G:R.Wd}{c:R.Cf}{cl:R.Cl}{l:R.Ln}(h:Alone G c cl l)(hr:∀i k:Nat,¬(i=0∧k=0)→¬(R.lineP (R.tickLine G ((0:Nat):Int) ((0:Nat):Int)) i k).state=1):R.tickLines G=R.tickLine G ((0:Nat):Int) ((0:Nat):Int):=by
 rw[adl]
 obtain⟨m,hm⟩:∃m,G.clients.length=m+1:=⟨G.clients.length-1,by have:=h.len;omega⟩
 rw[hm]
 exact adO rfl (by rw[h.cf];exact h.lines) hr m
structure Sx where
 c:R.Cf
 m:List UInt8
 u:Int
 t:ByteArray
 S:List R.Sv
 S':List R.Sv
 rb:List UInt8
 out:List R.It
abbrev Sx.n(x:Sx):Int:=R.piecesP x.m
def Sx.pc(x:Sx)(a:Int)(pl:Bool):Pk:=⟨1,0,1,0,1,x.u,a,x.n,pl,R.pieceP x.m a⟩
def Sx.ak(x:Sx)(a:Int):Pk:=⟨2,0,1,0,1,x.u,a,x.n,false,[]⟩
def Sx.pr(x:Sx):Pk:=⟨3,0,1,0,1,x.u,0,1,true,[]⟩
def Sx.rs(x:Sx):Pk:=⟨5,0,1,0,1,x.u,0,1,false,x.rb⟩
def abv(to:Int)(p:Pk):R.Fl:=⟨to,aa3 p,false⟩
def abe:List R.Sn:=List.replicate 8 R.sn0
def Sx.gv(x:Sx)(k:Int):R.Sn:={R.sn0 with seq:=1,uid:=x.u,message:=x.m.take (8*k.toNat),pieces:=k,state:=1}
def Sx.wv(x:Sx):R.Sn:={R.sn0 with seq:=1,uid:=x.u,message:=x.m,pieces:=x.n,state:=2}
def Sx.av(x:Sx):R.Sn:=⟨1,x.u,x.m,x.n,3,x.rb,0,false,x.c.retry,x.c.tries⟩
def Sx.jb(x:Sx):R.Jb:=⟨0,0,1,1,x.u⟩
structure SxOk(x:Sx):Prop where
 cf:R.okCf x.c
 m:2≤x.m.length∧x.m.length≤72
 u:1≤x.u∧x.u≤255
 live:∀G:R.Wd,G.services=x.S→R.aliveP G x.u=true
 rb:1≤x.rb.length∧x.rb.length≤8
 back:(V.uFull x.t x.rb).2=x.out
 done:∀G:R.Wd,G.services=x.S→G.seen=x.wv :: abe→G.lives=[1,0,0]→R.doneP G 0=R.tellP (R.setSeen {G with services:=x.S'} 0 {x.wv with state:=3,result:=x.rb,at':=0}) 0
theorem SxOk.n{x:Sx}(h:SxOk x):1≤x.n∧x.n≤9:=⟨R.pieces_pos (by have:=h.m;omega),R.pieces_le h.m.2⟩
theorem SxOk.rb1{x:Sx}(h:SxOk x):R.piecesP x.rb=1∧R.pieceP x.rb 0=x.rb:=by
 have:=h.rb
 refine⟨by unfold R.piecesP;omega,?_⟩
 unfold R.pieceP
 rw[show 8*(0:Int).toNat=0 from rfl,List.drop_zero,List.take_of_length_le this.2]
theorem SxOk.pcr{x:Sx}(h:SxOk x){a:Int}(ha:0≤a∧a≤x.n-1)(pl:Bool):aaj (x.pc a pl):=by
 have hn:=h.n
 have hu:=h.u
 have hb:=R.piece_body (s:=x.m) (k:=a) ha.1
 refine⟨by simp[Sx.pc],by simp[Sx.pc],by simp[Sx.pc],by simp[Sx.pc],by simp[Sx.pc],hu,hn,ha,?_⟩
 unfold bodyOk
 rw[if_pos (show (x.pc a pl).kind=1∨(x.pc a pl).kind=5 from Or.inl rfl)]
 exact hb
theorem SxOk.akr{x:Sx}(h:SxOk x){a:Int}(ha:0≤a∧a≤x.n-1):aaj (x.ak a):=by
 have hn:=h.n
 have hu:=h.u
 refine⟨by simp[Sx.ak],by simp[Sx.ak],by simp[Sx.ak],by simp[Sx.ak],by simp[Sx.ak],hu,hn,ha,?_⟩
 unfold bodyOk
 simp[Sx.ak]
theorem SxOk.prr{x:Sx}(h:SxOk x):aaj x.pr:=by
 have hu:=h.u
 refine⟨by simp[Sx.pr],by simp[Sx.pr],by simp[Sx.pr],by simp[Sx.pr],by simp[Sx.pr],hu,by simp[Sx.pr],by simp[Sx.pr],?_⟩
 unfold bodyOk
 simp[Sx.pr]
theorem SxOk.rsr{x:Sx}(h:SxOk x):aaj x.rs:=by
 have hu:=h.u
 have hb:=h.rb
 refine⟨by simp[Sx.rs],by simp[Sx.rs],by simp[Sx.rs],by simp[Sx.rs],by simp[Sx.rs],hu,by simp[Sx.rs],by simp[Sx.rs],?_⟩
 unfold bodyOk
 rw[if_pos (show x.rs.kind=1∨x.rs.kind=5 from Or.inr rfl)]
 rw[if_neg (by simp[Sx.rs])]
 exact hb.2
abbrev Srv:=List Int×List R.Sn×List R.Jb×List R.Sv
def srvOf(G:R.Wd):Srv:=(G.lives,G.seen,G.jobs,G.services)
theorem acf(G:R.Wd)(to:Int)(p:Pk):srvOf (R.sendP G to p)=srvOf G:=by unfold R.sendP;split <;> rfl
theorem aaq{G:R.Wd}{a:List Int}{b:List R.Sn}{c:List R.Jb}{d:List R.Sv}(h:srvOf G=(a,b,c,d)):G.lives=a∧G.seen=b∧G.jobs=c∧G.services=d:=by
 unfold srvOf at h
 simpa using h
structure Lc(x:Sx)(a w tr:Int)(G:R.Wd):Prop where
 al:∃cl l,Alone G x.c cl l∧l.state=1∧l.seq=1∧l.uid=x.u∧l.to=x.t∧l.message=x.m∧l.acked=a∧l.came=[]∧l.pieces=0∧l.wait=w∧l.tries=tr∧l.result=[]
 ha:0≤a∧a≤x.n
 hw:1≤w∧w≤x.c.retry
 ht:0≤tr∧tr≤x.c.tries
theorem Alone.other{G G':R.Wd}{c:R.Cf}{cl:R.Cl}{l:R.Ln}(h:Alone G c cl l)(h1:G'.clients=G.clients)(h2:G'.c=G.c):Alone G' c cl l:=by
 refine⟨by rw[h2];exact h.cf,by rw[h1];exact h.len,h.lines,by rw[h1];exact h.gcl,h.gln,h.life,fun i k q=>?_⟩
 have:=h.rest i k q
 unfold R.lineP at *
 rw[h1]
 exact this
theorem Lc.other{x:Sx}{a w tr:Int}{G G':R.Wd}(h:Lc x a w tr G)(h1:G'.clients=G.clients)(h2:G'.c=G.c):Lc x a w tr G':=by
 obtain⟨cl,l,hal,hr⟩:=h.al
 exact⟨⟨cl,l,hal.other h1 h2,hr⟩,h.ha,h.hw,h.ht⟩
def Sx.again(x:Sx)(a:Int):Pk:=if a<x.n then x.pc a true else x.pr
theorem Lc.tick{x:Sx}{a w tr:Int}{G:R.Wd}(hx:SxOk x)(h:Lc x a w tr G)(hf:G.flying.length<40)(h0:w=1→1≤tr) :
  ∃w' tr' fl,Lc x a w' tr' (R.tickLines G)∧srvOf (R.tickLines G)=srvOf G∧(R.tickLines G).flying=G.flying++fl∧((fl=[]∧tr'=tr∧w'=w-1)∨(fl=[abv (-1) (x.again a)]∧tr'=tr-1∧w=1∧w'=x.c.retry)):=by
 obtain⟨cl,l,hal,h1,h2,h3,h4,h5,h6,h7,h8,h9,h10,h11⟩:=h.al
 have hcf:=hx.cf
 unfold R.okCf at hcf
 have hw:=h.hw
 have htr:=h.ht
 have hcr:=hal.cf
 by_cases hw1:1<w
 ·have eT:R.tickLine G ((0:Nat):Int) ((0:Nat):Int)=R.setLine G ((0:Nat):Int) ((0:Nat):Int) {l with wait:=l.wait-1}:=by
   unfold R.tickLine
   simp only[hal.at]
   rw[if_neg (by omega),if_pos (by omega)]
  have hA:=hal.set {l with wait:=l.wait-1}
  rw[hal.tick (by rw[eT];exact hA.rest),eT]
  exact⟨w-1,tr,[],⟨⟨_,_,hA,h1,h2,h3,h4,h5,h6,h7,h8,by simp only;omega,h10,h11⟩,h.ha,by omega,htr⟩,rfl,by simp[R.setLine_flying],Or.inl ⟨rfl,rfl,rfl⟩⟩
 ·have h1w:w=1:=by omega
  have htr1:=h0 h1w
  have hA:=hal.set {l with wait:=G.c.retry,tries:=l.tries-1}
  have hpp:R.piecesP l.message=x.n:=by rw[h5]
  have eT:R.tickLine G ((0:Nat):Int) ((0:Nat):Int)=R.sendP (R.setLine G ((0:Nat):Int) ((0:Nat):Int) {l with wait:=G.c.retry,tries:=l.tries-1}) (-1) (x.again a):=by
   unfold R.tickLine
   simp only[hal.at]
   rw[if_neg (by omega),if_neg (by omega),if_neg (by omega)]
   by_cases ha:l.acked<R.piecesP l.message
   ·rw[if_pos (R.acked_iff.2 ha),R.sendPieceP_eq hA.at]
    have hpk:R.callPk (R.setLine G ((0:Nat):Int) ((0:Nat):Int) {l with wait:=G.c.retry,tries:=l.tries-1}) 0 0 {l with wait:=G.c.retry,tries:=l.tries-1} true=x.again a:=by
     unfold R.callPk Sx.again
     rw[R.lifeP_some hA.gcl,if_pos (by rw[←h6,←hpp];exact ha)]
     simp[h2,h3,h5,h6,hal.life,Sx.pc]
    rw[hpk]
   ·rw[if_neg (fun q=>ha (R.acked_iff.1 q)),R.probeP_eq hA.at]
    have hpk:R.probePk (R.setLine G ((0:Nat):Int) ((0:Nat):Int) {l with wait:=G.c.retry,tries:=l.tries-1}) 0 0 {l with wait:=G.c.retry,tries:=l.tries-1}=x.again a:=by
     unfold R.probePk Sx.again
     rw[R.lifeP_some hA.gcl,if_neg (by rw[←h6,←hpp];exact ha)]
     simp[h2,h3,hal.life,Sx.pr]
    rw[hpk]
  have hB:=hA.send (-1) (x.again a)
  rw[hal.tick (by rw[eT];exact hB.rest),eT]
  refine⟨x.c.retry,tr-1,[abv (-1) (x.again a)],⟨⟨_,_,hB,h1,h2,h3,h4,h5,h6,h7,h8,by simp only;rw[hcr],by simp only;omega,h11⟩,h.ha,by omega,by omega⟩,by rw[acf];rfl,?_,Or.inr ⟨rfl,rfl,h1w,rfl⟩⟩
  rw[ach (by rw[R.setLine_flying];exact hf),R.setLine_flying]
  rfl
def Sx.next(x:Sx)(a:Int):List R.Fl:=if a+1<x.n then [abv (-1) (x.pc (a+1) (decide (a+1<x.n-1)))] else []
theorem Lc.ack{x:Sx}{a w tr:Int}{G:R.Wd}(hx:SxOk x)(h:Lc x a w tr G)(hf:G.flying.length<40)(ha:a<x.n) :
  Lc x (a+1) x.c.retry x.c.tries (R.heardP G 0 (x.ak a))∧srvOf (R.heardP G 0 (x.ak a))=srvOf G∧(R.heardP G 0 (x.ak a)).flying=G.flying++x.next a:=by
 obtain⟨cl,l,hal,h1,h2,h3,h4,h5,h6,h7,h8,h9,h10,h11⟩:=h.al
 have hcf:=hx.cf
 unfold R.okCf at hcf
 have hcr:=hal.cf
 have hat:=hal.at
 have hlife:R.lifeP G 0=1:=by
  have:=R.lifeP_some hal.gcl
  rw[hal.life]at this
  exact this
 have hA:=hal.set {l with acked:=l.acked+1}
 have hpp:R.piecesP l.message=x.n:=by rw[h5]
 have e1:R.heardP G 0 (x.ak a)=R.restP (if l.acked+1<R.piecesP l.message then R.sendPieceP (R.setLine G ((0:Nat):Int) ((0:Nat):Int) {l with acked:=l.acked+1}) ((0:Nat):Int) ((0:Nat):Int) false else R.setLine G ((0:Nat):Int) ((0:Nat):Int) {l with acked:=l.acked+1}) ((0:Nat):Int) ((0:Nat):Int):=by
  unfold R.heardP
  have hl:R.lineP G 0 (x.ak a).line=l:=hat
  simp only[hl,hlife]
  rw[if_neg (by rw[h1,h2];simp[Sx.ak])]
  rw[if_pos (show (x.ak a).kind=2 from rfl),if_pos (show (x.ak a).part=l.acked from h6.symm)]
  rfl
 have hrest:∀{K:R.Wd} {cl':R.Cl} {l':R.Ln},Alone K x.c cl' l'→R.restP K ((0:Nat):Int) ((0:Nat):Int)=R.setLine K ((0:Nat):Int) ((0:Nat):Int) {l' with wait:=K.c.retry,tries:=K.c.tries}:=fun hK=>by
  unfold R.restP
  rw[hK.at]
 rw[e1]
 by_cases hlt:l.acked+1<R.piecesP l.message
 ·have hpk:R.callPk (R.setLine G ((0:Nat):Int) ((0:Nat):Int) {l with acked:=l.acked+1}) 0 0 {l with acked:=l.acked+1} false=x.pc (a+1) (decide (a+1<x.n-1)):=by
   unfold R.callPk
   rw[R.lifeP_some hA.gcl]
   simp[h2,h3,h5,h6,hal.life,Sx.pc]
  rw[if_pos hlt,R.sendPieceP_eq hA.at,hpk]
  have hB:=hA.send (-1) (x.pc (a+1) (decide (a+1<x.n-1)))
  rw[hrest hB]
  have hC:=hB.set {({l with acked:=l.acked+1}:R.Ln) with wait:=(R.sendP (R.setLine G ((0:Nat):Int) ((0:Nat):Int) {l with acked:=l.acked+1}) (-1) (x.pc (a+1) (decide (a+1<x.n-1)))).c.retry,tries:=(R.sendP (R.setLine G ((0:Nat):Int) ((0:Nat):Int) {l with acked:=l.acked+1}) (-1) (x.pc (a+1) (decide (a+1<x.n-1)))).c.tries}
  refine⟨⟨⟨_,_,hC,h1,h2,h3,h4,h5,by simp only;omega,h7,h8,by simp only;rw[hB.cf],by simp only;rw[hB.cf],h11⟩,⟨by have:=h.ha;omega,by omega⟩,by omega,by omega⟩,?_,?_⟩
  ·show srvOf (R.sendP _ _ _)=_
   rw[acf]
   rfl
  ·rw[R.setLine_flying,ach (by rw[R.setLine_flying];exact hf),R.setLine_flying]
   unfold Sx.next
   rw[if_pos (by rw[←h6,←hpp];exact hlt)]
   rfl
 ·rw[if_neg hlt,hrest hA]
  have hC:=hA.set {({l with acked:=l.acked+1}:R.Ln) with wait:=(R.setLine G ((0:Nat):Int) ((0:Nat):Int) {l with acked:=l.acked+1}).c.retry,tries:=(R.setLine G ((0:Nat):Int) ((0:Nat):Int) {l with acked:=l.acked+1}).c.tries}
  refine⟨⟨⟨_,_,hC,h1,h2,h3,h4,h5,by simp only;omega,h7,h8,by simp only;rw[hA.cf],by simp only;rw[hA.cf],h11⟩,⟨by have:=h.ha;omega,by omega⟩,by omega,by omega⟩,rfl,?_⟩
  rw[R.setLine_flying,R.setLine_flying]
  unfold Sx.next
  rw[if_neg (by rw[←h6,←hpp];exact hlt)]
  simp
structure Dn(x:Sx)(G:R.Wd):Prop where
 al:∃cl l,Alone G x.c cl l∧l.state=2∧l.seq=1∧l.result=x.out
 sv:G.services=x.S'
theorem Lc.result{x:Sx}{a w tr:Int}{G:R.Wd}(hx:SxOk x)(h:Lc x a w tr G)(ha:x.n-1≤a)(hs:G.services=x.S'):Dn x (R.heardP G 0 x.rs):=by
 obtain⟨cl,l,hal,h1,h2,h3,h4,h5,h6,h7,h8,h9,h10,h11⟩:=h.al
 have hat:=hal.at
 have hlife:R.lifeP G 0=1:=by
  have:=R.lifeP_some hal.gcl
  rw[hal.life]at this
  exact this
 have hpp:R.piecesP l.message=x.n:=by rw[h5]
 have e1:R.heardP G 0 x.rs=R.setLine G ((0:Nat):Int) ((0:Nat):Int) {l with came:=l.came++x.rb,pieces:=l.pieces+1,acked:=R.piecesP l.message,result:=(V.uFull l.to (l.came++x.rb)).2,state:=2}:=by
  unfold R.heardP R.resultP
  have hl:R.lineP G 0 x.rs.line=l:=hat
  simp only[hl,hlife]
  rw[if_neg (by rw[h1,h2];simp[Sx.rs]),if_neg (by simp[Sx.rs]),if_neg (by simp[Sx.rs]),if_pos (by simp[Sx.rs])]
  rw[if_neg (by rw[hpp,h6,h8];simp[Sx.rs];omega),if_pos (by rw[h8];rfl),if_pos (by rw[h8];rfl)]
  rfl
 rw[e1]
 refine⟨⟨_,_,hal.set _,rfl,h2,?_⟩,hs⟩
 simp only[h7,h4,List.nil_append]
 exact hx.back
def Gath(x:Sx)(k:Int)(s:Srv):Prop:=(k=0∧s=([0,0,0],List.replicate 9 R.sn0,[],x.S))∨(1≤k∧s=([1,0,0],x.gv k :: abe,[],x.S))
inductive AR (x:Sx):List R.Fl→Nat→Prop
 |nil:AR x [] 0
 |res {l:List R.Fl} {W:Nat} (h:AR x l W):AR x (abv 0 x.rs :: l) (W+1)
 |ask {l:List R.Fl} {W:Nat} (p:Pk) (hp:p=x.pc (x.n-1) true∨p=x.pr) (h:AR x l W):AR x (abv (-1) p :: l) (W+2)
theorem AR.snoc{x:Sx}{l l':List R.Fl}{W W':Nat}(h:AR x l W)(h':AR x l' W'):AR x (l++l') (W+W'):=by
 induction h with
 |nil=>simpa using h'
 |res _ ih=>rw[Nat.add_right_comm];exact .res ih
 |ask p hp _ ih=>rw[Nat.add_right_comm];exact .ask p hp ih
inductive Ph (x:Sx) (a tr:Int) (lost:Nat):Nat→List R.Fl→Srv→Prop
 |none (k:Int) (s:Srv) (hk:0≤k∧k≤x.n-1) (ha:a=k∨a+1=k) (hs:Gath x k s) (hl:x.c.tries-tr+1≤lost):Ph x a tr lost 0 [] s
 |piece (k:Int) (s:Srv) (pl:Bool) (hk:0≤k∧k≤x.n-1) (ha:a=k∨a+1=k) (hs:Gath x k s) (hp:pl=false→a=x.n-1∧tr=x.c.tries) (hl:x.c.tries-tr≤lost):Ph x a tr lost 3 [abv (-1) (x.pc a pl)] s
 |ack (k:Int) (s:Srv) (hk:0≤k∧k≤x.n-1) (ha:a+1=k) (hs:Gath x k s) (hl:x.c.tries-tr≤lost):Ph x a tr lost 1 [abv 0 (x.ak a)] s
 |wait0 (ha:a=x.n-1) (ht:tr=x.c.tries):Ph x a tr lost 1 [] ([1,0,0],x.wv :: abe,[x.jb],x.S)
 |wait1 (ha:a=x.n-1) (hl:x.c.tries-tr≤lost):Ph x a tr lost 2 [abv 0 (x.ak a)] ([1,0,0],x.wv :: abe,[x.jb],x.S)
 |ans (l:List R.Fl) (W:Nat) (ha:a=x.n-1∨a=x.n) (h:AR x l W) (h2:l.length≤2) (hl:x.c.tries-tr+1≤lost+l.length):Ph x a tr lost W l ([1,0,0],x.av :: abe,[],x.S')
 |ansk (l:List R.Fl) (W:Nat) (ha:a=x.n-1) (h:AR x l W) (hne:l≠[]) (h2:l.length≤1) (hl:x.c.tries-tr≤lost+l.length):Ph x a tr lost (W+1) (abv 0 (x.ak a) :: l) ([1,0,0],x.av :: abe,[],x.S')
def Mu(x:Sx)(a w tr:Int)(W:Nat):Nat:=300*(x.n-a).toNat+4*(tr*x.c.retry+w).toNat+W
structure Sb(x:Sx)(lost mu:Nat)(G:R.Wd):Prop where
 ex:∃a w tr W,Lc x a w tr G∧Ph x a tr lost W G.flying (srvOf G)∧mu=Mu x a w tr W
 lost:(lost:Int)≤x.c.tries
theorem ac2{G:R.Wd}(h:G.jobs=[]):(R.serveP G).2=G:=by
 unfold R.serveP
 rw[h]
 unfold R.serveGo
 cases G
 simp only at h
 subst h
 rfl
theorem ab4{a b:Int}(ha:0≤a∧a≤6)(hb:1≤b∧b≤8):0≤a*b∧a*b≤48:=by
 have h:b=1∨b=2∨b=3∨b=4∨b=5∨b=6∨b=7∨b=8:=by omega
 rcases h with rfl|rfl|rfl|rfl|rfl|rfl|rfl|rfl <;> omega
theorem ag8{x:Sx}(hx:SxOk x){a w tr:Int}{W W':Nat}(hw:1≤w)(ht:0≤tr∧tr≤x.c.tries)(hW:W'<W+4):Mu x a (w-1) tr W'<Mu x a w tr W:=by
 have hc:=hx.cf
 unfold R.okCf at hc
 have:=ab4 (a:=tr) (b:=x.c.retry) (by omega) (by omega)
 unfold Mu
 omega
theorem akO{x:Sx}(hx:SxOk x){a tr:Int}{W W':Nat}(ht:1≤tr∧tr≤x.c.tries)(hW:W'<W+4):Mu x a x.c.retry (tr-1) W'<Mu x a 1 tr W:=by
 have hc:=hx.cf
 unfold R.okCf at hc
 have h1:=ab4 (a:=tr) (b:=x.c.retry) (by omega) (by omega)
 have h2:(tr-1)*x.c.retry=tr*x.c.retry-x.c.retry:=by rw[Int.sub_mul];omega
 unfold Mu
 rw[h2]
 omega
theorem akN{x:Sx}(hx:SxOk x){a w tr:Int}{W W':Nat}(ha:0≤a∧a<x.n)(hw:1≤w)(ht:0≤tr∧tr≤x.c.tries)(hW:W'≤W+3):Mu x (a+1) x.c.retry x.c.tries W'<Mu x a w tr W:=by
 have hc:=hx.cf
 unfold R.okCf at hc
 have h1:=ab4 (a:=tr) (b:=x.c.retry) (by omega) (by omega)
 have h2:=ab4 (a:=x.c.tries) (b:=x.c.retry) (by omega) (by omega)
 unfold Mu
 omega
theorem ajJ{x:Sx}{a w tr:Int}{W W':Nat}(h:W'<W):Mu x a w tr W'<Mu x a w tr W:=by
 unfold Mu
 omega
theorem ajW{x:Sx}(hx:SxOk x){K:R.Wd}{r:R.Sn}(hs:K.seen=r :: abe)(hl:K.lives=[1,0,0])(hc:K.c=x.c)(hf:K.flying.length<40)(h1:r.seq=1)(h2:r.uid=x.u)(h3:r.result=x.rb)(h4:r.at'=0) :
  R.tellP K 0={K with flying:=K.flying++[abv 0 x.rs],seen:={r with timed:=false,wait:=x.c.retry,tries:=x.c.tries} :: abe}:=by
 obtain⟨p1,p2⟩:=hx.rb1
 have hrb:=hx.rb
 have hk:R.seenP K 0=r:=by unfold R.seenP;rw[hs];rfl
 have e1:R.sendResultP K 0={K with flying:=K.flying++[abv 0 x.rs]}:=by
  unfold R.sendResultP
  simp only[hk]
  have hl0:(K.lives[0 / 3]?).getD 0=1:=by rw[hl];rfl
  rw[hl0,h1,h2,h3,h4,p1,p2]
  unfold R.sendP
  rw[if_pos hf]
  rfl
 unfold R.tellP
 simp only[e1]
 have hk2:R.seenP {K with flying:=K.flying++[abv 0 x.rs]} 0=r:=hk
 simp only[hk2]
 unfold R.setSeen
 simp only[hs,hc]
 rw[h3,h4]
 have:decide ((8:Int)*0+8<(x.rb.length:Int))=false:=by simp;omega
 rw[this]
 rfl
theorem aeK{x:Sx}(hx:SxOk x){G:R.Wd}(hs:srvOf G=([1,0,0],x.wv :: abe,[x.jb],x.S))(hc:G.c=x.c)(hf:G.flying.length<40):(R.serveP G).2.clients=G.clients∧(R.serveP G).2.c=G.c∧srvOf (R.serveP G).2=([1,0,0],x.av :: abe,[],x.S')∧(R.serveP G).2.flying=G.flying++[abv 0 x.rs]:=by
 obtain⟨s1,s2,s3,s4⟩:=aaq hs
 have e1:R.serveP G=(0,R.doneP {G with jobs:=[]} 0):=by
  unfold R.serveP
  rw[s3]
  unfold R.serveGo
  rw[if_pos]
  ·rfl
  ·unfold R.waitsP R.seenP
   rw[s1,s2]
   exact⟨rfl,rfl,rfl⟩
 rw[e1]
 simp only
 rw[hx.done {G with jobs:=[]} s4 s2 s1]
 have e2:=ajW hx (K:=R.setSeen {({G with jobs:=[]}:R.Wd) with services:=x.S'} 0 {x.wv with state:=3,result:=x.rb,at':=0}) (r:={x.wv with state:=3,result:=x.rb,at':=0}) (by simp only[R.setSeen,s2];rfl) s1 hc hf rfl rfl rfl rfl
 rw[e2]
 refine⟨rfl,rfl,?_,rfl⟩
 unfold srvOf R.setSeen
 simp only[s1]
 rfl
theorem adN{G:R.Wd}(h:∀r∈(R.tickLines G).seen,r.timed=false):R.tickP G=R.tickLines G:=by
 unfold R.tickP
 generalize R.tickLines G=K at h ⊢
 have:∀l:List Nat,l.foldl R.tickSeen K=K:=fun l=>by
  induction l with
  |nil=>rfl
  |cons i l ih=>
   rw[List.foldl_cons]
   have e:R.tickSeen K i=K:=by
    unfold R.tickSeen
    simp only
    rw[if_pos]
    unfold R.seenP
    cases hi:K.seen[i]? with
    |none=>rfl
    |some r=>exact h r (List.mem_of_getElem? hi)
   rw[e,ih]
 exact this _
theorem ac6{r r':R.Sn}(h:r∈r' :: abe)(h':r'.timed=false):r.timed=false:=by
 rcases List.mem_cons.1 h with rfl|h
 ·exact h'
 ·rw[(List.mem_replicate.1 h).2]
  rfl
theorem alb{x:Sx}{k:Int}{s:Srv}(h:Gath x k s):∀r∈s.2.1,r.timed=false:=by
 rcases h with ⟨_,rfl⟩|⟨_,rfl⟩
 ·intro r hr
  rw[(List.mem_replicate.1 hr).2]
  rfl
 ·intro r hr
  exact ac6 hr rfl
theorem aec{x:Sx}{k:Int}{G:R.Wd}(h:Gath x k (srvOf G)):G.jobs=[]:=by
 rcases h with ⟨_,h⟩|⟨_,h⟩
 ·exact(aaq h).2.2.1
 ·exact(aaq h).2.2.1
theorem Sb.tick{x:Sx}(hx:SxOk x){lost mu:Nat}{G:R.Wd}(h:Sb x lost mu G)(hf:G.flying=[]):∃mu',mu'<mu∧Sb x lost mu' (R.tickP (R.serveP G).2):=by
 obtain⟨a,w,tr,W,hl,hp,rfl⟩:=h.ex
 have hlost:=h.lost
 have hw:=hl.hw
 have htr:=hl.ht
 have hn:=hx.n
 rw[hf]at hp
 generalize hs:srvOf G=s at hp
 cases hp with
 |none k s hk ha hg he=>
  have hj:G.jobs=[]:=aec (by rw[hs];exact hg)
  rw[ac2 hj]
  obtain⟨w',tr',fl,q1,q2,q3,q4⟩:=hl.tick hx (by rw[hf];simp) (fun _=>by omega)
  have hcalm:R.tickP G=R.tickLines G:=adN (fun r hr=>by
   have:srvOf (R.tickLines G)=s:=q2.trans hs
   exact alb hg r (by rw[←this];exact hr))
  rw[hcalm]
  rcases q4 with ⟨rfl,rfl,rfl⟩|⟨rfl,rfl,rfl,rfl⟩
  ·refine⟨_,ag8 hx hw.1 htr (by omega),⟨_,_,_,0,q1,?_,rfl⟩,hlost⟩
   rw[q2,q3,hf,hs]
   exact .none k s hk ha hg he
  ·refine⟨_,akO (W':=3) hx (by omega) (by omega),⟨_,_,_,3,q1,?_,rfl⟩,hlost⟩
   rw[q2,q3,hf,hs]
   have e:x.again a=x.pc a true:=by unfold Sx.again;rw[if_pos (by omega)]
   rw[e]
   exact .piece k s true hk ha hg (by simp) (by omega)
 |wait0 ha ht=>
  obtain⟨cl,l,hal,_⟩:=hl.al
  obtain⟨r1,r2,r3,r4⟩:=aeK hx hs hal.cf (by rw[hf];simp)
  have hl':=hl.other r1 r2
  generalize (R.serveP G).2=K at r1 r2 r3 r4 hl' ⊢
  have hcf:=hx.cf
  unfold R.okCf at hcf
  obtain⟨w',tr',fl,q1,q2,q3,q4⟩:=hl'.tick hx (by rw[r4,hf];simp) (fun _=>by omega)
  have hcalm:R.tickP K=R.tickLines K:=adN (fun r hr=>by
   have:srvOf (R.tickLines K)=_:=q2.trans r3
   have e:(R.tickLines K).seen=x.av :: abe:=(aaq this).2.1
   rw[e]at hr
   exact ac6 hr rfl)
  rw[hcalm]
  rcases q4 with ⟨rfl,rfl,rfl⟩|⟨rfl,rfl,rfl,rfl⟩
  ·refine⟨_,ag8 (W':=1) hx hw.1 htr (by omega),⟨_,_,_,1,q1,?_,rfl⟩,hlost⟩
   rw[q2,q3,r4,hf,r3]
   exact .ans _ 1 (Or.inl ha) (.res .nil) (by simp) (by simp;omega)
  ·refine⟨_,akO (W':=3) hx (by omega) (by omega),⟨_,_,_,3,q1,?_,rfl⟩,hlost⟩
   rw[q2,q3,r4,hf,r3]
   have e:x.again a=x.pc (x.n-1) true:=by unfold Sx.again;rw[if_pos (by omega),ha]
   rw[e]
   exact .ans _ 3 (Or.inl ha) (.res (.ask _ (Or.inl rfl) .nil)) (by simp) (by simp;omega)
 |ans l W ha hr h2 he=>
  cases hr with
  |nil=>
   have hj:G.jobs=[]:=(aaq hs).2.2.1
   rw[ac2 hj]
   simp only[List.length_nil]at he
   obtain⟨w',tr',fl,q1,q2,q3,q4⟩:=hl.tick hx (by rw[hf];simp) (fun _=>by omega)
   have hcalm:R.tickP G=R.tickLines G:=adN (fun r hr=>by
    have:srvOf (R.tickLines G)=_:=q2.trans hs
    have e:(R.tickLines G).seen=x.av :: abe:=(aaq this).2.1
    rw[e]at hr
    exact ac6 hr rfl)
   rw[hcalm]
   rcases q4 with ⟨rfl,rfl,rfl⟩|⟨rfl,rfl,rfl,rfl⟩
   ·refine⟨_,ag8 (W':=0) hx hw.1 htr (by omega),⟨_,_,_,0,q1,?_,rfl⟩,hlost⟩
    rw[q2,q3,hf,hs]
    exact .ans _ 0 ha .nil (by simp) (by simp;omega)
   ·refine⟨_,akO (W':=2) hx (by omega) (by omega),⟨_,_,_,2,q1,?_,rfl⟩,hlost⟩
    rw[q2,q3,hf,hs]
    refine .ans _ 2 ha (.ask _ ?_ .nil) (by simp) (by simp;omega)
    unfold Sx.again
    rcases ha with ha|ha
    ·rw[if_pos (by omega),ha]
     exact Or.inl rfl
    ·rw[if_neg (by omega)]
     exact Or.inr rfl
theorem Sb.served{x:Sx}(hx:SxOk x){lost mu:Nat}{G:R.Wd}(h:Sb x lost mu G)(hf:G.flying≠[]):∃mu',mu'≤mu∧Sb x lost mu' (R.serveP G).2∧(R.serveP G).2.flying≠[]∧(R.serveP G).2.jobs=[]:=by
 obtain⟨a,w,tr,W,hl,hp,rfl⟩:=h.ex
 generalize hs:srvOf G=s at hp
 generalize hfl:G.flying=fl at hp hf
 have idle:G.jobs=[]→∃mu',mu'≤Mu x a w tr W∧Sb x lost mu' (R.serveP G).2∧(R.serveP G).2.flying≠[]∧(R.serveP G).2.jobs=[]:=fun hj=>by
  rw[ac2 hj]
  exact⟨_,Nat.le_refl _,h,by rw[hfl];exact hf,hj⟩
 cases hp with
 |none=>exact absurd rfl hf
 |piece k s pl hk ha hg hpl he=>exact idle (aec (by rw[hs];exact hg))
 |ack k s hk ha hg he=>exact idle (aec (by rw[hs];exact hg))
 |wait0=>exact absurd rfl hf
 |wait1 ha he=>
  obtain⟨cl,l,hal,_⟩:=hl.al
  obtain⟨r1,r2,r3,r4⟩:=aeK hx hs hal.cf (by rw[hfl];simp)
  have hl':=hl.other r1 r2
  refine⟨_,Nat.le_refl _,⟨⟨a,w,tr,2,hl',?_,rfl⟩,h.lost⟩,by rw[r4];simp,(aaq r3).2.2.1⟩
  rw[r3,r4,hfl]
  exact .ansk _ 1 ha (.res .nil) (by simp) (by simp) (by simp;omega)
 |ans l W ha hr h2 he=>exact idle (aaq hs).2.2.1
 |ansk l W ha hr hne h2 he=>exact idle (aaq hs).2.2.1
theorem Sb.drop{x:Sx}{lost mu:Nat}{G:R.Wd}(h:Sb x lost mu G)(hf:G.flying≠[])(hj:G.jobs=[])(hlost:(lost:Int)<x.c.tries):∃mu',mu'<mu∧Sb x (lost+1) mu' (R.dropP G 0).2:=by
 obtain⟨a,w,tr,W,hl,hp,rfl⟩:=h.ex
 have e1:(R.dropP G 0).2={G with flying:=G.flying.tail}:=by
  have hoff:¬R.off G 0:=by
   have:0<G.flying.length:=List.length_pos_iff.2 hf
   unfold R.off
   omega
  unfold R.dropP
  rw[if_neg hoff]
  simp
 rw[e1]
 have hl':Lc x a w tr {G with flying:=G.flying.tail}:=hl.other rfl rfl
 have hs':srvOf {G with flying:=G.flying.tail}=srvOf G:=rfl
 generalize hs:srvOf G=s at hp hs'
 generalize hfl:G.flying=fl at hp hf hl' hs'
 have fin:∀W',W'<W→Ph x a tr (lost+1) W' fl.tail s→∃mu',mu'<Mu x a w tr W∧Sb x (lost+1) mu' {G with flying:=fl.tail}:=fun W' hW hp'=>⟨_,ajJ hW,⟨⟨a,w,tr,W',hl',by rw[hs'];exact hp',rfl⟩,by omega⟩⟩
 cases hp with
 |none=>exact absurd rfl hf
 |piece k s pl hk ha hg hpl he=>exact fin 0 (by omega) (.none k _ hk ha hg (by omega))
 |ack k s hk ha hg he=>exact fin 0 (by omega) (.none k _ hk (Or.inr ha) hg (by omega))
 |wait0=>exact absurd rfl hf
 |wait1 ha he=>
  rw[(aaq hs).2.2.1]at hj
  cases hj
 |ans l W ha hr h2 he=>
  cases hr with
  |nil=>exact absurd rfl hf
  |res hr=>exact fin _ (by omega) (.ans _ _ ha hr (by simp only[List.tail_cons];simp at h2;omega) (by simp only[List.tail_cons];simp at he;omega))
  |ask p hp hr=>exact fin _ (by omega) (.ans _ _ ha hr (by simp only[List.tail_cons];simp at h2;omega) (by simp only[List.tail_cons];simp at he;omega))
 |ansk l W ha hr hne h2 he=>exact fin W (by omega) (.ans _ _ (Or.inl ha) hr (by simp only[List.tail_cons];omega) (by simp only[List.tail_cons];omega))
theorem abL{G:R.Wd}{to:Int}{p:Pk}{fl:List R.Fl}(hf:G.flying=abv to p :: fl)(hr:aaj p):(R.deliverP G 0).2=if to=-1 then R.askedP {G with flying:=fl} p else R.heardP {G with flying:=fl} to p:=by
 have hoff:¬R.off G 0:=by
  unfold R.off
  rw[hf]
  simp
 unfold R.deliverP
 rw[if_neg hoff]
 have e0:G.flying[(0:Int).toNat]?=some (abv to p):=by rw[hf];rfl
 have e1:G.flying.eraseIdx (0:Int).toNat=fl:=by rw[hf];rfl
 rw[e0,e1]
 simp only[abv]
 rw[acl hr]
 rfl
structure Asked(x:Sx)(K:R.Wd)(fl:List R.Fl)(G:R.Wd):Prop where
 cl:G.clients=K.clients
 cf:G.c=K.c
 fl:G.flying=K.flying++fl
theorem aff{x:Sx}{K:R.Wd}{a:Int}{pl:Bool}(hf:K.flying.length<40):Asked x K (if pl=true then [abv 0 (x.ak a)] else []) (R.ackP K (x.pc a pl))∧srvOf (R.ackP K (x.pc a pl))=srvOf K:=by
 cases pl with
 |false=>
  have e:R.ackP K (x.pc a false)=K:=by
   unfold R.ackP
   rw[if_neg (by simp[Sx.pc])]
  rw[e]
  exact⟨⟨rfl,rfl,by simp⟩,rfl⟩
 |true=>
  have e:R.ackP K (x.pc a true)=R.sendP K 0 (x.ak a):=by
   unfold R.ackP
   rw[if_pos (by simp[Sx.pc])]
   rfl
  rw[e]
  refine⟨⟨?_,?_,?_⟩,?_⟩
  ·rw[aa4]
  ·rw[agQ]
  ·rw[ach hf]
   rfl
  ·rw[acf]
theorem ala{x:Sx}(hx:SxOk x){K:R.Wd}{k a:Int}{pl:Bool}(hk:0≤k∧k≤x.n-1)(ha:a=k∨a+1=k)(hs:srvOf K=([1,0,0],x.gv k :: abe,[],x.S))(hc:K.c=x.c)(hf:K.flying.length<40) :
  Asked x K (if pl=true then [abv 0 (x.ak a)] else []) (R.knownP K 0 (x.pc a pl))∧((a+1=k∧srvOf (R.knownP K 0 (x.pc a pl))=srvOf K)∨(a=k∧k<x.n-1∧srvOf (R.knownP K 0 (x.pc a pl))=([1,0,0],x.gv (k+1) :: abe,[],x.S))∨(a=k∧k=x.n-1∧srvOf (R.knownP K 0 (x.pc a pl))=([1,0,0],x.wv :: abe,[x.jb],x.S))):=by
 obtain⟨s1,s2,s3,s4⟩:=aaq hs
 have hr:R.seenP K 0=x.gv k:=by unfold R.seenP;rw[s2];rfl
 have hcf:=hx.cf
 unfold R.okCf at hcf
 have e0:R.knownP K 0 (x.pc a pl)=R.gatherP K 0 (x.pc a pl):=by
  unfold R.knownP
  simp only[hr]
  rw[if_pos (show (x.gv k).state=1 from rfl),if_pos ⟨rfl,show a≤k by omega⟩]
 rw[e0]
 have htk:∀j:Int,j=k→x.m.take (8*j.toNat)++R.pieceP x.m j=x.m.take (8*(j+1).toNat):=fun j hj=>by
  have:=R.take_piece x.m j.toNat
  rw[show ((j.toNat:Nat):Int)=j by omega]at this
  rw[this]
  congr 2
  omega
 unfold R.gatherP
 simp only[hr]
 by_cases hak:a=k
 ·subst hak
  rw[if_pos (show (x.pc a pl).part=(x.gv a).pieces from rfl)]
  by_cases hl:a=x.n-1
  ·rw[if_pos (show (x.pc a pl).part=(x.pc a pl).off-1 from hl),if_neg (show ¬K.c.table≤(K.jobs.length:Int) by rw[s3,hc];simp;omega)]
   have e1:({R.setSeen K 0 {x.gv a with state:=2,message:=(x.gv a).message++(x.pc a pl).body,pieces:=(x.gv a).pieces+1} with jobs:=K.jobs++[⟨(x.pc a pl).client,(x.pc a pl).line,(x.pc a pl).life,(x.pc a pl).seq,(x.pc a pl).uid⟩]}:R.Wd)={K with seen:=x.wv :: abe,jobs:=[x.jb]}:=by
    unfold R.setSeen
    simp only[s2,s3]
    have hm:(x.gv a).message++(x.pc a pl).body=x.m:=by
     show x.m.take (8*a.toNat)++R.pieceP x.m a=x.m
     rw[htk a rfl]
     have:=R.pieces_all (rb:=x.m) (n:=(a+1).toNat) (by show (((a+1).toNat:Nat):Int)=x.n;omega)
     exact this
    have hp:(x.gv a).pieces+1=x.n:=by show a+1=x.n;omega
    rw[hm,hp]
    rfl
   rw[e1]
   obtain⟨q1,q2⟩:=aff (x:=x) (K:={K with seen:=x.wv :: abe,jobs:=[x.jb]}) (a:=a) (pl:=pl) hf
   refine⟨⟨q1.cl,q1.cf,q1.fl⟩,Or.inr (Or.inr ⟨rfl,hl,?_⟩)⟩
   rw[q2]
   unfold srvOf
   rw[s1,s4]
  ·rw[if_neg (show ¬(x.pc a pl).part=(x.pc a pl).off-1 from hl)]
   have e1:R.setSeen K 0 {x.gv a with message:=(x.gv a).message++(x.pc a pl).body,pieces:=(x.gv a).pieces+1}={K with seen:=x.gv (a+1) :: abe}:=by
    unfold R.setSeen
    simp only[s2]
    have hm:(x.gv a).message++(x.pc a pl).body=x.m.take (8*(a+1).toNat):=htk a rfl
    rw[hm]
    rfl
   rw[e1]
   obtain⟨q1,q2⟩:=aff (x:=x) (K:={K with seen:=x.gv (a+1) :: abe}) (a:=a) (pl:=pl) hf
   refine⟨⟨q1.cl,q1.cf,q1.fl⟩,Or.inr (Or.inl ⟨rfl,by omega,?_⟩)⟩
   rw[q2]
   unfold srvOf
   rw[s1,s3,s4]
 ·rw[if_neg (show ¬(x.pc a pl).part=(x.gv k).pieces from hak)]
  obtain⟨q1,q2⟩:=aff (x:=x) (K:=K) (a:=a) (pl:=pl) hf
  exact⟨q1,Or.inl ⟨by omega,q2⟩⟩
theorem ahC{x:Sx}(hx:SxOk x){K:R.Wd}{k a:Int}{pl:Bool}(h0:0≤a)(hk:0≤k∧k≤x.n-1)(ha:a=k∨a+1=k)(hs:Gath x k (srvOf K))(hc:K.c=x.c)(hf:K.flying.length<40) :
  Asked x K (if pl=true then [abv 0 (x.ak a)] else []) (R.askedP K (x.pc a pl))∧((a+1=k∧Gath x k (srvOf (R.askedP K (x.pc a pl))))∨(a=k∧k<x.n-1∧Gath x (k+1) (srvOf (R.askedP K (x.pc a pl))))∨(a=k∧k=x.n-1∧srvOf (R.askedP K (x.pc a pl))=([1,0,0],x.wv :: abe,[x.jb],x.S))):=by
 have hcf:=hx.cf
 unfold R.okCf at hcf
 have hu:=hx.u
 have fin:∀K2:R.Wd,K2.clients=K.clients→K2.c=K.c→K2.flying=K.flying→srvOf K2=([1,0,0],x.gv k :: abe,[],x.S)→R.askedP K (x.pc a pl)=R.knownP K2 0 (x.pc a pl)→Asked x K (if pl=true then [abv 0 (x.ak a)] else []) (R.askedP K (x.pc a pl))∧((a+1=k∧Gath x k (srvOf (R.askedP K (x.pc a pl))))∨(a=k∧k<x.n-1∧Gath x (k+1) (srvOf (R.askedP K (x.pc a pl))))∨(a=k∧k=x.n-1∧srvOf (R.askedP K (x.pc a pl))=([1,0,0],x.wv :: abe,[x.jb],x.S))):=fun K2 c1 c2 c3 c4 c5=>by
  rw[c5]
  obtain⟨q1,q2⟩:=ala hx (pl:=pl) hk ha c4 (by rw[c2];exact hc) (by rw[c3];exact hf)
  refine⟨⟨q1.cl.trans c1,q1.cf.trans c2,by rw[q1.fl,c3]⟩,?_⟩
  rcases q2 with ⟨r1,r2⟩|⟨r1,r2,r3⟩|⟨r1,r2,r3⟩
  ·exact Or.inl ⟨r1,Or.inr ⟨by omega,by rw[r2];exact c4⟩⟩
  ·exact Or.inr (Or.inl ⟨r1,r2,Or.inr ⟨by omega,r3⟩⟩)
  ·exact Or.inr (Or.inr ⟨r1,r2,r3⟩)
 rcases hs with ⟨hk0,hs⟩|⟨hk1,hs⟩
 ·obtain⟨s1,s2,s3,s4⟩:=aaq hs
  have ha0:a=0:=by omega
  subst hk0 ha0
  refine fin {K with lives:=[1,0,0],seen:=x.gv 0 :: abe} rfl rfl rfl (by unfold srvOf;simp only[s3,s4]) ?_
  unfold R.askedP
  rw[if_neg (by rw[s1];simp[Sx.pc])]
  have e1:R.livesP K (x.pc 0 pl)={K with lives:=[1,0,0],seen:=List.replicate 9 R.sn0}:=by
   unfold R.livesP
   rw[if_pos (by rw[s1];simp[Sx.pc]),s1,s2]
   rfl
  rw[e1]
  unfold R.askP
  have hr:R.seenP {K with lives:=[1,0,0],seen:=List.replicate 9 R.sn0} (3*(x.pc 0 pl).client.toNat+(x.pc 0 pl).line.toNat)=R.sn0:=rfl
  simp only[hr]
  rw[if_neg (by simp[Sx.pc]),if_neg (by simp[Sx.pc,R.sn0]),if_neg (by simp[Sx.pc,R.sn0])]
  have hal:R.aliveP {K with lives:=[1,0,0],seen:=List.replicate 9 R.sn0} (x.pc 0 pl).uid=true:=hx.live _ s4
  rw[if_neg (by rw[hal];simp),if_neg (by simp[Sx.pc])]
  rw[if_neg (by
   have:R.rememberedP {K with lives:=[1,0,0],seen:=List.replicate 9 R.sn0}=0:=rfl
   rw[this]
   have:({K with lives:=[1,0,0],seen:=List.replicate 9 R.sn0}:R.Wd).c=x.c:=hc
   rw[this]
   simp
   omega)]
  have e2:R.setSeen {K with lives:=[1,0,0],seen:=List.replicate 9 R.sn0} (3*(x.pc 0 pl).client.toNat+(x.pc 0 pl).line.toNat) {R.sn0 with seq:=(x.pc 0 pl).seq,uid:=(x.pc 0 pl).uid,state:=1}={K with lives:=[1,0,0],seen:=x.gv 0 :: abe}:=by
   unfold R.setSeen Sx.gv Sx.pc abe
   simp
   exact⟨rfl,rfl⟩
  rw[e2]
  rfl
 ·obtain⟨s1,s2,s3,s4⟩:=aaq hs
  refine fin K rfl rfl rfl hs ?_
  unfold R.askedP
  rw[if_neg (by rw[s1];simp[Sx.pc])]
  have e1:R.livesP K (x.pc a pl)=K:=by
   unfold R.livesP
   rw[if_neg (by rw[s1];simp[Sx.pc])]
  rw[e1]
  have hr:R.seenP K (3*(x.pc a pl).client.toNat+(x.pc a pl).line.toNat)=x.gv k:=by
   unfold R.seenP
   rw[s2]
   rfl
  unfold R.askP
  simp only[hr]
  rw[if_neg (by simp[Sx.pc]),if_pos (by rfl)]
  rfl
theorem alJ{x:Sx}(hx:SxOk x){K:R.Wd}{p:Pk}(hp:p=x.pc (x.n-1) true∨p=x.pr)(hs:srvOf K=([1,0,0],x.av :: abe,[],x.S'))(hc:K.c=x.c)(hf:K.flying.length<40) :
  Asked x K [abv 0 x.rs] (R.askedP K p)∧srvOf (R.askedP K p)=srvOf K:=by
 obtain⟨s1,s2,s3,s4⟩:=aaq hs
 have hpp:p.client=0∧p.life=1∧p.line=0∧p.seq=1∧p.please=true∧p.kind≠6:=by
  rcases hp with rfl|rfl <;> simp[Sx.pc,Sx.pr]
 obtain⟨p1,p2,p3,p4,p5,p6⟩:=hpp
 have hr:R.seenP K 0=x.av:=by unfold R.seenP;rw[s2];rfl
 have e1:R.askedP K p=R.tellP K 0:=by
  unfold R.askedP
  rw[if_neg (by rw[s1,p1,p2];simp)]
  have e1:R.livesP K p=K:=by
   unfold R.livesP
   rw[if_neg (by rw[s1,p1,p2];simp)]
  rw[e1,p1,p3]
  unfold R.askP R.knownP
  have hr':R.seenP K (3*(0:Int).toNat+(0:Int).toNat)=x.av:=hr
  simp only[hr']
  rw[if_neg p6,if_pos (by rw[p4];rfl),if_neg (by simp[Sx.av]),if_neg (by simp[Sx.av]),if_neg (by rw[p5];simp),if_pos (by simp[Sx.av])]
  rfl
 rw[e1,ajW hx s2 s1 hc hf rfl rfl rfl rfl]
 refine⟨⟨rfl,rfl,rfl⟩,?_⟩
 unfold srvOf
 simp only[s1,s2,s3,s4]
 rfl
theorem Lc.asked{x:Sx}{a w tr:Int}{K G:R.Wd}{fl:List R.Fl}(h:Lc x a w tr K)(hk:Asked x K fl G):Lc x a w tr G:=h.other hk.cl hk.cf
theorem Sb.deliver{x:Sx}(hx:SxOk x){lost mu:Nat}{G:R.Wd}(h:Sb x lost mu G)(hf:G.flying≠[])(hj:G.jobs=[]):(∃mu',mu'<mu∧Sb x lost mu' (R.deliverP G 0).2)∨Dn x (R.deliverP G 0).2:=by
 obtain⟨a,w,tr,W,hl,hp,rfl⟩:=h.ex
 have hn:=hx.n
 have hlr:=hl.ha
 have hcc:G.c=x.c:=by
  obtain⟨cl,l,hal,_⟩:=hl.al
  exact hal.cf
 generalize hs:srvOf G=s at hp
 generalize hfl:G.flying=fl at hp hf
 cases hp with
 |none=>exact absurd rfl hf
 |piece k s pl hk ha hg hpl he=>
  rw[abL hfl (hx.pcr ⟨hlr.1,by omega⟩ pl),if_pos rfl]
  have hl':Lc x a w tr {G with flying:=[]}:=hl.other rfl rfl
  obtain⟨q1,q2⟩:=ahC hx (K:={G with flying:=[]}) (pl:=pl) hlr.1 hk ha (by show Gath x k (srvOf G);rw[hs];exact hg) hcc (by simp)
  have hl2:=hl'.asked q1
  generalize R.askedP {G with flying:=[]} (x.pc a pl)=K at q1 q2 hl2
  have qf:=q1.fl
  simp only[List.nil_append]at qf
  left
  rcases q2 with ⟨r1,r2⟩|⟨r1,r2,r3⟩|⟨r1,r2,r3⟩
  ·have hpt:pl=true:=by
    cases pl with
    |true=>rfl
    |false=>have:=(hpl rfl).1;omega
   rw[hpt,if_pos rfl]at qf
   exact⟨_,ajJ (W':=1) (by omega),⟨⟨a,w,tr,1,hl2,by rw[qf];exact .ack k _ hk r1 r2 he,rfl⟩,h.lost⟩⟩
  ·have hpt:pl=true:=by
    cases pl with
    |true=>rfl
    |false=>have:=(hpl rfl).1;omega
   rw[hpt,if_pos rfl]at qf
   exact⟨_,ajJ (W':=1) (by omega),⟨⟨a,w,tr,1,hl2,by rw[qf];exact .ack (k+1) _ (by omega) (by omega) r3 he,rfl⟩,h.lost⟩⟩
  ·cases pl with
   |true=>
    rw[if_pos rfl]at qf
    exact⟨_,ajJ (W':=2) (by omega),⟨⟨a,w,tr,2,hl2,by rw[qf,r3];exact .wait1 (by omega) he,rfl⟩,h.lost⟩⟩
   |false=>
    rw[if_neg (by simp)]at qf
    exact⟨_,ajJ (W':=1) (by omega),⟨⟨a,w,tr,1,hl2,by rw[qf,r3];exact .wait0 (by omega) (hpl rfl).2,rfl⟩,h.lost⟩⟩
 |ack k s hk ha hg he=>
  rw[abL hfl (hx.akr ⟨hlr.1,by omega⟩),if_neg (by simp)]
  have hl':Lc x a w tr {G with flying:=[]}:=hl.other rfl rfl
  obtain⟨q1,q2,q3⟩:=hl'.ack hx (by simp) (by omega)
  left
  have en:x.next a=[abv (-1) (x.pc (a+1) (decide (a+1<x.n-1)))]:=by unfold Sx.next;rw[if_pos (by omega)]
  rw[en]at q3
  simp only[List.nil_append]at q3
  refine⟨_,akN (W':=3) hx ⟨hlr.1,by omega⟩ hl.hw.1 hl.ht (by omega),⟨⟨a+1,_,_,3,q1,?_,rfl⟩,h.lost⟩⟩
  rw[q3,q2]
  show Ph x (a+1) x.c.tries lost 3 _ (srvOf G)
  rw[hs]
  exact .piece k s _ hk (Or.inl ha) hg (fun e=>⟨by simp at e;omega,rfl⟩) (by omega)
 |wait0=>exact absurd rfl hf
 |wait1 ha he=>
  rw[(aaq hs).2.2.1]at hj
  cases hj
 |ans l W ha hr h2 he=>
  cases hr with
  |nil=>exact absurd rfl hf
  |@res l W hr=>
   rw[abL hfl hx.rsr,if_neg (by simp)]
   right
   exact(hl.other (G':={G with flying:=l}) rfl rfl).result hx (by omega) (aaq hs).2.2.2
  |@ask l W p hp hr=>
   have hpr:aaj p:=by
    rcases hp with rfl|rfl
    ·exact hx.pcr ⟨by omega,by omega⟩ true
    ·exact hx.prr
   simp only[List.length_cons]at h2 he
   rw[abL hfl hpr,if_pos rfl]
   have hl':Lc x a w tr {G with flying:=l}:=hl.other rfl rfl
   obtain⟨q1,q2⟩:=alJ hx (K:={G with flying:=l}) hp hs hcc (by simp only;omega)
   left
   refine⟨_,ajJ (W':=W+1) (by omega),⟨⟨a,w,tr,W+1,hl'.asked q1,?_,rfl⟩,h.lost⟩⟩
   rw[q1.fl,q2]
   show Ph x a tr lost (W+1) (l++[abv 0 x.rs]) (srvOf G)
   rw[hs]
   exact .ans _ _ ha (hr.snoc (.res .nil)) (by simp;omega) (by simp;omega)
 |ansk l W ha hr hne h2 he=>
  rw[abL hfl (hx.akr ⟨hlr.1,by omega⟩),if_neg (by simp)]
  have hl':Lc x a w tr {G with flying:=l}:=hl.other rfl rfl
  obtain⟨q1,q2,q3⟩:=hl'.ack hx (by simp only;omega) (by omega)
  left
  have en:x.next a=[]:=by unfold Sx.next;rw[if_neg (by omega)]
  rw[en,List.append_nil]at q3
  refine⟨_,akN (W':=W) hx ⟨hlr.1,by omega⟩ hl.hw.1 hl.ht (by omega),⟨⟨a+1,_,_,W,q1,?_,rfl⟩,h.lost⟩⟩
  rw[q3,q2]
  show Ph x (a+1) x.c.tries lost W l (srvOf G)
  rw[hs]
  have:1≤l.length:=List.length_pos_iff.2 hne
  exact .ans _ _ (Or.inr (by omega)) hr (by omega) (by omega)
theorem alP{x:Sx}(hx:SxOk x){a w tr:Int}{G:R.Wd}(h:Lc x a w tr G):Mu x a w tr 3<2999:=by
 have hc:=hx.cf
 unfold R.okCf at hc
 have hn:=hx.n
 have h1:=h.ha
 have h2:=h.hw
 have h3:=h.ht
 have:=ab4 (a:=tr) (b:=x.c.retry) (by omega) (by omega)
 unfold Mu
 omega
structure Plain(c:R.Cf)(G:R.Wd):Prop where
 cf:G.c=c
 fly:G.flying=[]
 srv:(G.lives,G.seen,G.jobs)=([0,0,0],List.replicate 9 R.sn0,[])
 each:∀(j:Nat) (x:R.Cl),G.clients[j]?=some x→x.lines=List.replicate c.lines.toNat R.ln0∧x.life=1
theorem af0{c:R.Cf}{G:R.Wd}(h:Plain c G)(i:Nat)(u:Int):Plain c (aap G i u):=by
 refine⟨h.cf,h.fly,h.srv,fun j x hx=>?_⟩
 obtain⟨c0,h0,rfl⟩:=abj hx
 split <;> exact h.each j c0 h0
theorem af1(c:R.Cf):∀k,Plain c (ada c k)
 |0=>⟨rfl,rfl,rfl,fun j x hx=>by obtain⟨_,rfl⟩:=abt hx;exact⟨rfl,rfl⟩⟩
 |k+1=>by
  have h:=af1 c k
  exact⟨h.cf,h.fly,h.srv,h.each⟩
theorem ad4{c:R.Cf}{G:R.Wd}(h:Plain c G)(i:Nat)(u:List Int):∀k,Plain c (aa8 G i u k)
 |0=>h
 |k+1=>af0 (ad4 h i u k) i _
theorem acL(c:R.Cf):∀i,Plain c (bndG c i)
 |0=>af1 c 3
 |i+1=>ad4 (acL c i) i _ 3
theorem aem{G:R.Wd}{i j:Nat}{u:List Int}{x:R.Cl}(h:G.clients[j]?=some x)(hi:i≠j):∀k,(aa8 G i u k).clients[j]?=some x
 |0=>h
 |k+1=>by
  show (aap (aa8 G i u k) i _).clients[j]?=_
  rw[aaT,aem h hi k]
  simp[hi]
theorem agu{c:R.Cf}:∀(i j:Nat) (x:R.Cl),(bndG c i).clients[j]?=some x→j<i→(1:Int)∈x.bound∧(2:Int)∈x.bound∧(3:Int)∈x.bound
 |0,_,_,_,h=>by omega
 |i+1,j,x,hx,h=>by
  have hl:(bndG c (i+1)).clients.length=(bndG c i).clients.length:=by rw[abE,abE]
  have hj:j<(bndG c i).clients.length:=by rw[←hl];exact(List.getElem?_eq_some_iff.1 hx).1
  have h0:=List.getElem?_eq_getElem hj
  by_cases hij:i=j
  ·subst hij
   have e:(bndG c (i+1)).clients[i]?=some {(bndG c i).clients[i] with bound:=(((bndG c i).clients[i].bound++[1])++[2])++[3]}:=by
    show (aap (aap (aap (bndG c i) i 1) i 2) i 3).clients[i]?=_
    rw[aaT,aaT,aaT,h0]
    simp
   rw[e]at hx
   cases hx
   simp
  ·have e:(bndG c (i+1)).clients[j]?=_:=aem h0 hij 3
   rw[e]at hx
   exact agu i j x (h0.trans hx) (by omega)
theorem ab6(c:R.Cf):∀i,(bndG c i).services=(ada c 3).services
 |0=>rfl
 |i+1=>ab6 c i
theorem ahs{G:R.Wd}{name:List UInt8}{kind:Int}(h1:R.namedP name=true)(h2:0≤kind∧kind≤2)(h3:¬name∈G.names)(h4:¬G.names.length=6)(h5:¬G.services.length=255):R.exportP G name kind=(((G.services.length:Int)+1,0),aax G name kind):=by
 have he:R.entryP G name=none:=by
  unfold R.entryP
  rw[List.findIdx?_eq_none_iff]
  intro x hx
  simp
  rintro rfl
  exact h3 hx
 unfold R.exportP
 rw[h1,if_neg (by simp),if_neg (by omega),he]
 simp only
 rw[if_neg h4,if_neg h5]
 rfl
theorem ajf{G:R.Wd}{i:Nat}{name:List UInt8}{u:Int}(hi:i<G.clients.length)(hs:aar G name=some u):(R.importP G i name).2=aap G i u:=by
 unfold R.importP
 rw[if_neg (by omega)]
 unfold aar at hs
 cases he:R.entryP G name with
 |none=>rw[he]at hs;cases hs
 |some k=>
  rw[he]at hs
  simp only[Option.map_some,Option.some.injEq]at hs
  simp only[hs]
  unfold aap
  simp
theorem ak3{c:R.Cf}(hc:R.okCf c):∀k,k≤3→R.Inv (fun _=>none) (ada c k)∧R.Room (ada c k)
 |0,_=>by
  have hn:R.newP c=some (abJ c):=by
   unfold R.newP
   rw[if_pos hc]
   rfl
  exact⟨R.Inv.new hn,R.Room.new hn⟩
 |k+1,hk=>by
  obtain⟨h1,h2⟩:=ak3 hc k (by omega)
  have e:=ahs (G:=ada c k) (name:=aaW k) (kind:=(k:Int)) (aeS k) (by omega) (expG_new c (by omega)) (by rw[expG_names];simp;omega) (by rw[expG_services];simp;omega)
  have g1:=h1.export (aaW k) k
  have g2:=h2.export (aaW k) k
  rw[e]at g1 g2
  exact⟨g1,g2⟩
theorem af7{c:R.Cf}{i:Nat}(hi:i<(abJ c).clients.length)(h:R.Inv (fun _=>none) (bndG c i)∧R.Room (bndG c i)):∀k,k≤3→R.Inv (fun _=>none) (aa8 (bndG c i) i (ac0 3) k)∧R.Room (aa8 (bndG c i) i (ac0 3) k)
 |0,_=>h
 |k+1,hk=>by
  obtain⟨h1,h2⟩:=af7 hi h k (by omega)
  have hu:((ac0 3)[k]?).getD 0=(k:Int)+1:=by
   have h3:k=0∨k=1∨k=2:=by omega
   rcases h3 with rfl|rfl|rfl <;> rfl
  have e:(R.importP (aa8 (bndG c i) i (ac0 3) k) i (aaW k)).2=aap (aa8 (bndG c i) i (ac0 3) k) i (((ac0 3)[k]?).getD 0):=ajf (by rw[acZ,abE];exact hi) (by rw[abT,acr,ac9 c (by omega),hu])
  have g1:=h1.imports i (aaW k)
  have g2:=h2.imports i (aaW k)
  rw[e]at g1 g2
  exact⟨g1,g2⟩
theorem ak4{c:R.Cf}(hc:R.okCf c):∀i,i≤(abJ c).clients.length→R.Inv (fun _=>none) (bndG c i)∧R.Room (bndG c i)
 |0,_=>ak3 hc 3 (Nat.le_refl _)
 |i+1,hi=>af7 (by omega) (ak4 hc i (by omega)) 3 (Nat.le_refl _)
theorem afo(c:R.Cf):(abJ c).clients.length=c.clients.toNat:=by simp[abJ]
theorem ahF{c:R.Cf}(hc:R.okCf c)(D K:Value):Agree c ⟨List.replicate c.clients.toNat 1,List.replicate (3*c.clients.toNat) 0,ac0 3,3,.slice none 0 0,D,K,[],acF 3,adB 3⟩ (fun _=>none) (bndG c c.clients.toNat):=by
 have hl:=afo c
 obtain⟨h1,h2⟩:=ak4 hc c.clients.toNat (by omega)
 have hp:=acL c c.clients.toNat
 have hlen:(bndG c c.clients.toNat).clients.length=c.clients.toNat:=by rw[abE,hl]
 have hsv:(bndG c c.clients.toNat).services=[⟨0,true,[]⟩,⟨1,true,[]⟩,⟨2,true,[]⟩]:=by rw[ab6,expG_services];rfl
 have hcf:=hc
 unfold R.okCf at hcf
 refine⟨h1,h2,hp.cf,?_,by simp[hlen],fun i cl k l hi hk=>?_,rfl,fun k hk=>?_,fun i cl u hi hu=>?_,by rw[hsv];rfl,by rw[hsv];rfl,by rw[hsv];rfl,fun u n sv hn _ h0=>?_,Booked.none⟩
 ·refine List.ext_getElem? (fun i=>?_)
  rw[List.getElem?_map]
  cases hi:(bndG c c.clients.toNat).clients[i]? with
  |none=>
   have:=List.getElem?_eq_none_iff.1 hi
   rw[List.getElem?_eq_none (by simp;omega)]
   rfl
  |some x=>
   have:=(List.getElem?_eq_some_iff.1 hi).1
   rw[List.getElem?_replicate,if_pos (by omega)]
   simp[(hp.each i x hi).2]
 ·have hil:=(List.getElem?_eq_some_iff.1 hi).1
  have hkl:=(List.getElem?_eq_some_iff.1 hk).1
  obtain⟨e1,_⟩:=hp.each i cl hi
  rw[e1]at hk hkl
  simp only[List.length_replicate]at hkl
  rw[List.getElem?_replicate,if_pos hkl]at hk
  cases hk
  simp only[List.getElem?_replicate]
  rw[if_pos (by omega)]
  rfl
 ·refine⟨(k:Int)+1,?_,by rw[acr];exact ac9 c hk,by rw[ael];exact agb c hk⟩
  have h3:k=0∨k=1∨k=2:=by omega
  rcases h3 with rfl|rfl|rfl <;> rfl
 ·have hil:=(List.getElem?_eq_some_iff.1 hi).1
  obtain⟨b1,b2,b3⟩:=agu _ i cl hi (by omega)
  have h3:u=1∨u=2∨u=3:=by simpa [ac0] using hu
  rcases h3 with rfl|rfl|rfl <;> assumption
 ·have:n=-1:=by
   simp only[acF]at hn
   rw[List.getElem?_replicate]at hn
   split at hn
   ·cases hn;rfl
   ·cases hn
  omega
theorem agZ{c:R.Cf}(hc:R.okCf c){G:R.Wd}(h:Plain c G){x:R.Cl}(hx:G.clients[0]?=some x):Alone G c x R.ln0:=by
 unfold R.okCf at hc
 obtain⟨e1,e2⟩:=h.each 0 x hx
 refine⟨h.cf,by have:=(List.getElem?_eq_some_iff.1 hx).1;omega,by omega,hx,by rw[e1,List.getElem?_replicate,if_pos (by omega)],e2,fun i k _=>?_⟩
 unfold R.lineP
 simp only[Int.toNat_natCast]
 cases hi:G.clients[i]? with
 |none=>simp[R.ln0]
 |some y=>
  simp only[Option.bind_some]
  rw[(h.each i y hi).1,List.getElem?_replicate]
  split <;> simp[R.ln0]
theorem aej:∀(ks:List Bool) (v:List V.It),ks.length=v.length→(∀x∈v,x.2.size=0)→(V.bytesOf ks v).length=2*v.length
 |[],[],_,_=>rfl
 |[],_ :: _,h,_=>by simp at h
 |_ :: _,[],h,_=>by simp at h
 |k :: ks,x :: v,h,hx=>by
  have ih:=aej ks v (by simpa using h) (fun y hy=>hx y (by simp[hy]))
  have h2:(V.enc8 k x).length=2:=by
   cases k
   ·rfl
   ·obtain⟨n,s⟩:=x
    have hs:s.size=0:=hx (n,s) (by simp)
    obtain⟨⟨l⟩⟩:=s
    have:l=[]:=List.eq_nil_of_length_eq_zero hs
    subst this
    rfl
  simp only[V.bytesOf,List.length_append,List.length_cons,h2,ih]
  omega
theorem ajp{kd:Nat}{pr:Int}(hk3:kd<3)(hE:ahN kd pr=0){v:List R.It}(hF:Fits (adG kd pr) v):∃rb,R.bytesP (alU kd pr) (R.doesP kd [] pr v)=some rb∧1≤rb.length∧rb.length≤8:=by
 have hbs:R.bytesP (adG kd pr) v=some (V.mRes (adG kd pr) v).2:=by
  unfold R.bytesP
  rw[if_pos hF.zero]
 obtain⟨rb,h1,h2⟩:=R.does_ok (log:=[]) (adF hk3 hE) hbs (fun e he=>by cases he)
 refine⟨rb,h1,h2,?_⟩
 obtain⟨hc,ks,he,h3,h4⟩:=V.mRes_parts (R.bytesP_some h1)
 have hrb:rb=V.bytesOf ks (R.doesP kd [] pr v):=by
  unfold R.bytesP at h1
  rw[if_pos (R.bytesP_some h1),h3]at h1
  exact(Option.some.inj h1).symm
 have hsmall:(∀x∈R.doesP kd [] pr v,x.2.size=0)∧(R.doesP kd [] pr v).length≤2:=by
  unfold R.doesP
  split
  ·simp[R.num]
   rfl
  ·split
   ·split
    ·simp[R.num]
     rfl
    ·simp[R.num,R.postedP]
     rfl
   ·simp[R.laidP,R.num]
    rfl
 rw[hrb,aej ks _ (ali he) hsmall.1]
 omega
def abc(c:R.Cf)(kd:Nat)(pr:Int)(v:List R.It)(rb:List UInt8):Sx:=
 ⟨c,(cdOf ((kd:Int)+1) kd pr v).msg,(kd:Int)+1,alU kd pr,(ada c 3).services,(ada c 3).services.set kd ⟨(kd:Int),true,[⟨0,1,0,1,pr,v,R.doesP kd [] pr v⟩]⟩,rb,R.doesP kd [] pr v⟩
theorem aoh{c:R.Cf}(hc:R.okCf c){kd:Nat}{pr:Int}(hk3:kd<3)(hp:pr=0∨pr=1)(hE:ahN kd pr=0){v:List R.It}(hF:Fits (adG kd pr) v){rb:List UInt8}(hrb:R.bytesP (alU kd pr) (R.doesP kd [] pr v)=some rb)(h1:1≤rb.length)(h8:rb.length≤8):SxOk (abc c kd pr v rb):=by
 have hbs:R.bytesP (adG kd pr) v=some (V.mRes (adG kd pr) v).2:=by
  unfold R.bytesP
  rw[if_pos hF.zero]
 have hS:(ada c 3).services[kd]?=some ⟨(kd:Int),true,[]⟩:=by
  rw[expG_services]
  have h3:kd=0∨kd=1∨kd=2:=by omega
  rcases h3 with rfl|rfl|rfl <;> rfl
 refine⟨hc,?_,by simp only[abc];omega,fun G hG=>?_,⟨h1,h8⟩,?_,fun G hG hs hl=>?_⟩
 ·have:=hF.len
  simp only[abc,cdOf,R.Cd.msg,List.length_append,two8,List.length_cons,List.length_nil]
  omega
 ·show R.aliveP G ((kd:Int)+1)=true
  unfold R.aliveP
  rw[show ((kd:Int)+1-1).toNat=kd by omega,show G.services[kd]?=some ⟨(kd:Int),true,[]⟩ by rw[hG];exact hS]
  have:(1:Int)≤(kd:Int)+1:=by omega
  simp[this]
 ·simp only[abc]
  rw[R.bytesP_back hrb]
 ·obtain⟨m1,m2⟩:=R.msg_proc (d:=cdOf ((kd:Int)+1) kd pr v) hp
  have hr:R.seenP G 0=(abc c kd pr v rb).wv:=by unfold R.seenP;rw[hs];rfl
  have hk:((abc c kd pr v rb).wv.uid-1).toNat=kd:=by
   simp only[Sx.wv,abc]
   omega
  have hG':G.services[kd]?=some ⟨(kd:Int),true,[]⟩:=by rw[hG];exact hS
  have hsig:=adF hk3 hE
  have e1:256*(((abc c kd pr v rb).wv.message.getD 0 0).toNat:Int)+(((abc c kd pr v rb).wv.message.getD 1 0).toNat:Int)=pr:=m1
  have e2:(abc c kd pr v rb).wv.message.drop 2=(V.mRes (adG kd pr) v).2:=m2
  have e3:(V.uFull (adG kd pr) (V.mRes (adG kd pr) v).2).2=v:=by rw[R.bytesP_back hbs]
  unfold R.doneP
  simp only[hr,hk,hG',Option.getD_some,e1,hsig,e2,e3,hrb]
  rw[hG]
  have hlv:G.lives.getD (0 / 3) 0=1:=by rw[hl];rfl
  rw[hlv]
  rfl
theorem aiE{c:R.Cf}(hc:R.okCf c){kd:Nat}{pr:Int}{v:List R.It}{rb:List UInt8}(hx:SxOk (abc c kd pr v rb)):∃mu,mu<2999∧Sb (abc c kd pr v rb) 0 mu (aa7 (bndG c c.clients.toNat) 0 0 R.ln0 (cdOf ((kd:Int)+1) kd pr v)):=by
 have hp:=acL c c.clients.toNat
 have hcf:=hc
 unfold R.okCf at hcf
 have hlen:(bndG c c.clients.toNat).clients.length=c.clients.toNat:=by rw[abE,afo]
 have hx0:(bndG c c.clients.toNat).clients[0]?=some ((bndG c c.clients.toNat).clients[0]'(by omega)):=List.getElem?_eq_getElem _
 generalize (bndG c c.clients.toNat).clients[0]'(by omega)=cl at hx0
 have ha:=agZ hc hp hx0
 have hsv:=ab6 c c.clients.toNat
 generalize bndG c c.clients.toNat=G at *
 have hsrv:=hp.srv
 simp only[Prod.mk.injEq]at hsrv
 obtain⟨s1,s2,s3⟩:=hsrv
 have hcc:=hp.cf
 have hA:=ha.set (R.newLn G R.ln0 (cdOf ((kd:Int)+1) kd pr v))
 have hpk:R.callPk (R.setLine G ((0:Nat):Int) ((0:Nat):Int) (R.newLn G R.ln0 (cdOf ((kd:Int)+1) kd pr v))) 0 0 (R.newLn G R.ln0 (cdOf ((kd:Int)+1) kd pr v)) false=(abc c kd pr v rb).pc 0 (decide (0<(abc c kd pr v rb).n-1)):=by
  unfold R.callPk
  rw[R.lifeP_some hA.gcl]
  simp only[ha.life,Sx.pc,Bool.false_or]
  rfl
 have he:aa7 G 0 0 R.ln0 (cdOf ((kd:Int)+1) kd pr v)=R.sendP (R.setLine G ((0:Nat):Int) ((0:Nat):Int) (R.newLn G R.ln0 (cdOf ((kd:Int)+1) kd pr v))) (-1) ((abc c kd pr v rb).pc 0 (decide (0<(abc c kd pr v rb).n-1))):=by
  unfold aa7
  rw[R.sendPieceP_eq hA.at,hpk]
 rw[he]
 have hB:=hA.send (-1) ((abc c kd pr v rb).pc 0 (decide (0<(abc c kd pr v rb).n-1)))
 have hn:=hx.n
 have hl:Lc (abc c kd pr v rb) 0 c.retry c.tries (R.sendP (R.setLine G ((0:Nat):Int) ((0:Nat):Int) (R.newLn G R.ln0 (cdOf ((kd:Int)+1) kd pr v))) (-1) ((abc c kd pr v rb).pc 0 (decide (0<(abc c kd pr v rb).n-1)))):=
  ⟨⟨_,_,hB,rfl,rfl,rfl,rfl,rfl,rfl,rfl,rfl,by simp only[R.newLn];rw[hcc],by simp only[R.newLn];rw[hcc],rfl⟩,by omega,by simp only[abc];omega,by simp only[abc];omega⟩
 refine⟨_,alP hx hl,⟨⟨0,_,_,3,hl,?_,rfl⟩,by simp only[abc];omega⟩⟩
 rw[acf,ach (by rw[R.setLine_flying,hp.fly];simp),R.setLine_flying,hp.fly]
 refine .piece 0 _ _ (by omega) (Or.inl rfl) (Or.inl ⟨rfl,?_⟩) (fun e=>⟨by simp at e;omega,rfl⟩) (by simp only[abc];omega)
 show (G.lives,G.seen,G.jobs,G.services)=_
 rw[s1,s2,s3,hsv]
 rfl
theorem alx{w W:World}{B:Nat}{v0 v1 v2 v3 v4:Value}(h:W.heap[B]?=some (.cells #[v0,v1,v2,v3,v4] 26 (0,0)))(hb:Below B w W)(a b c d e:Value):((((((W.setCell ⟨B,0,none⟩ a).setCell ⟨B,1,none⟩ b).setCell ⟨B,2,none⟩ c).setCell ⟨B,3,none⟩ d).setCell ⟨B,4,none⟩ e).heap[B]?=some (.cells #[a,b,c,d,e] 26 (0,0)))∧Below B w (((((W.setCell ⟨B,0,none⟩ a).setCell ⟨B,1,none⟩ b).setCell ⟨B,2,none⟩ c).setCell ⟨B,3,none⟩ d).setCell ⟨B,4,none⟩ e):=by
 refine⟨?_,((((hb.setCell (Nat.le_refl _) _).setCell (Nat.le_refl _) _).setCell (Nat.le_refl _) _).setCell (Nat.le_refl _) _).setCell (Nat.le_refl _) _⟩
 have h0:W.heap[B]?=some (.cells [v0,v1,v2,v3,v4].toArray 26 (0,0)):=h
 exact aad (aad (aad (aad (aad h0 a) b) c) d) e
def Stb(x:Sx)(i lost:Nat)(G:R.Wd):Prop:=(∃mu,Sb x lost mu G∧i+mu<2999)∨(Dn x G∧i<3000)
theorem amb{c:R.Cf}{kd:Nat}{pr:Int}{v:List R.It}{rb:List UInt8}(hk3:kd<3):(allLog (abc c kd pr v rb).S').length=1:=by
 have h3:kd=0∨kd=1∨kd=2:=by omega
 simp only[abc,expG_services]
 rcases h3 with rfl|rfl|rfl <;> rfl
theorem aj1{w0 w:World}{q:RP}{p:Pl}{c:R.Cf}(hc:R.okCf c){D K:Value}{k:Nat}(hk:k<3)(a b:Int)(ha:abW a)(hb:abW b)(hB:Both w0 q p c ⟨List.replicate c.clients.toNat 1,List.replicate (3*c.clients.toNat) 0,ac0 3,3,.slice none 0 0,D,K,[],acF 3,adB 3⟩ (bndG c c.clients.toNat) w) :
  Calls Tryz.prog 12 #[ptr q.r,.int .i64 0,.int .i64 0,.int .i64 (k:Int),.int .i64 a,.int .i64 b] w fun e w'=>e=.returned (.bool true)∧∃s M x G,Both w0 q p c s G w'∧Agree c s M G∧(SxOk x∧x.c=c)∧Stb x 0 0 G∧(allLog x.S').length=1∧0<s.made.length∧0<s.dead.length∧∀n∈s.dead,n<0:=by
 have hA:=ahF hc D K
 have hcf:=hc
 unfold R.okCf at hcf
 have hp:=acL c c.clients.toNat
 have hlen:(bndG c c.clients.toNat).clients.length=c.clients.toNat:=by rw[abE,afo]
 have hx0:(bndG c c.clients.toNat).clients[0]?=some ((bndG c c.clients.toNat).clients[0]'(by omega)):=List.getElem?_eq_getElem _
 generalize (bndG c c.clients.toNat).clients[0]'(by omega)=cl at hx0
 have hl0:cl.lines[0]?=some R.ln0:=by
  rw[(hp.each 0 cl hx0).1,List.getElem?_replicate,if_pos (by omega)]
 refine(hB.callR hA hx0 hl0 hk a b ha hb).mono ?_
 rintro e w' ⟨rfl,s',M',G',h1,h2,h3⟩
 obtain⟨u,pr,v,X,Mv,g1,g2,g3,g4,g5,g6,g7⟩:=h3.yes (by simp[R.ln0]) (by simp[R.ln0])
 have hu:u=(k:Int)+1:=by
  have h3:k=0∨k=1∨k=2:=by omega
  rcases h3 with rfl|rfl|rfl <;> (simp[ac0]at g1;omega)
 subst hu
 obtain⟨rb,r1,r2,r3⟩:=ajp hk g3 g4
 have hok:=aoh hc hk g2 g3 g4 r1 r2 r3
 obtain⟨mu,m1,m2⟩:=aiE hc hok
 refine⟨rfl,s',M',abc c k pr v rb,G',h1,h2,⟨hok,rfl⟩,Or.inl ⟨mu,by rw[g7];exact m2,by omega⟩,amb hk,?_,?_,?_⟩
 ·rw[g5]
  simp
 ·rw[g5]
  simp[acF]
 ·rw[g5]
  intro n hn
  simp only[acF]at hn
  rw[(List.mem_replicate.1 hn).2]
  omega
theorem afP(cl ln rt tr tb kind a b:Int)(va:Option Addr)(vn vc:Nat)(hcl:abW cl)(hln:abW ln)(hrt:abW rt)(htr:abW tr)(htb:abW tb)(hkd:abW kind)(ha:abW a)(hb:abW b)(w:World)(hV:vn=0∨∃vb off,va=some ⟨vb,off,none⟩∧∀i,i<vn→∃c,w.cell? ⟨vb,off+i,none⟩=some (.bool c))(ht:acG w)(hp:0<w.heap.size) :
  Calls Tryz.prog 7 #[cfv cl ln rt tr tb,.int .i64 kind,.int .i64 a,.int .i64 b,.slice va vn vc] w fun e w'=>e=.returned (.bool true)∧Below w.heap.size w w':=by
 obtain⟨k,hk,H10⟩:=aaH kind 3 hkd (by omega) (by omega)
 have H10':=aab H10
 have H8:=aab (fun w=>aiV cl ln rt tr tb hcl hln hrt htr htb w)
 have HA:=aab ha
 have HB:=aab hb
 have HT:=aab ht
 have HV:Hid (vn=0∨∃vb off,va=some ⟨vb,off,none⟩∧∀i,i<vn→∃c,w.cell? ⟨vb,off+i,none⟩=some (.bool c)):=hV
 clear hcl hln hrt htr htb hkd H10 ha hb ht hV
 obtain⟨BX,hBX⟩:∃BX,w.alloc (.cells #[.int .i64 cl,.int .i64 ln,.int .i64 rt,.int .i64 tr,.int .i64 tb] 26)=BX:=⟨_,rfl⟩
 have HB0:Hid (Below w.heap.size w BX):=by
  rw[←hBX]
  exact(Below.refl _ _).alloc (Nat.le_refl _) _
 have hbx:BX.heap[w.heap.size]?=some (.cells #[.int .i64 cl,.int .i64 ln,.int .i64 rt,.int .i64 tr,.int .i64 tb] 26 (0,0)):=by
  rw[←hBX]
  exact heap_alloc_new w _
 have HBX:=aab hBX
 have HCB:=aab hbx
 have hlx:=lt_of_block hbx
 clear hBX hbx
 go_enter Tryz.func7,Tryz.ntmps7
 go_wp2_with fail
 rw[unhide HBX]
 refine((unhide H8) _).mono ?_
 rintro e w1 ⟨⟨c,hc,rfl⟩,hb1⟩
 have hx1:=(hb1.block w.heap.size hlx).trans (unhide HCB)
 have c0:w1.cell? ⟨w.heap.size,0,none⟩=some (.int .i64 cl):=aaa hx1 0 _ rfl
 have c1:w1.cell? ⟨w.heap.size,1,none⟩=some (.int .i64 ln):=aaa hx1 1 _ rfl
 have c2:w1.cell? ⟨w.heap.size,2,none⟩=some (.int .i64 rt):=aaa hx1 2 _ rfl
 have c3:w1.cell? ⟨w.heap.size,3,none⟩=some (.int .i64 tr):=aaa hx1 3 _ rfl
 have c4:w1.cell? ⟨w.heap.size,4,none⟩=some (.int .i64 tb):=aaa hx1 4 _ rfl
 have z0:w1.frozen? ⟨w.heap.size,0,none⟩=false:=abP hx1 0
 have z1:w1.frozen? ⟨w.heap.size,1,none⟩=false:=abP hx1 1
 have z2:w1.frozen? ⟨w.heap.size,2,none⟩=false:=abP hx1 2
 have z3:w1.frozen? ⟨w.heap.size,3,none⟩=false:=abP hx1 3
 have z4:w1.frozen? ⟨w.heap.size,4,none⟩=false:=abP hx1 4
 have hlt1:=lt_of_block hx1
 have HB1:=aab ((unhide HB0).trans (hb1.mono (by omega)))
 have HX1:=aab hx1
 have HC:=aab hc
 clear hb1 hx1 H8 HCB HBX
 have hkey:=alx (unhide HX1) (unhide HB1) (.int .i64 c.clients) (.int .i64 c.lines) (.int .i64 c.retry) (.int .i64 c.tries) (.int .i64 c.table)
 obtain⟨W2,hW2⟩:∃W2,((((w1.setCell ⟨w.heap.size,0,none⟩ (.int .i64 c.clients)).setCell ⟨w.heap.size,1,none⟩ (.int .i64 c.lines)).setCell ⟨w.heap.size,2,none⟩ (.int .i64 c.retry)).setCell ⟨w.heap.size,3,none⟩ (.int .i64 c.tries)).setCell ⟨w.heap.size,4,none⟩ (.int .i64 c.table)=W2:=⟨_,rfl⟩
 rw[hW2]at hkey
 obtain⟨hx2,hb2⟩:=hkey
 have HW2:=aab hW2
 have HX2:=aab hx2
 have HB2:=aab hb2
 have hlt2:=lt_of_block hx2
 clear hW2 hx2 hb2
 go_wp2_with fail
 rw[unhide HW2]
 have hT2:=(unhide HT).below (unhide HB2)
 have hp2:0<W2.heap.size:=by omega
 refine(alE W2 W2 c hc (Below.refl _ _) hT2 hp2).mono ?_
 rintro e w3 ⟨q,p,D,K,rfl,hB3⟩
 have hq:∀w,(binOp .eql 28 (ptr q.r) (.pointer none)).run Tryz.prog w=.ok (.bool false) w:=fun w=>by kernel_rfl
 have HCALL:=aab (aj1 hc hk a b (unhide HA) (unhide HB) hB3)
 clear hB3 hT2 c0 c1 c2 c3 c4 z0 z1 z2 z3 z4
 go_wp2_with fail
 refine((unhide H10') _).mono ?_
 rintro e w4 ⟨rfl,hw4⟩
 subst hw4
 go_wp2_with fail
 refine(unhide HCALL).mono ?_
 rintro e w5 ⟨rfl,s,M,x,G0,hB5,hA5,hx,hS5,hone,hml,hdl,hdn⟩
 clear HCALL H10' HX1 HB1 HW2
 have HS5:=aab (And.intro hB5 (And.intro hA5 hS5))
 have HX:=aab hx
 have HONE:=aab hone
 have HML:=aab (And.intro hml hdl)
 have HDN:Hid (∀n∈s.dead,n<0):=hdn
 have HTR:Hid (∀{G:R.Wd} {wr:World},Both W2 q p c s G wr→wr.cell? ⟨w.heap.size,3,none⟩=some (.int .i64 c.tries)∧(∀{vb o:Nat} {u:Value},w.cell? ⟨vb,o,none⟩=some u→wr.cell? ⟨vb,o,none⟩=some u)∧Below w.heap.size w wr):=fun {G wr} h=>by
  have hb:=(unhide HB2).trans (h.below.mono (unhide HB2).size)
  exact⟨(h.below.cell (p:=⟨w.heap.size,3,none⟩) hlt2).trans (aaa (unhide HX2) 3 _ rfl),fun hu=>(hb.cell (p:=⟨_,_,none⟩) (lt_of_cell hu)).trans hu,hb⟩
 clear hB5 hA5 hS5 hx hone hml hdl hdn
 go_wp2_with fail
 go_loopw [13,14,15] (fun lv av iv wr=>∃(i lost at':Nat) (G:R.Wd),at'≤i∧lost≤i∧iv=.int .i64 (i:Int)∧lv=.int .i64 (lost:Int)∧av=.int .i64 (at':Int)∧Both W2 q p c s G wr∧Agree c s M G∧Stb x i lost G) (fun _ _ iv _=>3000-(intOf iv).toNat)
 case atStart=>exact⟨0,0,0,G0,Nat.le_refl _,Nat.le_refl _,rfl,rfl,rfl,(unhide HS5).1,(unhide HS5).2.1,(unhide HS5).2.2⟩
 case round=>
  obtain⟨i,lost,at',G,hat,hlo,rfl,rfl,rfl,hB,hAg,hSt⟩:=hrel
  have a0:=hB.cells.a0
  have lr:=hB.cells.ltr
  have hi3:i<3000:=by
   rcases hSt with ⟨mu,_,h⟩|⟨_,h⟩ <;> omega
  have hi4:(i:Int)<3000:=by omega
  have hwi:IntKind.i64.wrap ((i:Int)+1)=(i:Int)+1:=by rw[IntKind.wrap_i64];omega
  have hwl:IntKind.i64.wrap ((lost:Int)+1)=(lost:Int)+1:=by rw[IntKind.wrap_i64];omega
  have hwa:IntKind.i64.wrap ((at':Int)+1)=(at':Int)+1:=by rw[IntKind.wrap_i64];omega
  rcases hSt with ⟨mu,hSb,hmu⟩|⟨hDn,hlt⟩
  ·obtain⟨a1,w',tr',W',hl,-⟩:=hSb.ex
   obtain⟨cl0,l0,hal,e1,e2,-⟩:=hl.al
   have HS:=aab (hB.statW hAg hal.gcl hal.gln)
   rw[e1,e2]at HS
   have HBA:=aab (And.intro hB (And.intro hAg hSb))
   clear hl hal e1 e2 a1 w' tr' W' hB hAg hSb
   go_wp2_with fail
   refine(unhide HS).mono ?_
   rintro e w6 ⟨⟨oa,on,oc,rfl,-⟩,hb6⟩
   have hB6:=(unhide HBA).1.still hb6
   have a6:=hB6.cells.a0
   have l6:=hB6.cells.ltr
   obtain⟨W1,hW1⟩:∃W1,w6.alloc (.cells #[.int .i64 1,.int .i64 1,.slice oa on oc] 46)=W1:=⟨_,rfl⟩
   have hBW:=hB6.still (show Below w6.heap.size w6 W1 by rw[←hW1];exact(Below.refl _ _).alloc (Nat.le_refl _) _)
   have hbox:W1.heap[w6.heap.size]?=some (.cells #[.int .i64 1,.int .i64 1,.slice oa on oc] 46 (0,0)):=by
    rw[←hW1]
    exact heap_alloc_new w6 _
   have b0:W1.cell? ⟨w6.heap.size,0,none⟩=some (.int .i64 1):=aaa hbox 0 _ rfl
   have aW:=hBW.cells.a0
   have lW:=hBW.cells.ltr
   have HF:=aab hBW.flyW
   have HSV:=aab (hBW.serveW (unhide HBA).2.1.inv)
   have HW1:=aab hW1
   clear hb6 hB6 hBW hbox hW1 HS a0
   go_wp2_with fail
   rw[unhide HW1]
   refine(unhide HF).mono ?_
   rintro e w7 ⟨rfl,hw7⟩
   subst hw7
   go_wp2_with fail
   refine(unhide HSV).mono ?_
   rintro e w8 ⟨rfl,hB8⟩
   have hA8:=(unhide HBA).2.1.serve
   have a8:=hB8.cells.a0
   have l8:=hB8.cells.ltr
   obtain⟨tr8,fr8,-⟩:=(unhide HTR) hB8
   have lx8:=lt_of_cell tr8
   have hSb:=(unhide HBA).2.2
   clear HF HSV aW lW b0
   by_cases hf:G.flying=[]
   ·have hf0:((G.flying.length:Int)==0)=true:=by simp[hf]
    obtain⟨mu',hm1,hm2⟩:=hSb.tick (unhide HX).1 hf
    have HTK:=aab hB8.tickW
    have HN:=aab (And.intro hA8.tick hm2)
    clear hB8 hA8 hSb hm2 hf fr8 tr8
    go_wp2_with fail
    refine(unhide HTK).mono ?_
    rintro e w9 ⟨rfl,hB9⟩
    have HB9:=aab hB9
    clear hB9 HTK
    go_wp2_with fail
    go_roundw
    case rel=>exact⟨i+1,lost,at',_,by omega,by omega,by go_num,rfl,rfl,unhide HB9,(unhide HN).1,Or.inl ⟨mu',(unhide HN).2,by omega⟩⟩
    case measure=>simp[intOf];omega
   ·have hf0:((G.flying.length:Int)==0)=false:=by
     have:=List.length_pos_iff.2 hf
     simp
     exact hf
    obtain⟨mu1,hm1,hS1,hf1,hj1⟩:=hSb.served (unhide HX).1 hf
    clear hSb
    have hxc:=(unhide HX).2
    have deliv:((at':Int)<(vn:Int)→∃vb off bb,va=some ⟨vb,off,none⟩∧w8.cell? ⟨vb,off+at',none⟩=some (.bool bb)):=fun hlt=>by
     rcases unhide HV with h0|⟨vb,off,h1,h2⟩
     ·omega
     ·obtain⟨bb,h3⟩:=h2 at' (by omega)
      exact⟨vb,off,bb,h1,fr8 h3⟩
    have HDE:=aab (hB8.deliverW hA8.inv hA8.room 0)
    have HDR:=aab (hB8.dropW 0)
    have HND:=aab (And.intro (hA8.deliver 0) (hS1.deliver (unhide HX).1 hf1 hj1))
    have HNR:Hid (Agree c s M (R.dropP (R.serveP G).2 0).2∧((lost:Int)<c.tries→∃mu',mu'<mu1∧Sb x (lost+1) mu' (R.dropP (R.serveP G).2 0).2)):=⟨hA8.drop 0,fun h=>hS1.drop hf1 hj1 (by rw[hxc];exact h)⟩
    clear hB8 hA8 hS1 hf1 hj1 hxc hf fr8
    have hcase:(∃vb off,va=some ⟨vb,off,none⟩∧(at':Int)<(vn:Int)∧w8.cell? ⟨vb,off+at',none⟩=some (.bool true)∧(lost:Int)<c.tries)∨(¬(at':Int)<(vn:Int))∨(∃vb off,va=some ⟨vb,off,none⟩∧(at':Int)<(vn:Int)∧w8.cell? ⟨vb,off+at',none⟩=some (.bool false))∨(∃vb off,va=some ⟨vb,off,none⟩∧(at':Int)<(vn:Int)∧w8.cell? ⟨vb,off+at',none⟩=some (.bool true)∧¬(lost:Int)<c.tries):=by
     by_cases h1:(at':Int)<(vn:Int)
     ·obtain⟨vb,off,bb,h2,h3⟩:=deliv h1
      cases bb
      ·exact Or.inr (Or.inr (Or.inl ⟨vb,off,h2,h1,h3⟩))
      ·by_cases h4:(lost:Int)<c.tries
       ·exact Or.inl ⟨vb,off,h2,h1,h3,h4⟩
       ·exact Or.inr (Or.inr (Or.inr ⟨vb,off,h2,h1,h3,h4⟩))
     ·exact Or.inr (Or.inl h1)
    clear deliv
    have ha0:(0:Int)≤(at':Int):=by omega
    rcases hcase with ⟨vb,off,rfl,h1,h2,h3⟩|h1|⟨vb,off,rfl,h1,h2⟩|⟨vb,off,rfl,h1,h2,h3⟩
    ·have lv8:=lt_of_cell h2
     go_wp2_with fail
     refine(unhide HDR).mono ?_
     rintro e w9 ⟨rfl,hB9⟩
     have HB9:=aab hB9
     clear hB9 HDR HDE
     go_wp2_with fail
     obtain⟨mu',hm2,hS2⟩:=(unhide HNR).2 h3
     have HS2:=aab hS2
     clear hS2
     go_roundw
     case rel=>exact⟨i+1,lost+1,at'+1,_,by omega,by omega,by go_num,by go_num,by go_num,unhide HB9,(unhide HNR).1,Or.inl ⟨mu',unhide HS2,by omega⟩⟩
     case measure=>simp[intOf];omega
    all_goals
     go_wp2_with fail
     refine(unhide HDE).mono ?_
     rintro e w9 ⟨rfl,hB9⟩
     have HB9:=aab hB9
     clear hB9 HDR HDE
     go_wp2_with fail
     have HST:Hid (Stb x (i+1) lost (R.deliverP (R.serveP G).2 0).2):=by
      rcases(unhide HND).2 with ⟨mu',hm2,hS2⟩|hD
      ·exact Or.inl ⟨mu',hS2,by omega⟩
      ·exact Or.inr ⟨hD,by omega⟩
     go_roundw
     case rel=>exact⟨i+1,lost,at'+1,_,by omega,by omega,by go_num,rfl,by go_num,unhide HB9,(unhide HND).1,unhide HST⟩
     case measure=>simp[intOf];omega
  ·obtain⟨cl0,l0,hal,e1,e2,-⟩:=hDn.al
   have HS:=aab (hB.statW hAg hal.gcl hal.gln)
   rw[e1,e2]at HS
   have hall:(allLog G.services).length=1:=by rw[hDn.sv];exact unhide HONE
   have HLK:Hid (∀wr,Below w5.heap.size w5 w5→Both W2 q p c s G wr→Calls Tryz.prog 20 #[ptr q.r,.int .i64 0,.int .i64 0] wr fun e w'=>e=.returned (.bool true)∧Below wr.heap.size wr w'):=fun wr _ h=>h.lookedW hAg hal.gcl hal.gln
   have HLG:Hid (∀wr,Both W2 q p c s G wr→Calls Tryz.prog 21 #[ptr q.r] wr fun e w'=>e=.returned (.int .i64 1)∧Below wr.heap.size wr w'):=fun wr h=>by
    have:=h.logsW hAg (unhide HML).1 (unhide HML).2 (fun n hn=>by have:=(unhide HDN) n hn;omega)
    rw[hall]at this
    exact this
   have HBo:=aab hB
   clear hal e1 e2 hDn hall hB hAg
   go_wp2_with fail
   refine(unhide HS).mono ?_
   rintro e w6 ⟨⟨oa,on,oc,rfl,-⟩,hb6⟩
   have hB6:=(unhide HBo).still hb6
   have a6:=hB6.cells.a0
   have l6:=hB6.cells.ltr
   obtain⟨W1,hW1⟩:∃W1,w6.alloc (.cells #[.int .i64 2,.int .i64 1,.slice oa on oc] 46)=W1:=⟨_,rfl⟩
   have hBW:=hB6.still (show Below w6.heap.size w6 W1 by rw[←hW1];exact(Below.refl _ _).alloc (Nat.le_refl _) _)
   have hbox:W1.heap[w6.heap.size]?=some (.cells #[.int .i64 2,.int .i64 1,.slice oa on oc] 46 (0,0)):=by
    rw[←hW1]
    exact heap_alloc_new w6 _
   have b0:W1.cell? ⟨w6.heap.size,0,none⟩=some (.int .i64 2):=aaa hbox 0 _ rfl
   have aW:=hBW.cells.a0
   have lW:=hBW.cells.ltr
   have HF:=aab hBW.flyW
   have HL1:=aab ((unhide HLK) W1 (Below.refl _ _) hBW)
   have HBW:=aab hBW
   have HBOX:=aab hbox
   have HW1:=aab hW1
   clear hb6 hB6 hBW hbox hW1 HS a0
   go_wp2_with fail
   rw[unhide HW1]
   refine(unhide HF).mono ?_
   rintro e w7 ⟨rfl,hw7⟩
   subst hw7
   go_wp2_with fail
   refine(unhide HL1).mono ?_
   rintro e w8 ⟨rfl,hb8⟩
   have hB8:=(unhide HBW).still hb8
   have HL2:=aab ((unhide HLG) w8 hB8)
   have HB8:=aab hB8
   have HX8:=aab ((hb8.block _ (lt_of_block (unhide HBOX))).trans (unhide HBOX))
   clear hb8 hB8 HF HL1 HLK HLG
   go_wp2_with fail
   refine(unhide HL2).mono ?_
   rintro e w9 ⟨rfl,hb9⟩
   have hx9:=(hb9.block _ (lt_of_block (unhide HX8))).trans (unhide HX8)
   have d0:w9.cell? ⟨w6.heap.size,0,none⟩=some (.int .i64 2):=aaa hx9 0 _ rfl
   have hl9:=lt_of_block hx9
   have HB9:=aab ((unhide HB8).still hb9)
   clear hb9 hx9 HL2
   go_wp2_with fail
   go_returns
   exact⟨rfl,((unhide HTR) (unhide HB9)).2.2⟩
end Go.Proofs.YtblomippkddgiaaGreatDoor
