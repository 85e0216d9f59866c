import Derived.Test.YtblomippkddgiaaGreatDoorJ40
import Derived.Test.YtblomippkddgiaaGreatDoorJ21
import Derived.Test.YtblomippkddgiaaGreatDoorJ39
import Derived.Test.YtblomippkddgiaaGreatDoorJ22
set_option maxRecDepth 100000
set_option maxHeartbeats 4000000
namespace Go.Proofs.YtblomippkddgiaaGreatDoor
open Go.RowKit
abbrev aaD(w:World)(s ci:Nat)(life:Int):World:=(((w.setCell ⟨s,7+ci,none⟩ (.int .i64 life)).setCell ⟨s,10+ci*3,none⟩ (.pointer none)).setCell ⟨s,10+ci*3+1,none⟩ (.pointer none)).setCell ⟨s,10+ci*3+2,none⟩ (.pointer none)
theorem ajB{w:World}{o:Obj}{m s ci:Nat}{life:Int}(hs:s<w.heap.size):aa0 w (aaD w s ci life) o (aaD ((w.alloc o).drewN m) s ci life).drew:=by
 have e:aaD (w.alloc o) s ci life=(aaD w s ci life).alloc o:=by
  unfold aaD
  rw[World.setCell_alloc_past o s _ _ hs,World.setCell_alloc_past o s _ _ (by simpa using hs),World.setCell_alloc_past o s _ _ (by simpa using hs),World.setCell_alloc_past o s _ _ (by simpa using hs)]
 have e2:(aaD ((w.alloc o).drewN m) s ci life).drew=(((aaD w s ci life).alloc o).drewN m).drew:=by
  rw[←e]
  rfl
 rw[e2]
 refine⟨(below_drewN ((Below.refl _ _).alloc (by simp) _) _).drew,?_⟩
 have:=heap_alloc_new (aaD w s ci life) o
 simpa using this
theorem aji{w:World}{s ci ni:Nat}{life:Int}{o0 o1 o2:Option Addr}(d0:w.cell? ⟨s,10+ci*3,none⟩=some (.pointer o0))(d1:w.cell? ⟨s,10+ci*3+1,none⟩=some (.pointer o1))(d2:w.cell? ⟨s,10+ci*3+2,none⟩=some (.pointer o2))(hc:ci<3)(hn:ni<3):(aaD w s ci life).cell? ⟨s,10+ci*3+ni,none⟩=some (.pointer none):=by
 have ne:∀{a b:Nat},a≠b→(⟨s,a,none⟩:Addr)≠⟨s,b,none⟩:=fun h q=>h (by cases q;rfl)
 have h:ni=0∨ni=1∨ni=2:=by omega
 unfold aaD
 rcases h with rfl|rfl|rfl
 ·rw[World.cell?_setCell_other (h:=ne (by omega)),World.cell?_setCell_other (h:=ne (by omega))]
  exact World.cell?_setCell_same (h:=(World.cell?_setCell_other (h:=ne (by omega)) ..).trans d0) ..
 ·rw[World.cell?_setCell_other (h:=ne (by omega))]
  exact World.cell?_setCell_same (h:=(World.cell?_setCell_other (h:=ne (by omega)) ..).trans ((World.cell?_setCell_other (h:=ne (by omega)) ..).trans d1)) ..
 ·exact World.cell?_setCell_same (h:=(World.cell?_setCell_other (h:=ne (by omega)) ..).trans ((World.cell?_setCell_other (h:=ne (by omega)) ..).trans ((World.cell?_setCell_other (h:=ne (by omega)) ..).trans d2))) ..
theorem aj3(w:World)(s ci ni:Nat)(lv:Int)(o0 o1 o2:Option Addr)(P:Pk)(Post:World→Prop)(h7:w.cell? ⟨s,7+ci,none⟩=some (.int .i64 lv))(d0:w.cell? ⟨s,10+ci*3,none⟩=some (.pointer o0))(d1:w.cell? ⟨s,10+ci*3+1,none⟩=some (.pointer o1))(d2:w.cell? ⟨s,10+ci*3+2,none⟩=some (.pointer o2))(z:∀j,w.frozen? ⟨s,j,none⟩=false)(hci:P.client=(ci:Int))(hni:P.line=(ni:Int))(h3:ci<3)(h3':ni<3)(hlt:lv<P.life)
  (HG:Hid (P.kind=6→∀wa,Below w.heap.size (aaD w s ci P.life) wa→Calls Tryz.prog 138 #[pt s,.pointer none,pv P] wa fun e w'=>e=.returned (.tuple #[])∧Post w'))
  (HA:Hid (P.kind=1∨P.kind=3→∀wa,Below w.heap.size (aaD w s ci P.life) wa→Calls Tryz.prog 139 #[pt s,.pointer none,pv P] wa fun e w'=>e=.returned (.tuple #[])∧Post w'))
  (HN:Hid (¬(P.kind=6∨P.kind=1∨P.kind=3)→∀wa,Below w.heap.size (aaD w s ci P.life) wa→Post wa)) :
  Calls Tryz.prog 85 #[pt s,pv P] w fun e w'=>e=.returned (.tuple #[])∧Post w':=by
 have hl:=lt_of_cell h7
 have HBF:Hid (∀m,aa0 w (aaD w s ci P.life) (bxo P) (aaD ((w.alloc (bxo P)).drewN m) s ci P.life).drew):=fun m=>ajB hl
 have HW:Hid (∀V,aa0 w (aaD w s ci P.life) (bxo P) V→BoxAt V w.heap.size P∧V.cell? ⟨s,10+ci*3+ni,none⟩=some (.pointer none)∧∀m,Below w.heap.size (aaD w s ci P.life) (V.drewN m)):=fun V hV=>⟨ahA hV.2,(hV.1.cell (p:=⟨s,10+ci*3+ni,none⟩) hl).trans (aji d0 d1 d2 h3 h3'),fun m=>below_drewN hV.1 m⟩
 obtain⟨kd,cl,li,ln,sq',u,pa,o,pl,body⟩:=P
 dsimp only[pv,bxo,aaD]at *
 subst hci hni
 have q1:(0:Int)≤(ci:Int):=by omega
 have q2:(ci:Int)<3:=by omega
 have q3:(0:Int)≤(ni:Int):=by omega
 have q4:(ni:Int)<3:=by omega
 have e1:decide (li<lv)=false:=by simp;omega
 have e2:decide (lv<li)=true:=by simpa using hlt
 by_cases k6:kd=6
 ·have HQ:=aab ((unhide HG) k6)
  subst k6
  clear HG HA HN
  go_enter Tryz.func85,Tryz.ntmps85
  go_wp2_with fail
  go_quiet (fail)
  go_wp2_with fail
  go_quiet (fail)
  go_wp2_with fail
  go_region
  go_wp2_with fail
  go_region
  refine aag _ ((unhide HBF) _) ?_
  intro V hV
  have hw2:=(unhide HW) V hV
  obtain⟨⟨g0,g1,g2,g3,g4,g5,g6,g7,g8,g9⟩,f1,f2⟩:=hw2
  have HB:=aab f2
  clear hV f2 HW HBF
  go_wp2_with fail
  go_quiet (fail)
  go_wp2_with (first|(go_at_call 138;refine((unhide HQ) _ ((unhide HB) _)).mono ?_;rintro e w3 ⟨rfl,hw3⟩))
  go_returns
  exact⟨rfl,hw3⟩
 ·have n6:(kd==6)=false:=by simpa using k6
  by_cases k1:kd=1
  ·have HQ:=aab ((unhide HA) (Or.inl k1))
   subst k1
   clear HG HA HN k6
   go_enter Tryz.func85,Tryz.ntmps85
   go_wp2_with fail
   go_quiet (fail)
   go_wp2_with fail
   go_quiet (fail)
   go_wp2_with fail
   go_region
   go_wp2_with fail
   go_region
   refine aag _ ((unhide HBF) _) ?_
   intro V hV
   have hw2:=(unhide HW) V hV
   obtain⟨⟨g0,g1,g2,g3,g4,g5,g6,g7,g8,g9⟩,f1,f2⟩:=hw2
   have HB:=aab f2
   clear hV f2 HW HBF
   go_wp2_with fail
   go_quiet (fail)
   go_wp2_with (first|(go_at_call 139;refine((unhide HQ) _ ((unhide HB) _)).mono ?_;rintro e w3 ⟨rfl,hw3⟩))
   go_returns
   exact⟨rfl,hw3⟩
  ·have n1:(kd==1)=false:=by simpa using k1
   by_cases k3:kd=3
   ·have HQ:=aab ((unhide HA) (Or.inr k3))
    subst k3
    clear HG HA HN k6 k1
    go_enter Tryz.func85,Tryz.ntmps85
    go_wp2_with fail
    go_quiet (fail)
    go_wp2_with fail
    go_quiet (fail)
    go_wp2_with fail
    go_region
    go_wp2_with fail
    go_region
    refine aag _ ((unhide HBF) _) ?_
    intro V hV
    have hw2:=(unhide HW) V hV
    obtain⟨⟨g0,g1,g2,g3,g4,g5,g6,g7,g8,g9⟩,f1,f2⟩:=hw2
    have HB:=aab f2
    clear hV f2 HW HBF
    go_wp2_with fail
    go_quiet (fail)
    go_wp2_with (first|(go_at_call 139;refine((unhide HQ) _ ((unhide HB) _)).mono ?_;rintro e w3 ⟨rfl,hw3⟩))
    go_returns
    exact⟨rfl,hw3⟩
   ·have n3:(kd==3)=false:=by simpa using k3
    have HQ:=aab ((unhide HN) (by omega))
    clear HG HA HN k6 k1 k3
    go_enter Tryz.func85,Tryz.ntmps85
    go_wp2_with fail
    go_quiet (fail)
    go_wp2_with fail
    go_quiet (fail)
    go_wp2_with fail
    go_region
    go_wp2_with fail
    go_region
    refine aag _ ((unhide HBF) _) ?_
    intro V hV
    have hw2:=(unhide HW) V hV
    obtain⟨⟨g0,g1,g2,g3,g4,g5,g6,g7,g8,g9⟩,f1,f2⟩:=hw2
    have HB:=aab f2
    clear hV f2 HW HBF
    go_wp2_with fail
    go_quiet (fail)
    go_wp2
    go_returns
    exact⟨rfl,(unhide HQ) _ ((unhide HB) _)⟩
end Go.Proofs.YtblomippkddgiaaGreatDoor
namespace Go.Proofs.YtblomippkddgiaaGreatDoor.R
theorem Inv.newLine{M:Bk}{G:Wd}(h:Inv M G){p:Pk}{d:Cd}{i:Nat}(ha:PkAt M G p d i){r:Sn}(hr:G.seen[i]?=some r)(hs:¬r.seq=p.seq)(hlt:¬p.seq<r.seq)(hal:aliveS G.services p.uid=true):Inv M (R.setSeen G i {sn0 with seq:=p.seq,uid:=p.uid,state:=1}):=by
 obtain⟨_,_,_,_,hq5,_,ho9,hpt,_⟩:=ha.right
 have hkey:=ha.key
 have hcd:=(h.bk _ d ha.made).1
 have hml:=afq hcd
 have h255:=h.wf.sv
 obtain⟨_,_,hlf,_,_,hu6,_⟩:=ha.right
 have h2:=h.setSeen (r':={sn0 with seq:=p.seq,uid:=p.uid,state:=1}) hr (by simp only;omega) ⟨fun e=>by simp only at e;omega,by simp only;omega,fun _=>⟨by rw[←ha.life];exact hlf.1,hu6,by simp⟩,by simp[sn0],by simp,by simp,by simp[sn0]⟩ (fun _=>⟨d,by rw[←hkey];exact ha.made,ha.uid,fun _=>⟨by simp[sn0],by simp only[sn0];omega⟩,by simp,fun _=>?_,by simp⟩)
 ·exact h2
 ·rw[←ha.uid]
  refine⟨hal,fun e he hek=>?_⟩
  obtain⟨n,s,a1,a2,a3⟩:=afB hal
  rw[a1,ad7 a2]at he
  have hf:=h.fut n s e a2 a3 he
  rw[←hkey]at hek
  simp only[enKey,pkKey,Key.mk.injEq]at hek
  obtain⟨e1,e2,e3,e4⟩:=hek
  unfold FutOk aj5 at hf
  rw[e1,e2,e3,e4,←ha.i,hr]at hf
  have hl:=ha.life
  obtain⟨_,p2,_,p4,_⟩:=ha.right
  have hdiv:i / 3=p.client.toNat:=by have:=ha.i;omega
  rw[hdiv]at hl
  simp only[Option.getD_some]at hf
  omega
end Go.Proofs.YtblomippkddgiaaGreatDoor.R
namespace Go.Proofs.YtblomippkddgiaaGreatDoor
open Go.RowKit
def abo(P:Pk):R.Sn:={R.sn0 with seq:=P.seq,uid:=P.uid,state:=1}
def aqC(P:Pk):SLn:=⟨P.client,P.life,P.line,P.seq,P.uid,0,[],[],0,0,0⟩
theorem LW.madeLine{p:Pl}{F:aai}{G:R.Wd}{w W:World}(h:LW p F G w){M:R.Bk}{P:Pk}{d:R.Cd}{i b:Nat}(hp:R.PkAt M G P d i)(hm:Made w p.s (aaS p.n p.nm p.t G.c G.lives G.seen) i P b W) :
  LW {p with t:=p.t.put i b} (fun k=>F k∨k=b) (R.setSeen G i (abo P)) W∧QAt {p with t:=p.t.put i b} (R.setSeen G i (abo P)) W i (abo P) (aqC P)∧Went F (fun k=>F k∨k=b) w W:=by
 have hi9:=hp.lt
 have hkey:=hp.key
 simp only[R.pkKey,R.Key.mk.injEq]at hkey
 obtain⟨_,_,hlf,_,hsq,hu6,_⟩:=hp.right
 have hne:(abo P).seq≠0:=by show P.seq≠0;omega
 have hrel:SnRel i (G.lives.getD (i / 3) 0) (abo P) (aqC P):=⟨hkey.1,hkey.2.1,hkey.2.2.1,rfl,rfl,rfl,fun _=>rfl,fun e=>by simp[abo]at e,rfl,fun e=>by simp[abo,R.sn0]at e⟩
 have hok:R.SnOk (G.lives.getD (i / 3) 0) (abo P):=⟨fun e=>absurd e hne,by show 0≤P.seq∧P.seq≤999;omega,fun _=>⟨by rw[←hp.life];exact hlf.1,hu6,by simp[abo]⟩,by simp[abo,R.sn0],by simp[abo],by simp[abo],by simp[abo,R.sn0]⟩
 have hbl:W.heap[b]?=some (.cells (aqC P).cells.toArray 147 (0,0)):=hm.line
 have hs:=h.srv.newLine h.lt h.cold.sl hi9 hne hm.ge hm.keep hm.cells hbl hrel
 have hE:aaK w (fun k=>k=p.s):=aaK.one h.srv.bs (by decide)
 have hws:R.WsOk G.c G.lives (G.seen.set i (abo P)) G.jobs:=aeI h.cold hok
 have q:=h.srvTurn hs hm.keep hE (fun _ r=>Or.inl r) (fun k hk=>by
  rcases hk with hk|rfl
  ·exact Nat.lt_of_lt_of_le (h.lt k hk) hm.keep.size
  ·exact(Array.getElem?_eq_some_iff.1 hm.line).1) (aeJ h.wf i (abo P)) hws (fun i c _ u=>rfl)
 refine⟨q,⟨?_,hne,?_,hrel⟩,hm.keep.mono (fun k _ e=>by rw[e];exact h.srv.foot.1),fun k hk=>?_⟩
 ·show (G.seen.set i (abo P))[i]?=_
  rw[List.getElem?_set,if_pos rfl,if_pos (by rw[h.cold.sl];exact hi9)]
 ·show W.heap[(p.t.put i b).ql i]?=_
  simp only[SP.put,if_true]
  exact hbl
 ·rcases hk with hk|rfl
  ·exact Or.inl hk
  ·exact Or.inr hm.ge
theorem acK(t:SP)(seen:List R.Sn)(n nm:Nat)(c:R.Cf)(lives:List Int){i:Nat}(hi:i<9):(aaS n nm t c lives seen)[10+i]?=some (aaE t seen i):=by
 have h:i=0∨i=1∨i=2∨i=3∨i=4∨i=5∨i=6∨i=7∨i=8:=by omega
 rcases h with rfl|rfl|rfl|rfl|rfl|rfl|rfl|rfl|rfl <;> rfl
theorem ab3(t:SP)(seen:List R.Sn)(i:Nat):∃o,aaE t seen i=.pointer o:=by
 unfold aaE
 split
 ·exact⟨_,rfl⟩
 ·exact⟨_,rfl⟩
theorem aoQ(seen:List R.Sn)(hl:seen.length=9)(h0:∀r∈seen,0≤r.seq):(idx seen).length=R.cnt seen:=by
 obtain⟨a0,a1,a2,a3,a4,a5,a6,a7,a8,rfl⟩:∃a0 a1 a2 a3 a4 a5 a6 a7 a8,seen=[a0,a1,a2,a3,a4,a5,a6,a7,a8]:=by
  match seen,hl with
  |[a0,a1,a2,a3,a4,a5,a6,a7,a8],_=>exact⟨a0,a1,a2,a3,a4,a5,a6,a7,a8,rfl⟩
 have q:∀x:R.Sn,0≤x.seq→decide (x.seq≠0)=decide (0<x.seq):=fun x hx=>by
  by_cases h:x.seq=0
  ·simp[h]
  ·have:0<x.seq:=by omega
   simp[h,this]
 have e:(idx [a0,a1,a2,a3,a4,a5,a6,a7,a8]).map (fun i=>([a0,a1,a2,a3,a4,a5,a6,a7,a8][i]?).getD R.sn0)=[a0,a1,a2,a3,a4,a5,a6,a7,a8].filter fun x=>decide (x.seq≠0):=by
  have:[a0,a1,a2,a3,a4,a5,a6,a7,a8]=(List.range 9).map (fun i=>([a0,a1,a2,a3,a4,a5,a6,a7,a8][i]?).getD R.sn0):=rfl
  conv=>rhs;rw[this]
  rw[List.filter_map]
  rfl
 have e2:=congrArg List.length e
 rw[List.length_map]at e2
 rw[e2]
 unfold R.cnt
 congr 1
 apply List.filter_congr
 intro x hx
 exact q x (h0 x hx)
theorem LW.remS{p:Pl}{F:aai}{G:R.Wd}{w:World}(h:LW p F G w):Calls Tryz.prog 71 #[ptr p.s] w fun e w'=>∃a cap,e=.returned (.slice a (R.rememberedP G) cap)∧Below w.heap.size w w':=by
 refine h.srv.rem.mono ?_
 rintro e w' ⟨O,rfl,hrow,hb⟩
 rw[ahW,List.length_map]at hrow
 rw[aoQ G.seen h.cold.sl (fun r hr=>by
  obtain⟨k,hk⟩:=List.mem_iff_getElem?.1 hr
  exact(h.cold.sn k r hk).seq.1)]at hrow
 obtain⟨a,c,hO⟩:=aas hrow
 subst hO
 exact⟨a,c,rfl,hb⟩
theorem akW(w:World)(b:Nat)(s:List UInt8)(a:Int)(hs:s.length≤1000)(h7:w.cell? ⟨b,7,none⟩=some (.string (str s)))(h8:w.cell? ⟨b,8,none⟩=some (.int .i64 a)) :
  Calls Tryz.prog 198 #[ptr b] w fun e w'=>e=.returned (.bool (decide (a=R.piecesP s-1)))∧w'=w.drew:=by
 have HP:=aab (fun w=>aaP s w (by omega))
 have hn:0≤R.piecesP s∧R.piecesP s≤1000:=by unfold R.piecesP;omega
 generalize str s=SM at *
 generalize R.piecesP s=N at *
 have hsub:IntKind.i64.wrap (N-1)=N-1:=by rw[IntKind.wrap_i64];omega
 go_enter Tryz.func198,Tryz.ntmps198
 go_wp2_with fail
 go_region_held3 (fun w'=>w'.cell? ⟨b,7,none⟩=some (.string SM)∧w'.cell? ⟨b,8,none⟩=some (.int .i64 a)) (go_keep) (first
  |(go_at_call 187;refine((unhide HP) _).mono ?_;rintro e w1 ⟨rfl,hw1⟩;rw[hw1];clear hw1))
 all_goals
  go_wp2
  go_ret
  exact⟨by
   have:(a==N-1)=decide (a=N-1):=by rw[Bool.eq_iff_iff];simp
   rw[this]
   rfl,rfl⟩
def LWt(p:Pl)(F:aai)(w:World)(G:R.Wd)(w':World):Prop:=∃t F',LW {p with t:=t} F' G w'∧Went F F' w w'
theorem LWt.of{p:Pl}{F F':aai}{G:R.Wd}{w w':World}(h:LW p F' G w')(hw:Went F F' w w'):LWt p F w G w':=⟨p.t,F',h,hw⟩
def am6(G:R.Wd)(i:Nat)(r:R.Sn)(P:Pk):R.Wd:=if R.aliveP G P.uid=false then R.replyP G P 7 0 2 else if P.kind=3∨P.part≠0 then G else if r.seq=0∧G.c.table≤(R.rememberedP G:Int) then R.replyP G P 7 1 2 else R.knownP (R.setSeen G i (abo P)) i P
theorem LW.newS{p:Pl}{F:aai}{G:R.Wd}{w:World}(h:LW p F G w){M:R.Bk}(hI:R.Inv M G)(hroom:R.Room G){i:Nat}{r:R.Sn}(hr:G.seen[i]?=some r){P:Pk}{d:R.Cd}(hp:R.PkAt M G P d i)(hk:(P.kind=1∧P.off=R.piecesP d.msg∧P.body=R.pieceP d.msg P.part)∨P.kind=3)(hs:¬r.seq=P.seq)(hlt:¬P.seq<r.seq) :
  Calls Tryz.prog 199 #[ptr p.s,aaE p.t G.seen i,pv P] w fun e w'=>e=.returned (.tuple #[])∧LWt p F w (am6 G i r P) w':=by
 have hi9:=hp.lt
 have hrp:=hp.right
 obtain⟨_,hc2,_,hl2,_⟩:=hrp
 obtain⟨o,hqo⟩:=ab3 p.t G.seen i
 have hL:aaE p.t G.seen i=.pointer none∨∃b,aaE p.t G.seen i=pt b:=by
  unfold aaE
  split
  ·exact Or.inl rfl
  ·exact Or.inr ⟨_,rfl⟩
 have hnil:aaE p.t G.seen i=if r.seq=0 then .pointer none else ptr (p.t.ql i):=by
  unfold aaE
  rw[hr]
  rfl
 have hV:∀wa,Below w.heap.size w wa→Calls Tryz.prog 233 #[pt p.s,.int .i64 P.uid] wa fun e w'=>e=.returned (.bool (R.aliveP G P.uid))∧w'=wa:=fun wa hb=>(h.below hb).alive P.uid
 unfold am6
 cases hal:R.aliveP G P.uid with
 |false=>
  rw[if_pos rfl]
  rw[hal]at hV
  refine am5 w p.s _ hL P _ hV (fun wa hb=>?_)
  refine((h.below hb).rejectS hp.right (Or.inl rfl)).mono ?_
  rintro e w' ⟨rfl,F',m1,m2⟩
  exact⟨rfl,LWt.of m1 ((Went.ofBelow F hb).trans m2)⟩
 |true=>
  rw[if_neg (by simp)]
  rw[hal]at hV
  by_cases hlate:P.kind=3∨P.part≠0
  ·rw[if_pos hlate]
   exact am3 w p.s _ hL P _ hlate hV (fun wa hb=>LWt.of (h.below hb) (Went.ofBelow F hb))
  ·rw[if_neg hlate]
   have hk1:¬P.kind=3:=fun q=>hlate (Or.inl q)
   have hpa:P.part=0:=Decidable.byContradiction fun q=>hlate (Or.inr q)
   have s4:w.cell? ⟨p.s,4,none⟩=some (.int .i64 G.c.table):=h.srv.cell 4 _ rfl
   have hci:P.client=(P.client.toNat:Int):=by omega
   have hni:P.line=(P.line.toNat:Int):=by omega
   have hii:3*P.client.toNat+P.line.toNat=i:=hp.i.symm
   have hcell:(aaS p.n p.nm p.t G.c G.lives G.seen)[10+(3*P.client.toNat+P.line.toNat)]?=some (.pointer o):=by
    rw[hii,acK p.t G.seen p.n p.nm G.c G.lives hi9,hqo]
   have hG:∀b' W,Made w p.s (aaS p.n p.nm p.t G.c G.lives G.seen) (3*P.client.toNat+P.line.toNat) P b' W→Calls Tryz.prog 236 #[pt p.s,pt b',pv P] W fun e w'=>e=.returned (.tuple #[])∧LWt p F w (R.knownP (R.setSeen G i (abo P)) i P) w':=fun b' W hm=>by
    rw[hii]at hm
    obtain⟨q1,q2,q3⟩:=h.madeLine hp hm
    have hI2:R.Inv M (R.setSeen G i (abo P)):=hI.newLine hp hr hs hlt (by simpa [R.aliveP,R.aliveS] using hal)
    have e1:ptr (({p with t:=p.t.put i b'}:Pl).t.ql i)=pt b':=by simp[SP.put]
    rcases hk with ⟨k1,k2,k3⟩|k1
    ·have q4:=q1.gatherS hI2 q2 rfl (hp.cong rfl) k1 k2 k3 rfl
     rw[e1]at q4
     refine q4.mono ?_
     rintro e w' ⟨rfl,F',m1,m2⟩
     refine⟨rfl,p.t.put i b',F',?_,q3.trans m2⟩
     have hsn2:R.seenP (R.setSeen G i (abo P)) i=abo P:=R.seenP_some q2.seen
     unfold R.knownP
     simp only[hsn2]
     rw[if_pos (show (abo P).state=1 from rfl)]
     have hle:P.part≤(abo P).pieces:=by show P.part≤0;omega
     rw[if_pos ⟨k1,hle⟩]
     rw[if_pos hle]at m1
     exact m1
    ·exact absurd k1 hk1
   by_cases h0:r.seq=0
   ·rw[hnil,if_pos h0]
    have hM:∀wa,Below w.heap.size w wa→Calls Tryz.prog 71 #[pt p.s] wa fun e w'=>∃a cap,e=.returned (.slice a (R.rememberedP G) cap)∧Below wa.heap.size wa w':=fun wa hb=>(h.below hb).remS
    by_cases hfull:G.c.table≤(R.rememberedP G:Int)
    ·rw[if_pos ⟨h0,hfull⟩]
     have heq:(R.rememberedP G:Int)=G.c.table:=by
      have:R.rememberedP G=R.cnt G.seen:=rfl
      unfold R.Room at hroom
      omega
     refine am4 w p.s (R.rememberedP G) G.c.table P _ s4 heq hk1 hpa hV hM (fun wa hb=>?_)
     refine((h.below hb).rejectS hp.right (Or.inr rfl)).mono ?_
     rintro e w' ⟨rfl,F',m1,m2⟩
     exact⟨rfl,LWt.of m1 ((Went.ofBelow F hb).trans m2)⟩
    ·rw[if_neg (fun q=>hfull q.2)]
     exact am1 w p.s (R.rememberedP G) P.client.toNat P.line.toNat G.c.table _ P _ h.srv.bs o hcell hci hni (by omega) (by omega) hk1 hpa s4 (by omega) hM hV hG
   ·rw[hnil,if_neg h0,if_neg (fun q=>h0 q.1)]
    exact am2 w p.s (p.t.ql i) P.client.toNat P.line.toNat _ P _ h.srv.bs o hcell hci hni (by omega) (by omega) hk1 hpa hV hG
theorem LW.gotS{p:Pl}{F:aai}{G:R.Wd}{w:World}(h:LW p F G w){i:Nat}{r:R.Sn}(hr:G.seen[i]?=some r){P:Pk}(hsq:1≤P.seq) :
  Calls Tryz.prog 138 #[ptr p.s,aaE p.t G.seen i,pv P] w fun e w'=>e=.returned (.tuple #[])∧LWt p F w (if r.seq=P.seq∧r.state=3∧P.off=R.piecesP r.result∧P.part=r.at'∧r.at'<R.piecesP r.result-1 then R.tellP (R.setSeen G i {r with at':=r.at'+1}) i else G) w':=by
 have hnil:aaE p.t G.seen i=if r.seq=0 then .pointer none else ptr (p.t.ql i):=by
  unfold aaE
  rw[hr]
  rfl
 rw[hnil]
 by_cases h0:r.seq=0
 ·rw[if_pos h0,if_neg (by omega)]
  refine(aml w p.s P).mono ?_
  rintro e w' ⟨rfl,hb⟩
  exact⟨rfl,LWt.of (h.below hb) (Went.ofBelow F hb)⟩
 ·rw[if_neg h0]
  obtain⟨y,hq,_⟩:=h.q hr h0
  have hrl:=hq.rel
  have hsn:=h.cold.sn i r hr
  obtain⟨_,_,_,c3,_,c5,_,c7,c8,_⟩:=yAt hq.blk
  rw[hrl.seq]at c3
  rw[hrl.state]at c5
  by_cases hno:¬r.seq=P.seq∨¬r.state-1=2
  ·rw[if_neg (by omega)]
   refine(aoi w p.s (p.t.ql i) r.seq (r.state-1) P c3 c5 hno).mono ?_
   rintro e w' ⟨rfl,hb⟩
   exact⟨rfl,LWt.of (h.below hb) (Went.ofBelow F hb)⟩
  ·have e1:r.seq=P.seq:=Decidable.byContradiction fun q=>hno (Or.inl q)
   have e3:r.state=3:=by
    have:r.state-1=2:=Decidable.byContradiction fun q=>hno (Or.inr q)
    omega
   obtain⟨b1,b2,b3,b4⟩:=hsn.ans e3
   obtain⟨ean,eat⟩:=hrl.ans e3
   rw[ean]at c7
   rw[eat]at c8
   rw[e1]at c3
   rw[e3]at c5
   have hll:=lt_of_cell c7
   have hp9:=R.pieces_le (s:=r.result) (by omega)
   refine aj8 w p.s (p.t.ql i) (R.piecesP r.result) r.at' (str r.result) (decide (r.at'=R.piecesP r.result-1)) P _ c3 c5 c7 c8 (aac hq.blk) (by omega) (fun w=>aaP r.result w (by omega)) (fun wa hb=>?_) (fun q wa hb=>?_) (fun q1 q2 q3 wa hb=>?_)
   ·exact akW wa _ r.result r.at' (by omega) ((hb.cell (p:=⟨p.t.ql i,7,none⟩) hll).trans c7) ((hb.cell (p:=⟨p.t.ql i,8,none⟩) hll).trans c8)
   ·rw[if_neg (by
     rintro ⟨_,_,x3,x4,x5⟩
     rcases q with q|q|q
     ·exact q x3
     ·exact q x4
     ·have:=of_decide_eq_true q
      omega)]
    exact LWt.of (h.below hb) (Went.ofBelow F hb)
   ·have hnl:¬r.at'=R.piecesP r.result-1:=of_decide_eq_false q3
    rw[if_pos ⟨e1,e3,q1,q2,by omega⟩]
    obtain⟨m1,m0,m2⟩:=h.qturn (r':={r with at':=r.at'+1}) (y':={y with at':=r.at'+1}) hq hq.ne (keeps_one _) (y_store (j:=8) (v:=.int .i64 (r.at'+1)) hq.blk rfl) ⟨hrl.client,hrl.life,hrl.line,hrl.seq,hrl.uid,hrl.state,hrl.asked,fun _=>⟨ean,rfl⟩,hrl.wait,hrl.tries⟩ ⟨fun e=>absurd e hq.ne,hsn.seq,hsn.some,hsn.gath,hsn.wait,fun _=>⟨b1,b2,by simp only;omega,by simp only;omega⟩,hsn.timed⟩
    have hsz:(w.setCell ⟨p.t.ql i,8,none⟩ (.int .i64 (r.at'+1))).heap.size=w.heap.size:=by simp
    rw[←hsz]at hb
    refine((m1.below hb).tell (m0.below hb) e3).mono ?_
    rintro e w' ⟨rfl,F',k1,k2⟩
    exact⟨rfl,LWt.of k1 ((m2.trans (Went.ofBelow F hb)).trans k2)⟩
theorem ahD{G:R.Wd}{i:Nat}{r:R.Sn}(hr:G.seen[i]?=some r)(P:Pk):R.askP G i P=if P.kind=6 then (if r.seq=P.seq∧r.state=3∧P.off=R.piecesP r.result∧P.part=r.at'∧r.at'<R.piecesP r.result-1 then R.tellP (R.setSeen G i {r with at':=r.at'+1}) i else G) else if r.seq=P.seq then R.knownP G i P else if P.seq<r.seq then G else am6 G i r P:=by
 unfold R.askP am6 abo
 simp only[R.seenP_some hr]
theorem LW.askingS{p:Pl}{F:aai}{G:R.Wd}{w:World}(h:LW p F G w){M:R.Bk}(hI:R.Inv M G)(hroom:R.Room G){i:Nat}{r:R.Sn}(hr:G.seen[i]?=some r){P:Pk}{d:R.Cd}(hp:R.PkAt M G P d i)(hk:(P.kind=1∧P.off=R.piecesP d.msg∧P.body=R.pieceP d.msg P.part)∨P.kind=3) :
  Calls Tryz.prog 139 #[ptr p.s,aaE p.t G.seen i,pv P] w fun e w'=>e=.returned (.tuple #[])∧LWt p F w (R.askP G i P) w':=by
 have hsq:=hp.right.2.2.2.2.1
 rw[ahD hr,if_neg (by omega)]
 have hnil:aaE p.t G.seen i=if r.seq=0 then .pointer none else ptr (p.t.ql i):=by
  unfold aaE
  rw[hr]
  rfl
 have up:∀{K:R.Wd} {wa w':World},Below w.heap.size w wa→LWt p F wa K w'→LWt p F w K w':=fun hb ⟨t,F',q1,q2⟩=>⟨t,F',q1,(Went.ofBelow F hb).trans q2⟩
 by_cases h0:r.seq=0
 ·rw[hnil,if_pos h0,if_neg (by omega),if_neg (by omega)]
  refine ajH w p.s P _ (fun wa hb=>?_)
  have q:=(h.below hb).newS hI hroom hr hp hk (by omega) (by omega)
  rw[hnil,if_pos h0]at q
  refine q.mono ?_
  rintro e w' ⟨rfl,m⟩
  exact⟨rfl,up hb m⟩
 ·obtain⟨y,hq,_⟩:=h.q hr h0
  have c3:=(yAt hq.blk).a3
  rw[hq.rel.seq]at c3
  rw[hnil,if_neg h0]
  refine ahB w p.s (p.t.ql i) r.seq P _ c3 (fun hlt wa hb=>?_) (fun heq wa hb=>?_) (fun hgt wa hb=>?_)
  ·rw[if_neg (by omega),if_neg (by omega)]
   have q:=(h.below hb).newS hI hroom hr hp hk (by omega) (by omega)
   rw[hnil,if_neg h0]at q
   refine q.mono ?_
   rintro e w' ⟨rfl,m⟩
   exact⟨rfl,up hb m⟩
  ·rw[if_pos heq]
   refine((h.below hb).knownS hI (hq.below hb) hp hk heq).mono ?_
   rintro e w' ⟨rfl,F',m1,m2⟩
   exact⟨rfl,LWt.of m1 ((Went.ofBelow F hb).trans m2)⟩
  ·rw[if_neg (by omega),if_pos hgt]
   exact LWt.of (h.below hb) (Went.ofBelow F hb)
theorem ank(t:SP)(seen:List R.Sn)(n nm:Nat)(c:R.Cf)(lives:List Int){i:Nat}(hi:i<3):(aaS n nm t c lives seen)[7+i]?=some (.int .i64 (lives.getD i 0)):=by
 have h:i=0∨i=1∨i=2:=by omega
 rcases h with rfl|rfl|rfl <;> rfl
theorem af4{G:R.Wd}{P:Pk}(hlt:G.lives.getD P.client.toNat 0<P.life):R.livesP G P=aa9 G G.services (G.lives.set P.client.toNat P.life) (forgot G.seen P.client.toNat) G.jobs:=by
 unfold R.livesP
 rw[if_pos hlt]
 rfl
theorem af9{w:World}{s ci:Nat}{cs:List Value}{life:Int}(h:w.heap[s]?=some (.cells cs.toArray 167 (0,0))):(aaD w s ci life).heap[s]?=some (.cells ((((cs.set (7+ci) (.int .i64 life)).set (10+3*ci) (.pointer none)).set (10+3*ci+1) (.pointer none)).set (10+3*ci+2) (.pointer none)).toArray 167 (0,0))∧Keeps (fun k=>k=s) w (aaD w s ci life):=by
 have e0:=aad (off:=7+ci) h (.int .i64 life)
 have e1:=aad (off:=10+ci*3) e0 (.pointer none)
 have e2:=aad (off:=10+ci*3+1) e1 (.pointer none)
 have e3:=aad (off:=10+ci*3+2) e2 (.pointer none)
 rw[Nat.mul_comm 3 ci]
 exact⟨e3,(((keeps_one _).trans (keeps_one _)).trans (keeps_one _)).trans (keeps_one _)⟩
theorem LW.askedS{p:Pl}{F:aai}{G:R.Wd}{w:World}(h:LW p F G w){M:R.Bk}(hI:R.Inv M G)(hroom:R.Room G){P:Pk}(hrt:aaj P)(hp:R.PkOk M G.services (-1) P) :
  Calls Tryz.prog 85 #[ptr p.s,pv P] w fun e w'=>e=.returned (.tuple #[])∧LWt p F w (R.askedP G P) w':=by
 obtain⟨d,hd,hu,hk⟩:=hp
 obtain⟨_,hc2,hlf,hl2,hsq,_⟩:=id hrt
 have hkk:(P.kind=1∧P.off=R.piecesP d.msg∧P.body=R.pieceP d.msg P.part)∨P.kind=3∨P.kind=6:=by
  rcases hk with ⟨q1,_,q2,q3⟩|⟨_,q,_⟩|⟨q,_⟩|⟨_,q⟩|⟨_,q,_⟩|⟨q,_⟩|⟨_,q,_⟩
  ·exact Or.inl ⟨q1,q2,q3⟩
  ·omega
  ·exact Or.inr (Or.inl q)
  ·omega
  ·omega
  ·exact Or.inr (Or.inr q)
  ·omega
 generalize hci:P.client.toNat=ci
 generalize hni:P.line.toNat=ni
 have eci:P.client=(ci:Int):=by omega
 have eni:P.line=(ni:Int):=by omega
 have hi9:3*ci+ni<9:=by omega
 have hdiv:(3*ci+ni) / 3=ci:=by omega
 have c7:w.cell? ⟨p.s,7+ci,none⟩=some (.int .i64 (G.lives.getD ci 0)):=aah h.srv.bs (ank p.t G.seen p.n p.nm G.c G.lives (by omega))
 have e10:10+ci*3+ni=10+(3*ci+ni):=by omega
 have c10:w.cell? ⟨p.s,10+ci*3+ni,none⟩=some (aaE p.t G.seen (3*ci+ni)):=by
  rw[e10]
  exact aah h.srv.bs (acK p.t G.seen p.n p.nm G.c G.lives hi9)
 have eA:R.askedP G P=if P.life<G.lives.getD ci 0 then G else R.askP (R.livesP G P) (3*ci+ni) P:=by
  unfold R.askedP
  rw[hci,hni]
 rw[eA]
 have up:∀{K:R.Wd} {wa w':World},Below w.heap.size w wa→LWt p F wa K w'→LWt p F w K w':=fun hb ⟨t,F',q1,q2⟩=>⟨t,F',q1,(Went.ofBelow F hb).trans q2⟩
 rcases Int.lt_trichotomy P.life (G.lives.getD ci 0) with hc|hc|hc
 ·rw[if_pos hc]
  refine(aj2 w p.s ci (G.lives.getD ci 0) P c7 eci (by omega) hc).mono ?_
  rintro e w' ⟨rfl,hb⟩
  exact⟨rfl,LWt.of (h.below hb) (Went.ofBelow F hb)⟩
 ·rw[if_neg (by omega)]
  have eL:R.livesP G P=G:=by
   unfold R.livesP
   rw[hci,if_neg (by omega)]
  rw[eL]
  have hpk:R.PkAt M G P d (3*ci+ni):=⟨hrt,hd,hu,by rw[hdiv];exact hc,by rw[hci,hni]⟩
  have hr:=hI.seen_at hi9
  obtain⟨o,ho⟩:=ab3 p.t G.seen (3*ci+ni)
  rw[←hc]at c7
  rw[ho]at c10
  refine aiI w p.s ci ni o P _ c7 c10 eci eni (by omega) (by omega) (fun k6 wa hb=>?_) (fun k13 wa hb=>?_) (fun hno wa hb=>?_)
  ·have q:=(h.below hb).gotS hr (P:=P) hsq.1
   rw[ho]at q
   refine q.mono ?_
   rintro e w' ⟨rfl,m⟩
   refine⟨rfl,?_⟩
   rw[ahD hr,if_pos k6]
   exact up hb m
  ·have q:=(h.below hb).askingS hI hroom hr hpk (by
    rcases hkk with q|q|q
    ·exact Or.inl q
    ·exact Or.inr q
    ·omega)
   rw[ho]at q
   refine q.mono ?_
   rintro e w' ⟨rfl,m⟩
   exact⟨rfl,up hb m⟩
  ·omega
 ·rw[if_neg (by omega)]
  have hlt:G.lives.getD P.client.toNat 0<P.life:=by rw[hci];exact hc
  have hI2:=hI.lives hrt hd
  have hroom2:=hroom.lives P
  obtain⟨o0,d0⟩:=ab3 p.t G.seen (3*ci)
  obtain⟨o1,d1⟩:=ab3 p.t G.seen (3*ci+1)
  obtain⟨o2,d2⟩:=ab3 p.t G.seen (3*ci+2)
  have cq:∀j,j<3→w.cell? ⟨p.s,10+ci*3+j,none⟩=some (aaE p.t G.seen (3*ci+j)):=fun j hj=>by
   have e:10+ci*3+j=10+(3*ci+j):=by omega
   rw[e]
   exact aah h.srv.bs (acK p.t G.seen p.n p.nm G.c G.lives (by omega))
  have f0:=cq 0 (by omega)
  rw[Nat.add_zero,Nat.add_zero,d0]at f0
  have f1:=cq 1 (by omega)
  rw[d1]at f1
  have f2:=cq 2 (by omega)
  rw[d2]at f2
  obtain⟨hcells,hkp⟩:=af9 (ci:=ci) (life:=P.life) h.srv.bs
  have hsrv:=h.srv.forget h.cold.ll (by omega) hkp hcells
  have hws2:=hI2.ws
  have hwf2:=hI2.wf
  rw[af4 hlt,hci]at hI2 hroom2 hws2 hwf2
  have hL2:=h.srvTurn hsrv hkp (aaK.one h.srv.bs (by decide)) (fun _ q=>q) (fun k hf=>Nat.lt_of_lt_of_le (h.lt k hf) hkp.size) hwf2 hws2 (fun i c _ u=>rfl)
  have hW2:Went F F w (aaD w p.s ci P.life):=⟨hkp.mono (fun k _ e=>by rw[e];exact h.srv.foot.1),fun _ q=>Or.inl q⟩
  rw[af4 hlt,hci]
  generalize hG2:aa9 G G.services (G.lives.set ci P.life) (forgot G.seen ci) G.jobs=G2 at hI2 hroom2 hL2
  have hr2:=hI2.seen_at hi9
  have hsn0:R.seenP G2 (3*ci+ni)=R.sn0:=by
   rw[←hG2]at hr2 ⊢
   rcases forgot_get G.seen ci (3*ci+ni) _ hr2 with ⟨_,q⟩|⟨q,_⟩
   ·exact q
   ·omega
  have hqn:aaE p.t G2.seen (3*ci+ni)=.pointer none:=by
   unfold aaE
   rw[hr2,hsn0]
   rfl
  have hpk:R.PkAt M G2 P d (3*ci+ni):=⟨hrt,hd,hu,by
   rw[hdiv,←hG2]
   show P.life=(G.lives.set ci P.life).getD ci 0
   rw[List.getD_eq_getElem?_getD,List.getElem?_set,if_pos rfl,if_pos (by rw[h.cold.ll];omega)]
   rfl,by rw[hci,hni]⟩
  have hsz:(aaD w p.s ci P.life).heap.size=w.heap.size:=by simp
  have up2:∀{K:R.Wd} {wa w':World},Below (aaD w p.s ci P.life).heap.size (aaD w p.s ci P.life) wa→LWt p F wa K w'→LWt p F w K w':=fun hb ⟨t,F',q1,q2⟩=>⟨t,F',q1,(hW2.trans (Went.ofBelow F hb)).trans q2⟩
  refine aj3 w p.s ci ni (G.lives.getD ci 0) o0 o1 o2 P _ c7 f0 f1 f2 (fun j=>aac h.srv.bs) eci eni (by omega) (by omega) hc (fun k6 wa hb=>?_) (fun k13 wa hb=>?_) (fun hno wa hb=>?_)
  ·rw[←hsz]at hb
   have q:=(hL2.below hb).gotS hr2 (P:=P) hsq.1
   rw[hqn]at q
   refine q.mono ?_
   rintro e w' ⟨rfl,m⟩
   refine⟨rfl,?_⟩
   rw[ahD hr2,if_pos k6]
   exact up2 hb m
  ·rw[←hsz]at hb
   have q:=(hL2.below hb).askingS hI2 hroom2 hr2 hpk (by
    rcases hkk with q|q|q
    ·exact Or.inl q
    ·exact Or.inr q
    ·omega)
   rw[hqn]at q
   refine q.mono ?_
   rintro e w' ⟨rfl,m⟩
   exact⟨rfl,up2 hb m⟩
  ·omega
end Go.Proofs.YtblomippkddgiaaGreatDoor
