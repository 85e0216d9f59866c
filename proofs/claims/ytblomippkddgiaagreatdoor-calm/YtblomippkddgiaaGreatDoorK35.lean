import Derived.Test.YtblomippkddgiaaGreatDoorK34
set_option maxRecDepth 100000
set_option maxHeartbeats 4000000
namespace Go.Proofs.YtblomippkddgiaaGreatDoor
open Go.RowKit
abbrev BA(w:World)(s ci:Nat)(Ag:Int):World:=(((w.setCell ⟨s,7+ci,none⟩ (.int .i64 Ag)).setCell ⟨s,10+ci*3,none⟩ (.pointer none)).setCell ⟨s,10+ci*3+1,none⟩ (.pointer none)).setCell ⟨s,10+ci*3+2,none⟩ (.pointer none)
theorem QV{w:World}{o:Obj}{m s ci:Nat}{Ag:Int}(hs:s<w.heap.size):Boxed w (BA w s ci Ag) o (BA ((w.alloc o).drewN m) s ci Ag).drew:=by
 have e:BA (w.alloc o) s ci Ag=(BA w s ci Ag).alloc o:=by
  unfold BA;rw[World.setCell_alloc_past o s _ _ hs,World.setCell_alloc_past o s _ _ (by simpa using hs),World.setCell_alloc_past o s _ _ (by simpa using hs),World.setCell_alloc_past o s _ _ (by simpa using hs)]
 have e2:(BA ((w.alloc o).drewN m) s ci Ag).drew=(((BA w s ci Ag).alloc o).drewN m).drew:=by
  rw[<-e];rfl
 rw[e2];refine⟨(below_drewN ((Below.refl _ _).alloc (by simp) _) _).drew,?_⟩;have:=heap_alloc_new (BA w s ci Ag) o;simpa using this
theorem Rp{w:World}{s ci ni:Nat}{Ag:Int}{o0 o1 o2:Option Addr}(d0:w.cell? ⟨s,10+ci*3,none⟩=some (.pointer o0))(d1:w.cell? ⟨s,10+ci*3+1,none⟩=some (.pointer o1))(d2:w.cell? ⟨s,10+ci*3+2,none⟩=some (.pointer o2))(hc:ci<3)(hn:ni<3):(BA w s ci Ag).cell? ⟨s,10+ci*3+ni,none⟩=some (.pointer none):=by
 have ne:∀{a b:Nat},a≠b->(⟨s,a,none⟩:Addr)≠⟨s,b,none⟩:=fun h q=>h (by cases q;rfl)
 have h:ni=0\/ni=1\/ni=2:=by omega
 unfold BA;rcases h with rfl|rfl|rfl
 ·rw[World.cell?_setCell_other (h:=ne (by omega)),World.cell?_setCell_other (h:=ne (by omega))];exact World.cell?_setCell_same (h:=(World.cell?_setCell_other (h:=ne (by omega)) ..).trans d0) ..
 ·rw[World.cell?_setCell_other (h:=ne (by omega))];exact World.cell?_setCell_same (h:=(World.cell?_setCell_other (h:=ne (by omega)) ..).trans ((World.cell?_setCell_other (h:=ne (by omega)) ..).trans d1)) ..
 ·exact World.cell?_setCell_same (h:=(World.cell?_setCell_other (h:=ne (by omega)) ..).trans ((World.cell?_setCell_other (h:=ne (by omega)) ..).trans ((World.cell?_setCell_other (h:=ne (by omega)) ..).trans d2))) ..
theorem Vi(w:World)(s ci ni:Nat)(lv:Int)(o0 o1 o2:Option Addr)(P:Pk)(Post:World->Prop)(h7:w.cell? ⟨s,7+ci,none⟩=some (.int .i64 lv))(d0:w.cell? ⟨s,10+ci*3,none⟩=some (.pointer o0))(d1:w.cell? ⟨s,10+ci*3+1,none⟩=some (.pointer o1))(d2:w.cell? ⟨s,10+ci*3+2,none⟩=some (.pointer o2))(z:∀j,w.frozen? ⟨s,j,none⟩=false)(hci:P.client=(ci:Int))(hni:P.line=(ni:Int))(h3:ci<3)(h3':ni<3)(hlt:lv<P.Ag)
  (HG:Hid (P.kind=6->∀wa,Below w.heap.size (BA w s ci P.Ag) wa->Calls Tryz.prog 138 #[pt s,.pointer none,pv P] wa fun e w'=>e=.returned (.tuple #[])/\Post w'))
  (HA:Hid (P.kind=1\/P.kind=3->∀wa,Below w.heap.size (BA w s ci P.Ag) wa->Calls Tryz.prog 139 #[pt s,.pointer none,pv P] wa fun e w'=>e=.returned (.tuple #[])/\Post w'))
  (HN:Hid (¬(P.kind=6\/P.kind=1\/P.kind=3)->∀wa,Below w.heap.size (BA w s ci P.Ag) wa->Post wa)):
  Calls Tryz.prog 85 #[pt s,pv P] w fun e w'=>e=.returned (.tuple #[])/\Post w':=by
 have hl:=lt_of_cell h7;have HBF:Hid (∀m,Boxed w (BA w s ci P.Ag) (IJ P) (BA ((w.alloc (IJ P)).drewN m) s ci P.Ag).drew):=fun m=>QV hl
 have HW:Hid (∀V,Boxed w (BA w s ci P.Ag) (IJ P) V->J6 V w.heap.size P/\V.cell? ⟨s,10+ci*3+ni,none⟩=some (.pointer none)/\∀m,Below w.heap.size (BA w s ci P.Ag) (V.drewN m)):=fun V hV=>⟨KT hV.2,(hV.1.cell (p:=⟨s,10+ci*3+ni,none⟩) hl).trans (Rp d0 d1 d2 h3 h3'),fun m=>below_drewN hV.1 m⟩
 obtain⟨kd,cl,li,ln,sq',u,pa,o,pl,body⟩:=P;dsimp only[pv,IJ,BA]at *;subst hci hni;have q1:(0:Int)<=(ci:Int):=by omega
 have q2:(ci:Int)<3:=by omega
 have q3:(0:Int)<=(ni:Int):=by omega
 have q4:(ni:Int)<3:=by omega
 have e1:decide (li<lv)=false:=by simp;omega
 have e2:decide (lv<li)=true:=by simpa using hlt
 by_cases k6:kd=6
 ·have HQ:=Ab ((Aa HG) k6);subst k6;clear HG HA HN;go_enter Tryz.func85,Tryz.ntmps85;go_wp2_with fail
  go_quiet (fail);go_wp2_with fail
  go_quiet (fail);go_wp2_with fail
  go_region
  go_wp2_with fail
  go_region
  refine AL _ ((Aa HBF) _) ?_;intro V hV;have hw2:=(Aa HW) V hV;obtain⟨⟨g0,g1,g2,g3,g4,g5,g6,g7,g8,g9⟩,f1,f2⟩:=hw2;have HB:=Ab f2;clear hV f2 HW HBF;go_wp2_with fail
  go_quiet (fail);go_wp2_with (first|(go_at_call 138;refine((Aa HQ) _ ((Aa HB) _)).mono ?_;rintro e w3 ⟨rfl,hw3⟩))
  go_returns;exact⟨rfl,hw3⟩
 ·have n6:(kd==6)=false:=by simpa using k6
  by_cases k1:kd=1
  ·have HQ:=Ab ((Aa HA) (Or.inl k1));subst k1;clear HG HA HN k6;go_enter Tryz.func85,Tryz.ntmps85;go_wp2_with fail
   go_quiet (fail);go_wp2_with fail
   go_quiet (fail);go_wp2_with fail
   go_region
   go_wp2_with fail
   go_region
   refine AL _ ((Aa HBF) _) ?_;intro V hV;have hw2:=(Aa HW) V hV;obtain⟨⟨g0,g1,g2,g3,g4,g5,g6,g7,g8,g9⟩,f1,f2⟩:=hw2;have HB:=Ab f2;clear hV f2 HW HBF;go_wp2_with fail
   go_quiet (fail);go_wp2_with (first|(go_at_call 139;refine((Aa HQ) _ ((Aa HB) _)).mono ?_;rintro e w3 ⟨rfl,hw3⟩))
   go_returns;exact⟨rfl,hw3⟩
  ·have n1:(kd==1)=false:=by simpa using k1
   by_cases k3:kd=3
   ·have HQ:=Ab ((Aa HA) (Or.inr k3));subst k3;clear HG HA HN k6 k1;go_enter Tryz.func85,Tryz.ntmps85;go_wp2_with fail
    go_quiet (fail);go_wp2_with fail
    go_quiet (fail);go_wp2_with fail
    go_region
    go_wp2_with fail
    go_region
    refine AL _ ((Aa HBF) _) ?_;intro V hV;have hw2:=(Aa HW) V hV;obtain⟨⟨g0,g1,g2,g3,g4,g5,g6,g7,g8,g9⟩,f1,f2⟩:=hw2;have HB:=Ab f2;clear hV f2 HW HBF;go_wp2_with fail
    go_quiet (fail);go_wp2_with (first|(go_at_call 139;refine((Aa HQ) _ ((Aa HB) _)).mono ?_;rintro e w3 ⟨rfl,hw3⟩))
    go_returns;exact⟨rfl,hw3⟩
   ·have n3:(kd==3)=false:=by simpa using k3
    have HQ:=Ab ((Aa HN) (by omega));clear HG HA HN k6 k1 k3;go_enter Tryz.func85,Tryz.ntmps85;go_wp2_with fail
    go_quiet (fail);go_wp2_with fail
    go_quiet (fail);go_wp2_with fail
    go_region
    go_wp2_with fail
    go_region
    refine AL _ ((Aa HBF) _) ?_;intro V hV;have hw2:=(Aa HW) V hV;obtain⟨⟨g0,g1,g2,g3,g4,g5,g6,g7,g8,g9⟩,f1,f2⟩:=hw2;have HB:=Ab f2;clear hV f2 HW HBF;go_wp2_with fail
    go_quiet (fail);go_wp2;go_returns;exact⟨rfl,(Aa HQ) _ ((Aa HB) _)⟩
def Dj(P:Pk):R.Sn:={R.De with seq:=P.seq,uid:=P.uid,state:=1}
def aaU(P:Pk):Ku:=⟨P.client,P.Ag,P.line,P.seq,P.uid,0,[],[],0,0,0⟩
theorem LW.WU{p:Pl}{F:Aq}{G:R.Wd}{w W:World}(h:LW p F G w){M:R.Bk}{P:Pk}{d:R.Cd}{i b:Nat}(hp:R.Fy M G P d i)(hm:Made w p.s (Cv p.n p.nm p.t G.c G.Ai G.seen) i P b W):
  LW {p with t:=p.t.put i b} (fun k=>F k\/k=b) (R.Av G i (Dj P)) W/\QF {p with t:=p.t.put i b} (R.Av G i (Dj P)) W i (Dj P) (aaU P)/\Ay F (fun k=>F k\/k=b) w W:=by
 have hi9:=hp.lt;have hkey:=hp.key;simp only[R.DZ,R.Key.mk.injEq]at hkey;obtain⟨_,_,hlf,_,hsq,hu6,_⟩:=hp.right;have hne:(Dj P).seq≠0:=by show P.seq≠0;omega
 have hrel:J7 i (G.Ai.getD (i / 3) 0) (Dj P) (aaU P):=⟨hkey.1,hkey.2.1,hkey.2.2.1,rfl,rfl,rfl,fun _=>rfl,fun e=>by simp[Dj]at e,rfl,fun e=>by simp[Dj,R.De]at e⟩;have hok:R.Oy (G.Ai.getD (i / 3) 0) (Dj P):=⟨fun e=>absurd e hne,by show 0<=P.seq/\P.seq<=999;omega,fun _=>⟨by rw[<-hp.Ag];exact hlf.1,hu6,by simp[Dj]⟩,by simp[Dj,R.De],by simp[Dj],by simp[Dj],by simp[Dj,R.De]⟩;have hbl:W.heap[b]?=some (.cells (aaU P).cells.toArray 147 (0,0)):=hm.line;have hs:=h.Co.N4 h.lt h.Eb.sl hi9 hne hm.ge hm.keep hm.cells hbl hrel;have hE:BQ w (fun k=>k=p.s):=BQ.one h.Co.bs (by decide);have hws:R.KQ G.c G.Ai (G.seen.set i (Dj P)) G.jobs:=LP h.Eb hok;have q:=h.JB hs hm.keep hE (fun _ r=>Or.inl r) (fun k hk=>by
  rcases hk with hk|rfl
  ·exact Nat.lt_of_lt_of_le (h.lt k hk) hm.keep.size
  ·exact(Array.getElem?_eq_some_iff.1 hm.line).1) (LO h.wf i (Dj P)) hws (fun i c _ u=>rfl)
 refine⟨q,⟨?_,hne,?_,hrel⟩,hm.keep.mono (fun k _ e=>by rw[e];exact h.Co.BM.1),fun k hk=>?_⟩
 ·show (G.seen.set i (Dj P))[i]?=_;rw[List.getElem?_set,if_pos rfl,if_pos (by rw[h.Eb.sl];exact hi9)]
 ·show W.heap[(p.t.put i b).ql i]?=_;simp only[SP.put,if_true];exact hbl
 ·rcases hk with hk|rfl
  ·exact Or.inl hk
  ·exact Or.inr hm.ge
theorem Hu(t:SP)(seen:List R.Sn)(n nm:Nat)(c:R.Cf)(Ai:List Int){i:Nat}(hi:i<9):(Cv n nm t c Ai seen)[10+i]?=some (Bm t seen i):=by
 have h:i=0\/i=1\/i=2\/i=3\/i=4\/i=5\/i=6\/i=7\/i=8:=by omega
 rcases h with rfl|rfl|rfl|rfl|rfl|rfl|rfl|rfl|rfl<;>rfl
theorem FZ(t:SP)(seen:List R.Sn)(i:Nat):∃o,Bm t seen i=.pointer o:=by
 unfold Bm;split
 ·exact⟨_,rfl⟩
 ·exact⟨_,rfl⟩
theorem Zc(seen:List R.Sn)(hl:seen.length=9)(h0:∀r∈seen,0<=r.seq):(idx seen).length=R.cnt seen:=by
 obtain⟨a0,a1,a2,a3,a4,a5,a6,a7,a8,rfl⟩:∃a0 a1 a2 a3 a4 a5 a6 a7 a8,seen=[a0,a1,a2,a3,a4,a5,a6,a7,a8]:=by
  match seen,hl with
  |[a0,a1,a2,a3,a4,a5,a6,a7,a8],_=>exact⟨a0,a1,a2,a3,a4,a5,a6,a7,a8,rfl⟩
 have q:∀x:R.Sn,0<=x.seq->decide (x.seq≠0)=decide (0<x.seq):=fun x hx=>by
  by_cases h:x.seq=0
  ·simp[h]
  ·have:0<x.seq:=by omega
   simp[h,this]
 have e:(idx [a0,a1,a2,a3,a4,a5,a6,a7,a8]).map (fun i=>([a0,a1,a2,a3,a4,a5,a6,a7,a8][i]?).getD R.De)=[a0,a1,a2,a3,a4,a5,a6,a7,a8].filter fun x=>decide (x.seq≠0):=by
  have:[a0,a1,a2,a3,a4,a5,a6,a7,a8]=(List.range 9).map (fun i=>([a0,a1,a2,a3,a4,a5,a6,a7,a8][i]?).getD R.De):=rfl;conv=>rhs;rw[this]
  rw[List.filter_map];rfl
 have e2:=congrArg List.length e;rw[List.length_map]at e2;rw[e2];unfold R.cnt;congr 1;apply List.filter_congr;intro x hx;exact q x (h0 x hx)
theorem LW.acS{p:Pl}{F:Aq}{G:R.Wd}{w:World}(h:LW p F G w):Calls Tryz.prog 71 #[ptr p.s] w fun e w'=>∃a cap,e=.returned (.slice a (R.A5 G) cap)/\Below w.heap.size w w':=by
 refine h.Co.rem.mono ?_;rintro e w' ⟨O,rfl,hrow,hb⟩;rw[XR,List.length_map]at hrow;rw[Zc G.seen h.Eb.sl (fun r hr=>by
  obtain⟨k,hk⟩:=List.mem_iff_getElem?.1 hr;exact(h.Eb.sn k r hk).seq.1)]at hrow
 obtain⟨a,c,hO⟩:=Bg hrow;subst hO;exact⟨a,c,rfl,hb⟩
theorem UB(w:World)(b:Nat)(s:List UInt8)(a:Int)(hs:s.length<=1000)(h7:w.cell? ⟨b,7,none⟩=some (.string (str s)))(h8:w.cell? ⟨b,8,none⟩=some (.int .i64 a)):
  Calls Tryz.prog 198 #[ptr b] w fun e w'=>e=.returned (.bool (decide (a=R.Ae s-1)))/\w'=w.drew:=by
 have HP:=Ab (fun w=>C8 s w (by omega));have hn:0<=R.Ae s/\R.Ae s<=1000:=by unfold R.Ae;omega
 generalize str s=SM at *;generalize R.Ae s=N at *;have hsub:IntKind.i64.wrap (N-1)=N-1:=by rw[IntKind.wrap_i64];omega
 go_enter Tryz.func198,Tryz.ntmps198;go_wp2_with fail
 go_region_held3 (fun w'=>w'.cell? ⟨b,7,none⟩=some (.string SM)/\w'.cell? ⟨b,8,none⟩=some (.int .i64 a)) (go_keep) (first
  |(go_at_call 187;refine((Aa HP) _).mono ?_;rintro e w1 ⟨rfl,hw1⟩;rw[hw1];clear hw1))
 all_goals
  go_wp2
  go_ret
  exact⟨by
   have:(a==N-1)=decide (a=N-1):=by rw[Bool.eq_iff_iff];simp
   rw[this];rfl,rfl⟩
def Ib(p:Pl)(F:Aq)(w:World)(G:R.Wd)(w':World):Prop:=∃t F',LW {p with t:=t} F' G w'/\Ay F F' w w'
theorem Ib.of{p:Pl}{F F':Aq}{G:R.Wd}{w w':World}(h:LW p F' G w')(hw:Ay F F' w w'):Ib p F w G w':=⟨p.t,F',h,hw⟩
def Ty(G:R.Wd)(i:Nat)(r:R.Sn)(P:Pk):R.Wd:=if R.AO G P.uid=false then R.CU G P 7 0 2 else if P.kind=3\/P.part≠0 then G else if r.seq=0/\G.c.table<=(R.A5 G:Int) then R.CU G P 7 1 2 else R.CL (R.Av G i (Dj P)) i P
theorem LW.acb{p:Pl}{F:Aq}{G:R.Wd}{w:World}(h:LW p F G w){M:R.Bk}(hI:R.Inv M G)(hroom:R.Room G){i:Nat}{r:R.Sn}(hr:G.seen[i]?=some r){P:Pk}{d:R.Cd}(hp:R.Fy M G P d i)(hk:(P.kind=1/\P.off=R.Ae d.msg/\P.body=R.Bb d.msg P.part)\/P.kind=3)(hs:¬r.seq=P.seq)(hlt:¬P.seq<r.seq):
  Calls Tryz.prog 199 #[ptr p.s,Bm p.t G.seen i,pv P] w fun e w'=>e=.returned (.tuple #[])/\Ib p F w (Ty G i r P) w':=by
 have hi9:=hp.lt;have hrp:=hp.right;obtain⟨_,hc2,_,hl2,_⟩:=hrp;obtain⟨o,hqo⟩:=FZ p.t G.seen i;have hL:Bm p.t G.seen i=.pointer none\/∃b,Bm p.t G.seen i=pt b:=by
  unfold Bm;split
  ·exact Or.inl rfl
  ·exact Or.inr ⟨_,rfl⟩
 have hnil:Bm p.t G.seen i=if r.seq=0 then .pointer none else ptr (p.t.ql i):=by
  unfold Bm;rw[hr];rfl
 have hV:∀wa,Below w.heap.size w wa->Calls Tryz.prog 233 #[pt p.s,.int .i64 P.uid] wa fun e w'=>e=.returned (.bool (R.AO G P.uid))/\w'=wa:=fun wa hb=>(h.below hb).alive P.uid
 unfold Ty;cases hal:R.AO G P.uid with
 |false=>
  rw[if_pos rfl];rw[hal]at hV;refine Xe w p.s _ hL P _ hV (fun wa hb=>?_);refine((h.below hb).Oa hp.right (Or.inl rfl)).mono ?_;rintro e w' ⟨rfl,F',m1,m2⟩;exact⟨rfl,Ib.of m1 ((Ay.Aj F hb).trans m2)⟩
 |true=>
  rw[if_neg (by simp)];rw[hal]at hV;by_cases hlate:P.kind=3\/P.part≠0
  ·rw[if_pos hlate];exact Xg w p.s _ hL P _ hlate hV (fun wa hb=>Ib.of (h.below hb) (Ay.Aj F hb))
  ·rw[if_neg hlate];have hk1:¬P.kind=3:=fun q=>hlate (Or.inl q)
   have hpa:P.part=0:=Decidable.byContradiction fun q=>hlate (Or.inr q)
   have s4:w.cell? ⟨p.s,4,none⟩=some (.int .i64 G.c.table):=h.Co.cell 4 _ rfl;have hci:P.client=(P.client.toNat:Int):=by omega
   have hni:P.line=(P.line.toNat:Int):=by omega
   have hii:3*P.client.toNat+P.line.toNat=i:=hp.i.symm;have hcell:(Cv p.n p.nm p.t G.c G.Ai G.seen)[10+(3*P.client.toNat+P.line.toNat)]?=some (.pointer o):=by
    rw[hii,Hu p.t G.seen p.n p.nm G.c G.Ai hi9,hqo]
   have hG:∀b' W,Made w p.s (Cv p.n p.nm p.t G.c G.Ai G.seen) (3*P.client.toNat+P.line.toNat) P b' W->Calls Tryz.prog 236 #[pt p.s,pt b',pv P] W fun e w'=>e=.returned (.tuple #[])/\Ib p F w (R.CL (R.Av G i (Dj P)) i P) w':=fun b' W hm=>by
    rw[hii]at hm;obtain⟨q1,q2,q3⟩:=h.WU hp hm;have hI2:R.Inv M (R.Av G i (Dj P)):=hI.N4 hp hr hs hlt (by simpa [R.AO,R.Dp] using hal);have e1:ptr (({p with t:=p.t.put i b'}:Pl).t.ql i)=pt b':=by simp[SP.put]
    rcases hk with ⟨k1,k2,k3⟩|k1
    ·have q4:=q1.Tj hI2 q2 rfl (hp.YM rfl) k1 k2 k3 rfl;rw[e1]at q4;refine q4.mono ?_;rintro e w' ⟨rfl,F',m1,m2⟩;refine⟨rfl,p.t.put i b',F',?_,q3.trans m2⟩;have hsn2:R.Ap (R.Av G i (Dj P)) i=Dj P:=R.BN q2.seen;unfold R.CL;simp only[hsn2];rw[if_pos (show (Dj P).state=1 from rfl)];have hle:P.part<=(Dj P).pieces:=by show P.part<=0;omega
     rw[if_pos ⟨k1,hle⟩];rw[if_pos hle]at m1;exact m1
    ·exact absurd k1 hk1
   by_cases h0:r.seq=0
   ·rw[hnil,if_pos h0];have hM:∀wa,Below w.heap.size w wa->Calls Tryz.prog 71 #[pt p.s] wa fun e w'=>∃a cap,e=.returned (.slice a (R.A5 G) cap)/\Below wa.heap.size wa w':=fun wa hb=>(h.below hb).acS
    by_cases hfull:G.c.table<=(R.A5 G:Int)
    ·rw[if_pos ⟨h0,hfull⟩];have heq:(R.A5 G:Int)=G.c.table:=by
      have:R.A5 G=R.cnt G.seen:=rfl;unfold R.Room at hroom;omega
     refine Xf w p.s (R.A5 G) G.c.table P _ s4 heq hk1 hpa hV hM (fun wa hb=>?_);refine((h.below hb).Oa hp.right (Or.inr rfl)).mono ?_;rintro e w' ⟨rfl,F',m1,m2⟩;exact⟨rfl,Ib.of m1 ((Ay.Aj F hb).trans m2)⟩
    ·rw[if_neg (fun q=>hfull q.2)];exact Xi w p.s (R.A5 G) P.client.toNat P.line.toNat G.c.table _ P _ h.Co.bs o hcell hci hni (by omega) (by omega) hk1 hpa s4 (by omega) hM hV hG
   ·rw[hnil,if_neg h0,if_neg (fun q=>h0 q.1)];exact Xh w p.s (p.t.ql i) P.client.toNat P.line.toNat _ P _ h.Co.bs o hcell hci hni (by omega) (by omega) hk1 hpa hV hG
theorem LW.abX{p:Pl}{F:Aq}{G:R.Wd}{w:World}(h:LW p F G w){i:Nat}{r:R.Sn}(hr:G.seen[i]?=some r){P:Pk}(hsq:1<=P.seq):
  Calls Tryz.prog 138 #[ptr p.s,Bm p.t G.seen i,pv P] w fun e w'=>e=.returned (.tuple #[])/\Ib p F w (if r.seq=P.seq/\r.state=3/\P.off=R.Ae r.result/\P.part=r.at'/\r.at'<R.Ae r.result-1 then R.DR (R.Av G i {r with at':=r.at'+1}) i else G) w':=by
 have hnil:Bm p.t G.seen i=if r.seq=0 then .pointer none else ptr (p.t.ql i):=by
  unfold Bm;rw[hr];rfl
 rw[hnil];by_cases h0:r.seq=0
 ·rw[if_pos h0,if_neg (by omega)];refine(X7 w p.s P).mono ?_;rintro e w' ⟨rfl,hb⟩;exact⟨rfl,Ib.of (h.below hb) (Ay.Aj F hb)⟩
 ·rw[if_neg h0];obtain⟨y,hq,_⟩:=h.q hr h0;have hrl:=hq.rel;have hsn:=h.Eb.sn i r hr;obtain⟨_,_,_,c3,_,c5,_,c7,c8,_⟩:=TK hq.blk;rw[hrl.seq]at c3;rw[hrl.state]at c5;by_cases hno:¬r.seq=P.seq\/¬r.state-1=2
  ·rw[if_neg (by omega)];refine(ZJ w p.s (p.t.ql i) r.seq (r.state-1) P c3 c5 hno).mono ?_;rintro e w' ⟨rfl,hb⟩;exact⟨rfl,Ib.of (h.below hb) (Ay.Aj F hb)⟩
  ·have e1:r.seq=P.seq:=Decidable.byContradiction fun q=>hno (Or.inl q)
   have e3:r.state=3:=by
    have:r.state-1=2:=Decidable.byContradiction fun q=>hno (Or.inr q)
    omega
   obtain⟨b1,b2,b3,b4⟩:=hsn.ans e3;obtain⟨ean,Ct⟩:=hrl.ans e3;rw[ean]at c7;rw[Ct]at c8;rw[e1]at c3;rw[e3]at c5;have hll:=lt_of_cell c7;have hp9:=R.Er (s:=r.result) (by omega);refine Vf w p.s (p.t.ql i) (R.Ae r.result) r.at' (str r.result) (decide (r.at'=R.Ae r.result-1)) P _ c3 c5 c7 c8 (open_list hq.blk) (by omega) (fun w=>C8 r.result w (by omega)) (fun wa hb=>?_) (fun q wa hb=>?_) (fun q1 q2 q3 wa hb=>?_)
   ·exact UB wa _ r.result r.at' (by omega) ((hb.cell (p:=⟨p.t.ql i,7,none⟩) hll).trans c7) ((hb.cell (p:=⟨p.t.ql i,8,none⟩) hll).trans c8)
   ·rw[if_neg (by
     rintro ⟨_,_,x3,x4,x5⟩;rcases q with q|q|q
     ·exact q x3
     ·exact q x4
     ·have:=of_decide_eq_true q;omega)]
    exact Ib.of (h.below hb) (Ay.Aj F hb)
   ·have hnl:¬r.at'=R.Ae r.result-1:=of_decide_eq_false q3;rw[if_pos ⟨e1,e3,q1,q2,by omega⟩];obtain⟨m1,m0,m2⟩:=h.LF (r':={r with at':=r.at'+1}) (y':={y with at':=r.at'+1}) hq hq.ne (Am _) (GK (j:=8) (v:=.int .i64 (r.at'+1)) hq.blk rfl) ⟨hrl.client,hrl.Ag,hrl.line,hrl.seq,hrl.uid,hrl.state,hrl.asked,fun _=>⟨ean,rfl⟩,hrl.wait,hrl.tries⟩ ⟨fun e=>absurd e hq.ne,hsn.seq,hsn.some,hsn.IV,hsn.wait,fun _=>⟨b1,b2,by simp only;omega,by simp only;omega⟩,hsn.timed⟩;have hsz:(w.setCell ⟨p.t.ql i,8,none⟩ (.int .i64 (r.at'+1))).heap.size=w.heap.size:=by simp
    rw[<-hsz]at hb;refine((m1.below hb).tell (m0.below hb) e3).mono ?_;rintro e w' ⟨rfl,F',k1,k2⟩;exact⟨rfl,Ib.of k1 ((m2.trans (Ay.Aj F hb)).trans k2)⟩
theorem Nw{G:R.Wd}{i:Nat}{r:R.Sn}(hr:G.seen[i]?=some r)(P:Pk):R.G0 G i P=if P.kind=6 then (if r.seq=P.seq/\r.state=3/\P.off=R.Ae r.result/\P.part=r.at'/\r.at'<R.Ae r.result-1 then R.DR (R.Av G i {r with at':=r.at'+1}) i else G) else if r.seq=P.seq then R.CL G i P else if P.seq<r.seq then G else Ty G i r P:=by
 unfold R.G0 Ty Dj;simp only[R.BN hr]
theorem LW.S9{p:Pl}{F:Aq}{G:R.Wd}{w:World}(h:LW p F G w){M:R.Bk}(hI:R.Inv M G)(hroom:R.Room G){i:Nat}{r:R.Sn}(hr:G.seen[i]?=some r){P:Pk}{d:R.Cd}(hp:R.Fy M G P d i)(hk:(P.kind=1/\P.off=R.Ae d.msg/\P.body=R.Bb d.msg P.part)\/P.kind=3):
  Calls Tryz.prog 139 #[ptr p.s,Bm p.t G.seen i,pv P] w fun e w'=>e=.returned (.tuple #[])/\Ib p F w (R.G0 G i P) w':=by
 have hsq:=hp.right.2.2.2.2.1;rw[Nw hr,if_neg (by omega)];have hnil:Bm p.t G.seen i=if r.seq=0 then .pointer none else ptr (p.t.ql i):=by
  unfold Bm;rw[hr];rfl
 have up:∀{K:R.Wd} {wa w':World},Below w.heap.size w wa->Ib p F wa K w'->Ib p F w K w':=fun hb ⟨t,F',q1,q2⟩=>⟨t,F',q1,(Ay.Aj F hb).trans q2⟩
 by_cases h0:r.seq=0
 ·rw[hnil,if_pos h0,if_neg (by omega),if_neg (by omega)];refine QP w p.s P _ (fun wa hb=>?_);have q:=(h.below hb).acb hI hroom hr hp hk (by omega) (by omega);rw[hnil,if_pos h0]at q;refine q.mono ?_;rintro e w' ⟨rfl,m⟩;exact⟨rfl,up hb m⟩
 ·obtain⟨y,hq,_⟩:=h.q hr h0;have c3:=(TK hq.blk).a3;rw[hq.rel.seq]at c3;rw[hnil,if_neg h0];refine OC w p.s (p.t.ql i) r.seq P _ c3 (fun hlt wa hb=>?_) (fun heq wa hb=>?_) (fun hgt wa hb=>?_)
  ·rw[if_neg (by omega),if_neg (by omega)];have q:=(h.below hb).acb hI hroom hr hp hk (by omega) (by omega);rw[hnil,if_neg h0]at q;refine q.mono ?_;rintro e w' ⟨rfl,m⟩;exact⟨rfl,up hb m⟩
  ·rw[if_pos heq];refine((h.below hb).aaO hI (hq.below hb) hp hk heq).mono ?_;rintro e w' ⟨rfl,F',m1,m2⟩;exact⟨rfl,Ib.of m1 ((Ay.Aj F hb).trans m2)⟩
  ·rw[if_neg (by omega),if_pos hgt];exact Ib.of (h.below hb) (Ay.Aj F hb)
theorem WI(t:SP)(seen:List R.Sn)(n nm:Nat)(c:R.Cf)(Ai:List Int){i:Nat}(hi:i<3):(Cv n nm t c Ai seen)[7+i]?=some (.int .i64 (Ai.getD i 0)):=by
 have h:i=0\/i=1\/i=2:=by omega
 rcases h with rfl|rfl|rfl<;>rfl
theorem M2{G:R.Wd}{P:Pk}(hlt:G.Ai.getD P.client.toNat 0<P.Ag):R.CM G P=Dq G G.Ac (G.Ai.set P.client.toNat P.Ag) (FE G.seen P.client.toNat) G.jobs:=by
 unfold R.CM;rw[if_pos hlt];rfl
theorem NP{w:World}{s ci:Nat}{cs:List Value}{Ag:Int}(h:w.heap[s]?=some (.cells cs.toArray 167 (0,0))):(BA w s ci Ag).heap[s]?=some (.cells ((((cs.set (7+ci) (.int .i64 Ag)).set (10+3*ci) (.pointer none)).set (10+3*ci+1) (.pointer none)).set (10+3*ci+2) (.pointer none)).toArray 167 (0,0))/\Af (fun k=>k=s) w (BA w s ci Ag):=by
 have e0:=Ak (off:=7+ci) h (.int .i64 Ag);have e1:=Ak (off:=10+ci*3) e0 (.pointer none);have e2:=Ak (off:=10+ci*3+1) e1 (.pointer none);have e3:=Ak (off:=10+ci*3+2) e2 (.pointer none);rw[Nat.mul_comm 3 ci];exact⟨e3,(((Am _).trans (Am _)).trans (Am _)).trans (Am _)⟩
theorem LW.aax{p:Pl}{F:Aq}{G:R.Wd}{w:World}(h:LW p F G w){M:R.Bk}(hI:R.Inv M G)(hroom:R.Room G){P:Pk}(hrt:AJ P)(hp:R.Nt M G.Ac (-1) P):
  Calls Tryz.prog 85 #[ptr p.s,pv P] w fun e w'=>e=.returned (.tuple #[])/\Ib p F w (R.C3 G P) w':=by
 obtain⟨d,hd,hu,hk⟩:=hp;obtain⟨_,hc2,hlf,hl2,hsq,_⟩:=id hrt;have hkk:(P.kind=1/\P.off=R.Ae d.msg/\P.body=R.Bb d.msg P.part)\/P.kind=3\/P.kind=6:=by
  rcases hk with ⟨q1,_,q2,q3⟩|⟨_,q,_⟩|⟨q,_⟩|⟨_,q⟩|⟨_,q,_⟩|⟨q,_⟩|⟨_,q,_⟩
  ·exact Or.inl ⟨q1,q2,q3⟩
  ·omega
  ·exact Or.inr (Or.inl q)
  ·omega
  ·omega
  ·exact Or.inr (Or.inr q)
  ·omega
 generalize hci:P.client.toNat=ci;generalize hni:P.line.toNat=ni;have eci:P.client=(ci:Int):=by omega
 have eni:P.line=(ni:Int):=by omega
 have hi9:3*ci+ni<9:=by omega
 have hdiv:(3*ci+ni) / 3=ci:=by omega
 have c7:w.cell? ⟨p.s,7+ci,none⟩=some (.int .i64 (G.Ai.getD ci 0)):=AY h.Co.bs (WI p.t G.seen p.n p.nm G.c G.Ai (by omega));have e10:10+ci*3+ni=10+(3*ci+ni):=by omega
 have c10:w.cell? ⟨p.s,10+ci*3+ni,none⟩=some (Bm p.t G.seen (3*ci+ni)):=by
  rw[e10];exact AY h.Co.bs (Hu p.t G.seen p.n p.nm G.c G.Ai hi9)
 have eA:R.C3 G P=if P.Ag<G.Ai.getD ci 0 then G else R.G0 (R.CM G P) (3*ci+ni) P:=by
  unfold R.C3;rw[hci,hni]
 rw[eA];have up:∀{K:R.Wd} {wa w':World},Below w.heap.size w wa->Ib p F wa K w'->Ib p F w K w':=fun hb ⟨t,F',q1,q2⟩=>⟨t,F',q1,(Ay.Aj F hb).trans q2⟩
 rcases Int.lt_trichotomy P.Ag (G.Ai.getD ci 0) with hc|hc|hc
 ·rw[if_pos hc];refine(Vj w p.s ci (G.Ai.getD ci 0) P c7 eci (by omega) hc).mono ?_;rintro e w' ⟨rfl,hb⟩;exact⟨rfl,Ib.of (h.below hb) (Ay.Aj F hb)⟩
 ·rw[if_neg (by omega)];have eL:R.CM G P=G:=by
   unfold R.CM;rw[hci,if_neg (by omega)]
  rw[eL];have hpk:R.Fy M G P d (3*ci+ni):=⟨hrt,hd,hu,by rw[hdiv];exact hc,by rw[hci,hni]⟩;have hr:=hI.Dl hi9;obtain⟨o,ho⟩:=FZ p.t G.seen (3*ci+ni);rw[<-hc]at c7;rw[ho]at c10;refine Sq w p.s ci ni o P _ c7 c10 eci eni (by omega) (by omega) (fun k6 wa hb=>?_) (fun k13 wa hb=>?_) (fun hno wa hb=>?_)
  ·have q:=(h.below hb).abX hr (P:=P) hsq.1;rw[ho]at q;refine q.mono ?_;rintro e w' ⟨rfl,m⟩;refine⟨rfl,?_⟩;rw[Nw hr,if_pos k6];exact up hb m
  ·have q:=(h.below hb).S9 hI hroom hr hpk (by
    rcases hkk with q|q|q
    ·exact Or.inl q
    ·exact Or.inr q
    ·omega)
   rw[ho]at q;refine q.mono ?_;rintro e w' ⟨rfl,m⟩;exact⟨rfl,up hb m⟩
  ·omega
 ·rw[if_neg (by omega)];have hlt:G.Ai.getD P.client.toNat 0<P.Ag:=by rw[hci];exact hc
  have hI2:=hI.Ai hrt hd;have hroom2:=hroom.Ai P;obtain⟨o0,d0⟩:=FZ p.t G.seen (3*ci);obtain⟨o1,d1⟩:=FZ p.t G.seen (3*ci+1);obtain⟨o2,d2⟩:=FZ p.t G.seen (3*ci+2);have cq:∀j,j<3->w.cell? ⟨p.s,10+ci*3+j,none⟩=some (Bm p.t G.seen (3*ci+j)):=fun j hj=>by
   have e:10+ci*3+j=10+(3*ci+j):=by omega
   rw[e];exact AY h.Co.bs (Hu p.t G.seen p.n p.nm G.c G.Ai (by omega))
  have f0:=cq 0 (by omega);rw[Nat.add_zero,Nat.add_zero,d0]at f0;have f1:=cq 1 (by omega);rw[d1]at f1;have f2:=cq 2 (by omega);rw[d2]at f2;obtain⟨hcells,hkp⟩:=NP (ci:=ci) (Ag:=P.Ag) h.Co.bs;have hsrv:=h.Co.forget h.Eb.ll (by omega) hkp hcells;have hws2:=hI2.ws;have hwf2:=hI2.wf;rw[M2 hlt,hci]at hI2 hroom2 hws2 hwf2;have hL2:=h.JB hsrv hkp (BQ.one h.Co.bs (by decide)) (fun _ q=>q) (fun k hf=>Nat.lt_of_lt_of_le (h.lt k hf) hkp.size) hwf2 hws2 (fun i c _ u=>rfl);have hW2:Ay F F w (BA w p.s ci P.Ag):=⟨hkp.mono (fun k _ e=>by rw[e];exact h.Co.BM.1),fun _ q=>Or.inl q⟩;rw[M2 hlt,hci];generalize hG2:Dq G G.Ac (G.Ai.set ci P.Ag) (FE G.seen ci) G.jobs=G2 at hI2 hroom2 hL2;have hr2:=hI2.Dl hi9;have hsn0:R.Ap G2 (3*ci+ni)=R.De:=by
   rw[<-hG2]at hr2 ⊢;rcases E1 G.seen ci (3*ci+ni) _ hr2 with ⟨_,q⟩|⟨q,_⟩
   ·exact q
   ·omega
  have hqn:Bm p.t G2.seen (3*ci+ni)=.pointer none:=by
   unfold Bm;rw[hr2,hsn0];rfl
  have hpk:R.Fy M G2 P d (3*ci+ni):=⟨hrt,hd,hu,by
   rw[hdiv,<-hG2];show P.Ag=(G.Ai.set ci P.Ag).getD ci 0;rw[List.getD_eq_getElem?_getD,List.getElem?_set,if_pos rfl,if_pos (by rw[h.Eb.ll];omega)];rfl,by rw[hci,hni]⟩
  have hsz:(BA w p.s ci P.Ag).heap.size=w.heap.size:=by simp
  have up2:∀{K:R.Wd} {wa w':World},Below (BA w p.s ci P.Ag).heap.size (BA w p.s ci P.Ag) wa->Ib p F wa K w'->Ib p F w K w':=fun hb ⟨t,F',q1,q2⟩=>⟨t,F',q1,(hW2.trans (Ay.Aj F hb)).trans q2⟩
  refine Vi w p.s ci ni (G.Ai.getD ci 0) o0 o1 o2 P _ c7 f0 f1 f2 (fun j=>open_list h.Co.bs) eci eni (by omega) (by omega) hc (fun k6 wa hb=>?_) (fun k13 wa hb=>?_) (fun hno wa hb=>?_)
  ·rw[<-hsz]at hb;have q:=(hL2.below hb).abX hr2 (P:=P) hsq.1;rw[hqn]at q;refine q.mono ?_;rintro e w' ⟨rfl,m⟩;refine⟨rfl,?_⟩;rw[Nw hr2,if_pos k6];exact up2 hb m
  ·rw[<-hsz]at hb;have q:=(hL2.below hb).S9 hI2 hroom2 hr2 hpk (by
    rcases hkk with q|q|q
    ·exact Or.inl q
    ·exact Or.inr q
    ·omega)
   rw[hqn]at q;refine q.mono ?_;rintro e w' ⟨rfl,m⟩;exact⟨rfl,up2 hb m⟩
  ·omega
end Go.Proofs.YtblomippkddgiaaGreatDoor
