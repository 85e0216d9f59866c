import Derived.Test.YtblomippkddgiabGreatDoorJ36
import Derived.Laws.StructEq
set_option maxRecDepth 100000
set_option maxHeartbeats 4000000
namespace Go.Proofs.YtblomippkddgiabGreatDoor
open Go.RowKit
variable {Ae:Int}{ci s:Nat}{w:World}
abbrev BM(w:World)(s ci:Nat)(Ae:Int):World:=(((w.setCell ⟨s,7+ci,none⟩ (.int .i64 Ae)).setCell ⟨s,10+ci*3,none⟩ (.pointer none)).setCell ⟨s,10+ci*3+1,none⟩ (.pointer none)).setCell ⟨s,10+ci*3+2,none⟩ (.pointer none)
theorem Sw{o:Obj}{m:Nat}(hs:s<w.heap.size):Boxed w (BM w s ci Ae) o (BM ((w.alloc o).drewN m) s ci Ae).drew:=by
 have e:BM (w.alloc o) s ci Ae=(BM w s ci Ae).alloc o:=by
  unfold BM;rw[World.setCell_alloc_past o s _ _ hs,World.setCell_alloc_past o s _ _ (by simpa using hs),World.setCell_alloc_past o s _ _ (by simpa using hs),World.setCell_alloc_past o s _ _ (by simpa using hs)]
 have e2:(BM ((w.alloc o).drewN m) s ci Ae).drew=(((BM w s ci Ae).alloc o).drewN m).drew:=by
  rw[<-e];rfl
 rw[e2];refine⟨(below_drewN ((Below.refl _ _).alloc (by simp) _) _).drew,?_⟩;have:=heap_alloc_new (BM w s ci Ae) o;simpa using this
theorem Tq{ni:Nat}{o0 o1 o2:Option Addr}(d0:w.cell? ⟨s,10+ci*3,none⟩=some (.pointer o0))(d1:w.cell? ⟨s,10+ci*3+1,none⟩=some (.pointer o1))(d2:w.cell? ⟨s,10+ci*3+2,none⟩=some (.pointer o2))(hc:ci<3)(hn:ni<3):(BM w s ci Ae).cell? ⟨s,10+ci*3+ni,none⟩=some (.pointer none):=by
 have ne:∀{a b:Nat},a≠b->(⟨s,a,none⟩:Addr)≠⟨s,b,none⟩:=fun h q=>h (by cases q;rfl)
 have h:ni=0\/ni=1\/ni=2:=by omega
 unfold BM;rcases h with rfl|rfl|rfl
 ·rw[World.cell?_setCell_other (h:=ne (by omega)),World.cell?_setCell_other (h:=ne (by omega))];exact World.cell?_setCell_same (h:=(World.cell?_setCell_other (h:=ne (by omega)) ..).trans d0) ..
 ·rw[World.cell?_setCell_other (h:=ne (by omega))];exact World.cell?_setCell_same (h:=(World.cell?_setCell_other (h:=ne (by omega)) ..).trans ((World.cell?_setCell_other (h:=ne (by omega)) ..).trans d1)) ..
 ·exact World.cell?_setCell_same (h:=(World.cell?_setCell_other (h:=ne (by omega)) ..).trans ((World.cell?_setCell_other (h:=ne (by omega)) ..).trans ((World.cell?_setCell_other (h:=ne (by omega)) ..).trans d2))) ..
theorem W7(w:World)(s ci ni:Nat)(lv:Int)(o0 o1 o2:Option Addr)(P:Pk)(aa:World->Prop)(h7:w.cell? ⟨s,7+ci,none⟩=some (.int .i64 lv))(d0:w.cell? ⟨s,10+ci*3,none⟩=some (.pointer o0))(d1:w.cell? ⟨s,10+ci*3+1,none⟩=some (.pointer o1))(d2:w.cell? ⟨s,10+ci*3+2,none⟩=some (.pointer o2))(z:∀j,w.frozen? ⟨s,j,none⟩=false)(af:P.client=(ci:Int))(ah:P.line=(ni:Int))(h3:ci<3)(ae:ni<3)(ag:lv<P.Ae)
  (HG:Hid (P.kind=6->∀wa,Below w.heap.size (BM w s ci P.Ae) wa->Calls Tryz.prog 156 #[pt s,.pointer none,pv P] wa fun e w'=>e=.returned (.tuple #[])/\aa w'))
  (HA:Hid (P.kind=1\/P.kind=3->∀wa,Below w.heap.size (BM w s ci P.Ae) wa->Calls Tryz.prog 157 #[pt s,.pointer none,pv P] wa fun e w'=>e=.returned (.tuple #[])/\aa w'))
  (HN:Hid (¬(P.kind=6\/P.kind=1\/P.kind=3)->∀wa,Below w.heap.size (BM w s ci P.Ae) wa->aa wa)):
  Calls Tryz.prog 93 #[pt s,pv P] w fun e w'=>e=.returned (.tuple #[])/\aa w':=by
 have hl:=lt_of_cell h7;have ab:Hid (∀m,Boxed w (BM w s ci P.Ae) (Jj P) (BM ((w.alloc (Jj P)).drewN m) s ci P.Ae).drew):=fun m=>Sw hl
 have HW:Hid (∀V,Boxed w (BM w s ci P.Ae) (Jj P) V->KW V w.heap.size P/\V.cell? ⟨s,10+ci*3+ni,none⟩=some (.pointer none)/\∀m,Below w.heap.size (BM w s ci P.Ae) (V.drewN m)):=fun V hV=>⟨Ml hV.2,(hV.1.cell (p:=⟨s,10+ci*3+ni,none⟩) hl).trans (Tq d0 d1 d2 h3 ae),fun m=>below_drewN hV.1 m⟩
 obtain⟨kd,cl,li,ln,ai,u,pa,o,pl,body⟩:=P;dsimp only[pv,Jj,BM]at *;subst af ah;have q1:(0:Int)<=(ci:Int):=by omega
 have q2:(ci:Int)<3:=by omega
 have q3:(0:Int)<=(ni:Int):=by omega
 have q4:(ni:Int)<3:=by omega
 have e1:decide (li<lv)=false:=by simp;omega
 have e2:decide (lv<li)=true:=by simpa using ag
 by_cases k6:kd=6
 ·have HQ:=Ac ((Aa HG) k6);subst k6;clear HG HA HN;go_enter Tryz.func93,Tryz.ntmps93;go_wp2_with fail
  go_quiet (fail);go_wp2_with fail
  go_quiet (fail);go_wp2_with fail
  go_region
  go_wp2_with fail
  go_region
  refine AQ _ ((Aa ab) _) ?_;intro V hV;have ac:=(Aa HW) V hV;obtain⟨⟨g0,g1,g2,g3,g4,g5,g6,g7,g8,g9⟩,f1,f2⟩:=ac;have HB:=Ac f2;clear hV f2 HW ab;go_wp2_with fail
  go_quiet (fail);go_wp2_with (first|(go_at_call 156;refine((Aa HQ) _ ((Aa HB) _)).mono ?_;rintro e w3 ⟨rfl,ad⟩))
  go_returns;exact⟨rfl,ad⟩
 ·have n6:(kd==6)=false:=by simpa using k6
  by_cases k1:kd=1
  ·have HQ:=Ac ((Aa HA) (Or.inl k1));subst k1;clear HG HA HN k6;go_enter Tryz.func93,Tryz.ntmps93;go_wp2_with fail
   go_quiet (fail);go_wp2_with fail
   go_quiet (fail);go_wp2_with fail
   go_region
   go_wp2_with fail
   go_region
   refine AQ _ ((Aa ab) _) ?_;intro V hV;have ac:=(Aa HW) V hV;obtain⟨⟨g0,g1,g2,g3,g4,g5,g6,g7,g8,g9⟩,f1,f2⟩:=ac;have HB:=Ac f2;clear hV f2 HW ab;go_wp2_with fail
   go_quiet (fail);go_wp2_with (first|(go_at_call 157;refine((Aa HQ) _ ((Aa HB) _)).mono ?_;rintro e w3 ⟨rfl,ad⟩))
   go_returns;exact⟨rfl,ad⟩
  ·have n1:(kd==1)=false:=by simpa using k1
   by_cases k3:kd=3
   ·have HQ:=Ac ((Aa HA) (Or.inr k3));subst k3;clear HG HA HN k6 k1;go_enter Tryz.func93,Tryz.ntmps93;go_wp2_with fail
    go_quiet (fail);go_wp2_with fail
    go_quiet (fail);go_wp2_with fail
    go_region
    go_wp2_with fail
    go_region
    refine AQ _ ((Aa ab) _) ?_;intro V hV;have ac:=(Aa HW) V hV;obtain⟨⟨g0,g1,g2,g3,g4,g5,g6,g7,g8,g9⟩,f1,f2⟩:=ac;have HB:=Ac f2;clear hV f2 HW ab;go_wp2_with fail
    go_quiet (fail);go_wp2_with (first|(go_at_call 157;refine((Aa HQ) _ ((Aa HB) _)).mono ?_;rintro e w3 ⟨rfl,ad⟩))
    go_returns;exact⟨rfl,ad⟩
   ·have n3:(kd==3)=false:=by simpa using k3
    have HQ:=Ac ((Aa HN) (by omega));clear HG HA HN k6 k1 k3;go_enter Tryz.func93,Tryz.ntmps93;go_wp2_with fail
    go_quiet (fail);go_wp2_with fail
    go_quiet (fail);go_wp2_with fail
    go_region
    go_wp2_with fail
    go_region
    refine AQ _ ((Aa ab) _) ?_;intro V hV;have ac:=(Aa HW) V hV;obtain⟨⟨g0,g1,g2,g3,g4,g5,g6,g7,g8,g9⟩,f1,f2⟩:=ac;have HB:=Ac f2;clear hV f2 HW ab;go_wp2_with fail
    go_quiet (fail);go_wp2;go_returns;exact⟨rfl,(Aa HQ) _ ((Aa HB) _)⟩
end Go.Proofs.YtblomippkddgiabGreatDoor
namespace Go.Proofs.YtblomippkddgiabGreatDoor.R
theorem Inv.PL{M:Bk}{G:Wd}(h:Inv M G){p:Pk}{d:Cd}{i:Nat}(ha:FY M G p d i){r:Sn}(hr:G.seen[i]?=some r)(hs:¬r.seq=p.seq)(ai:¬p.seq<r.seq)(ad:DC G.Ab p.uid=true):Inv M (R.AB G i {Cs with seq:=p.seq,uid:=p.uid,state:=1}):=by
 obtain⟨_,_,_,_,am,_,ak,al,_⟩:=ha.right;have aa:=ha.key;have af:=(h.bk _ d ha.made).1;have aj:=LU af;have ae:=h.wf.sv;obtain⟨_,_,ag,_,_,ah,_⟩:=ha.right;have h2:=h.AB (r':={Cs with seq:=p.seq,uid:=p.uid,state:=1}) hr (by simp only;omega) ⟨fun e=>by simp only at e;omega,by simp only;omega,fun _=>⟨by rw[<-ha.Ae];exact ag.1,ah,by simp⟩,by simp[Cs],by simp,by simp,by simp[Cs]⟩ (fun _=>⟨d,by rw[<-aa];exact ha.made,ha.uid,fun _=>⟨by simp[Cs],by simp only[Cs];omega⟩,by simp,fun _=>?_,by simp⟩)
 ·exact h2
 ·rw[<-ha.uid];refine⟨ad,fun e he ac=>?_⟩;obtain⟨n,s,a1,a2,a3⟩:=Mf ad;rw[a1,J6 a2]at he;have hf:=h.R9 n s e a2 a3 he;rw[<-aa]at ac;simp only[Bl,D4,Key.mk.injEq]at ac;obtain⟨e1,e2,e3,e4⟩:=ac;unfold Mb Nx at hf;rw[e1,e2,e3,e4,<-ha.i,hr]at hf;have hl:=ha.Ae;obtain⟨_,p2,_,p4,_⟩:=ha.right;have ab:i / 3=p.client.toNat:=by have:=ha.i;omega
  rw[ab]at hl;simp only[Option.getD_some]at hf;omega
end Go.Proofs.YtblomippkddgiabGreatDoor.R
namespace Go.Proofs.YtblomippkddgiabGreatDoor
open Go.RowKit
variable {F:Aq}{i:Nat}{P:Pk}{p:Pl}{M:R.Bk}{d:R.Cd}{r:R.Sn}{G:R.Wd}{w:World}
def Dv(P:Pk):R.Sn:={R.Cs with seq:=P.seq,uid:=P.uid,state:=1}
def acy(P:Pk):JH:=⟨P.client,P.Ae,P.line,P.seq,P.uid,0,[],[],0,0,0⟩
theorem LW.YA{W:World}(h:LW p F G w){b:Nat}(hp:R.FY M G P d i)(hm:Made w p.s (Ce p.n p.nm p.t G.c G.Aj G.seen) i P b W):
  LW {p with t:=p.t.put i b} (fun k=>F k\/k=b) (R.AB G i (Dv P)) W/\Qe {p with t:=p.t.put i b} (R.AB G i (Dv P)) W i (Dv P) (acy P)/\Ap F (fun k=>F k\/k=b) w W:=by
 have ae:=hp.lt;have aa:=hp.key;simp only[R.D4,R.Key.mk.injEq]at aa;obtain⟨_,_,af,_,aj,ah,_⟩:=hp.right;have ac:(Dv P).seq≠0:=by show P.seq≠0;omega
 have ab:KZ i (G.Aj.getD (i / 3) 0) (Dv P) (acy P):=⟨aa.1,aa.2.1,aa.2.2.1,rfl,rfl,rfl,fun _=>rfl,fun e=>by simp[Dv]at e,rfl,fun e=>by simp[Dv,R.Cs]at e⟩;have ag:R.Qg (G.Aj.getD (i / 3) 0) (Dv P):=⟨fun e=>absurd e ac,by show 0<=P.seq/\P.seq<=999;omega,fun _=>⟨by rw[<-hp.Ae];exact af.1,ah,by simp[Dv]⟩,by simp[Dv,R.Cs],by simp[Dv],by simp[Dv],by simp[Dv,R.Cs]⟩;have ad:W.heap[b]?=some (.cells (acy P).cells.toArray 179 (0,0)):=hm.line;have hs:=h.BN.PL h.lt h.Db.sl ae ac hm.ge hm.keep hm.cells ad ab;have hE:Ca w (fun k=>k=p.s):=Ca.one h.BN.bs (by decide);have ai:R.Md G.c G.Aj (G.seen.set i (Dv P)) G.jobs:=Nt h.Db ag;have q:=h.Ha hs hm.keep hE (fun _ r=>Or.inl r) (fun k hk=>by
  rcases hk with hk|rfl
  ·exact Nat.lt_of_lt_of_le (h.lt k hk) hm.keep.size
  ·exact(Array.getElem?_eq_some_iff.1 hm.line).1) (Ns h.wf i (Dv P)) ai (fun i c _ u=>rfl)
 refine⟨q,⟨?_,ac,?_,ab⟩,hm.keep.mono (fun k _ e=>by rw[e];exact h.BN.BP.1),fun k hk=>?_⟩
 ·show (G.seen.set i (Dv P))[i]?=_;rw[List.getElem?_set,if_pos rfl,if_pos (by rw[h.Db.sl];exact ae)]
 ·show W.heap[(p.t.put i b).ql i]?=_;simp only[SP.put,if_true];exact ad
 ·rcases hk with hk|rfl
  ·exact Or.inl hk
  ·exact Or.inr hm.ge
theorem Iw(t:SP)(seen:List R.Sn)(n nm:Nat)(c:R.Cf)(Aj:List Int)(hi:i<9):(Ce n nm t c Aj seen)[10+i]?=some (Bt t seen i):=by
 have h:i=0\/i=1\/i=2\/i=3\/i=4\/i=5\/i=6\/i=7\/i=8:=by omega
 rcases h with rfl|rfl|rfl|rfl|rfl|rfl|rfl|rfl|rfl<;>rfl
theorem Gv(t:SP)(seen:List R.Sn)(i:Nat):∃o,Bt t seen i=.pointer o:=by
 unfold Bt;split
 ·exact⟨_,rfl⟩
 ·exact⟨_,rfl⟩
theorem aaS(seen:List R.Sn)(hl:seen.length=9)(h0:∀r∈seen,0<=r.seq):(idx seen).length=R.cnt seen:=by
 obtain⟨a0,a1,a2,a3,a4,a5,a6,a7,a8,rfl⟩:∃a0 a1 a2 a3 a4 a5 a6 a7 a8,seen=[a0,a1,a2,a3,a4,a5,a6,a7,a8]:=by
  match seen,hl with
  |[a0,a1,a2,a3,a4,a5,a6,a7,a8],_=>exact⟨a0,a1,a2,a3,a4,a5,a6,a7,a8,rfl⟩
 have q:∀x:R.Sn,0<=x.seq->decide (x.seq≠0)=decide (0<x.seq):=fun x hx=>by
  by_cases h:x.seq=0
  ·simp[h]
  ·have:0<x.seq:=by omega
   simp[h,this]
 have e:(idx [a0,a1,a2,a3,a4,a5,a6,a7,a8]).map (fun i=>([a0,a1,a2,a3,a4,a5,a6,a7,a8][i]?).getD R.Cs)=[a0,a1,a2,a3,a4,a5,a6,a7,a8].filter fun x=>decide (x.seq≠0):=by
  have:[a0,a1,a2,a3,a4,a5,a6,a7,a8]=(List.range 9).map (fun i=>([a0,a1,a2,a3,a4,a5,a6,a7,a8][i]?).getD R.Cs):=rfl;conv=>rhs;rw[this]
  rw[List.filter_map];rfl
 have e2:=congrArg List.length e;rw[List.length_map]at e2;rw[e2];unfold R.cnt;congr 1;apply List.filter_congr;intro x hx;exact q x (h0 x hx)
theorem LW.aeB(h:LW p F G w):Calls Tryz.prog 99 #[ptr p.s] w fun e w'=>∃a cap,e=.returned (.slice a (R.BZ G) cap)/\Below w.heap.size w w':=by
 refine h.BN.rem.mono ?_;rintro e w' ⟨O,rfl,aa,hb⟩;rw[Nk,List.length_map]at aa;rw[aaS G.seen h.Db.sl (fun r hr=>by
  obtain⟨k,hk⟩:=List.mem_iff_getElem?.1 hr;exact(h.Db.sn k r hk).seq.1)]at aa
 obtain⟨a,c,hO⟩:=AX aa;subst hO;exact⟨a,c,rfl,hb⟩
theorem V5(w:World)(b:Nat)(s:List UInt8)(a:Int)(hs:s.length<=1000)(h7:w.cell? ⟨b,7,none⟩=some (.string (str s)))(h8:w.cell? ⟨b,8,none⟩=some (.int .i64 a)):
  Calls Tryz.prog 214 #[ptr b] w fun e w'=>e=.returned (.bool (decide (a=R.Ag s-1)))/\w'=w.drew:=by
 have HP:=Ac (fun w=>CS s w (by omega));have hn:0<=R.Ag s/\R.Ag s<=1000:=by unfold R.Ag;omega
 generalize str s=SM at *;generalize R.Ag s=N at *;have ab:IntKind.i64.wrap (N-1)=N-1:=by rw[IntKind.wrap_i64];omega
 go_enter Tryz.func214,Tryz.ntmps214;go_wp2_with fail
 go_region_held3 (fun w'=>w'.cell? ⟨b,7,none⟩=some (.string SM)/\w'.cell? ⟨b,8,none⟩=some (.int .i64 a)) (go_keep) (first
  |(go_at_call 203;refine((Aa HP) _).mono ?_;rintro e w1 ⟨rfl,aa⟩;rw[aa];clear aa))
 all_goals
  go_wp2
  go_ret
  exact⟨by
   have:(a==N-1)=decide (a=N-1):=by rw[Bool.eq_iff_iff];simp
   rw[this];rfl,rfl⟩
def E8(p:Pl)(F:Aq)(w:World)(G:R.Wd)(w':World):Prop:=∃t F',LW {p with t:=t} F' G w'/\Ap F F' w w'
theorem E8.of{F':Aq}{w':World}(h:LW p F' G w')(hw:Ap F F' w w'):E8 p F w G w':=⟨p.t,F',h,hw⟩
def U7(G:R.Wd)(i:Nat)(r:R.Sn)(P:Pk):R.Wd:=if R.Ff G P.uid=false then R.C3 G P 7 0 2 else if P.kind=3\/P.part≠0 then G else if r.seq=0/\G.c.table<=(R.BZ G:Int) then R.C3 G P 7 1 2 else R.Dq (R.AB G i (Dv P)) i P
theorem LW.adY(h:LW p F G w)(hI:R.Inv M G)(ae:R.Room G)(hr:G.seen[i]?=some r)(hp:R.FY M G P d i)(hk:(P.kind=1/\P.off=R.Ag d.msg/\P.body=R.Be d.msg P.part)\/P.kind=3)(hs:¬r.seq=P.seq)(ap:¬P.seq<r.seq):
  Calls Tryz.prog 215 #[ptr p.s,Bt p.t G.seen i,pv P] w fun e w'=>e=.returned (.tuple #[])/\E8 p F w (U7 G i r P) w':=by
 have ao:=hp.lt;have ar:=hp.right;obtain⟨_,au,_,av,_⟩:=ar;obtain⟨o,aq⟩:=Gv p.t G.seen i;have hL:Bt p.t G.seen i=.pointer none\/∃b,Bt p.t G.seen i=pt b:=by
  unfold Bt;split
  ·exact Or.inl rfl
  ·exact Or.inr ⟨_,rfl⟩
 have ad:Bt p.t G.seen i=if r.seq=0 then .pointer none else ptr (p.t.ql i):=by
  unfold Bt;rw[hr];rfl
 have hV:∀wa,Below w.heap.size w wa->Calls Tryz.prog 248 #[pt p.s,.int .i64 P.uid] wa fun e w'=>e=.returned (.bool (R.Ff G P.uid))/\w'=wa:=fun wa hb=>(h.below hb).alive P.uid
 unfold U7;cases hal:R.Ff G P.uid with
 |false=>
  rw[if_pos rfl];rw[hal]at hV;refine YP w p.s _ hL P _ hV (fun wa hb=>?_);refine((h.below hb).PU hp.right (Or.inl rfl)).mono ?_;rintro e w' ⟨rfl,F',m1,m2⟩;exact⟨rfl,E8.of m1 ((Ap.Al F hb).trans m2)⟩
 |true=>
  rw[if_neg (by simp)];rw[hal]at hV;by_cases aa:P.kind=3\/P.part≠0
  ·rw[if_pos aa];exact YR w p.s _ hL P _ aa hV (fun wa hb=>E8.of (h.below hb) (Ap.Al F hb))
  ·rw[if_neg aa];have af:¬P.kind=3:=fun q=>aa (Or.inl q)
   have ag:P.part=0:=Decidable.byContradiction fun q=>aa (Or.inr q)
   have s4:w.cell? ⟨p.s,4,none⟩=some (.int .i64 G.c.table):=h.BN.cell 4 _ rfl;have ai:P.client=(P.client.toNat:Int):=by omega
   have al:P.line=(P.line.toNat:Int):=by omega
   have aj:3*P.client.toNat+P.line.toNat=i:=hp.i.symm;have ab:(Ce p.n p.nm p.t G.c G.Aj G.seen)[10+(3*P.client.toNat+P.line.toNat)]?=some (.pointer o):=by
    rw[aj,Iw p.t G.seen p.n p.nm G.c G.Aj ao,aq]
   have hG:∀b' W,Made w p.s (Ce p.n p.nm p.t G.c G.Aj G.seen) (3*P.client.toNat+P.line.toNat) P b' W->Calls Tryz.prog 251 #[pt p.s,pt b',pv P] W fun e w'=>e=.returned (.tuple #[])/\E8 p F w (R.Dq (R.AB G i (Dv P)) i P) w':=fun b' W hm=>by
    rw[aj]at hm;obtain⟨q1,q2,q3⟩:=h.YA hp hm;have am:R.Inv M (R.AB G i (Dv P)):=hI.PL hp hr hs ap (by simpa [R.Ff,R.DC] using hal);have e1:ptr (({p with t:=p.t.put i b'}:Pl).t.ql i)=pt b':=by simp[SP.put]
    rcases hk with ⟨k1,k2,k3⟩|k1
    ·have q4:=q1.UU am q2 rfl (hp.aaq rfl) k1 k2 k3 rfl;rw[e1]at q4;refine q4.mono ?_;rintro e w' ⟨rfl,F',m1,m2⟩;refine⟨rfl,p.t.put i b',F',?_,q3.trans m2⟩;have ah:R.AY (R.AB G i (Dv P)) i=Dv P:=R.Bn q2.seen;unfold R.Dq;simp only[ah];rw[if_pos (show (Dv P).state=1 from rfl)];have ak:P.part<=(Dv P).pieces:=by show P.part<=0;omega
     rw[if_pos ⟨k1,ak⟩];rw[if_pos ak]at m1;exact m1
    ·exact absurd k1 af
   by_cases h0:r.seq=0
   ·rw[ad,if_pos h0];have hM:∀wa,Below w.heap.size w wa->Calls Tryz.prog 99 #[pt p.s] wa fun e w'=>∃a cap,e=.returned (.slice a (R.BZ G) cap)/\Below wa.heap.size wa w':=fun wa hb=>(h.below hb).aeB
    by_cases ac:G.c.table<=(R.BZ G:Int)
    ·rw[if_pos ⟨h0,ac⟩];have an:(R.BZ G:Int)=G.c.table:=by
      have:R.BZ G=R.cnt G.seen:=rfl;unfold R.Room at ae;omega
     refine YQ w p.s (R.BZ G) G.c.table P _ s4 an af ag hV hM (fun wa hb=>?_);refine((h.below hb).PU hp.right (Or.inr rfl)).mono ?_;rintro e w' ⟨rfl,F',m1,m2⟩;exact⟨rfl,E8.of m1 ((Ap.Al F hb).trans m2)⟩
    ·rw[if_neg (fun q=>ac q.2)];exact YT w p.s (R.BZ G) P.client.toNat P.line.toNat G.c.table _ P _ h.BN.bs o ab ai al (by omega) (by omega) af ag s4 (by omega) hM hV hG
   ·rw[ad,if_neg h0,if_neg (fun q=>h0 q.1)];exact YS w p.s (p.t.ql i) P.client.toNat P.line.toNat _ P _ h.BN.bs o ab ai al (by omega) (by omega) af ag hV hG
theorem LW.adM(h:LW p F G w)(hr:G.seen[i]?=some r)(aj:1<=P.seq):
  Calls Tryz.prog 156 #[ptr p.s,Bt p.t G.seen i,pv P] w fun e w'=>e=.returned (.tuple #[])/\E8 p F w (if r.seq=P.seq/\r.state=3/\P.off=R.Ag r.result/\P.part=r.at'/\r.at'<R.Ag r.result-1 then R.Em (R.AB G i {r with at':=r.at'+1}) i else G) w':=by
 have ac:Bt p.t G.seen i=if r.seq=0 then .pointer none else ptr (p.t.ql i):=by
  unfold Bt;rw[hr];rfl
 rw[ac];by_cases h0:r.seq=0
 ·rw[if_pos h0,if_neg (by omega)];refine(ZM w p.s P).mono ?_;rintro e w' ⟨rfl,hb⟩;exact⟨rfl,E8.of (h.below hb) (Ap.Al F hb)⟩
 ·rw[if_neg h0];obtain⟨y,hq,_⟩:=h.q hr h0;have aa:=hq.rel;have ab:=h.Db.sn i r hr;obtain⟨_,_,_,c3,_,c5,_,c7,c8,_⟩:=Qb hq.blk;rw[aa.seq]at c3;rw[aa.state]at c5;by_cases ad:¬r.seq=P.seq\/¬r.state-1=2
  ·rw[if_neg (by omega)];refine(abt w p.s (p.t.ql i) r.seq (r.state-1) P c3 c5 ad).mono ?_;rintro e w' ⟨rfl,hb⟩;exact⟨rfl,E8.of (h.below hb) (Ap.Al F hb)⟩
  ·have e1:r.seq=P.seq:=Decidable.byContradiction fun q=>ad (Or.inl q)
   have e3:r.state=3:=by
    have:r.state-1=2:=Decidable.byContradiction fun q=>ad (Or.inr q)
    omega
   obtain⟨b1,b2,b3,b4⟩:=ab.ans e3;obtain⟨ae,CF⟩:=aa.ans e3;rw[ae]at c7;rw[CF]at c8;rw[e1]at c3;rw[e3]at c5;have af:=lt_of_cell c7;have ai:=R.El (s:=r.result) (by omega);refine WW w p.s (p.t.ql i) (R.Ag r.result) r.at' (str r.result) (decide (r.at'=R.Ag r.result-1)) P _ c3 c5 c7 c8 (open_list hq.blk) (by omega) (fun w=>CS r.result w (by omega)) (fun wa hb=>?_) (fun q wa hb=>?_) (fun q1 q2 q3 wa hb=>?_)
   ·exact V5 wa _ r.result r.at' (by omega) ((hb.cell (p:=⟨p.t.ql i,7,none⟩) af).trans c7) ((hb.cell (p:=⟨p.t.ql i,8,none⟩) af).trans c8)
   ·rw[if_neg (by
     rintro ⟨_,_,x3,x4,x5⟩;rcases q with q|q|q
     ·exact q x3
     ·exact q x4
     ·have:=of_decide_eq_true q;omega)]
    exact E8.of (h.below hb) (Ap.Al F hb)
   ·have ah:¬r.at'=R.Ag r.result-1:=of_decide_eq_false q3;rw[if_pos ⟨e1,e3,q1,q2,by omega⟩];obtain⟨m1,m0,m2⟩:=h.Ix (r':={r with at':=r.at'+1}) (y':={y with at':=r.at'+1}) hq hq.ne (Ah _) (Eb (j:=8) (v:=.int .i64 (r.at'+1)) hq.blk rfl) ⟨aa.client,aa.Ae,aa.line,aa.seq,aa.uid,aa.state,aa.asked,fun _=>⟨ae,rfl⟩,aa.wait,aa.tries⟩ ⟨fun e=>absurd e hq.ne,ab.seq,ab.some,ab.Ga,ab.wait,fun _=>⟨b1,b2,by simp only;omega,by simp only;omega⟩,ab.timed⟩;have ag:(w.setCell ⟨p.t.ql i,8,none⟩ (.int .i64 (r.at'+1))).heap.size=w.heap.size:=by simp
    rw[<-ag]at hb;refine((m1.below hb).tell (m0.below hb) e3).mono ?_;rintro e w' ⟨rfl,F',k1,k2⟩;exact⟨rfl,E8.of k1 ((m2.trans (Ap.Al F hb)).trans k2)⟩
theorem OY(hr:G.seen[i]?=some r)(P:Pk):R.JI G i P=if P.kind=6 then (if r.seq=P.seq/\r.state=3/\P.off=R.Ag r.result/\P.part=r.at'/\r.at'<R.Ag r.result-1 then R.Em (R.AB G i {r with at':=r.at'+1}) i else G) else if r.seq=P.seq then R.Dq G i P else if P.seq<r.seq then G else U7 G i r P:=by
 unfold R.JI U7 Dv;simp only[R.Bn hr]
theorem LW.UH(h:LW p F G w)(hI:R.Inv M G)(ab:R.Room G)(hr:G.seen[i]?=some r)(hp:R.FY M G P d i)(hk:(P.kind=1/\P.off=R.Ag d.msg/\P.body=R.Be d.msg P.part)\/P.kind=3):
  Calls Tryz.prog 157 #[ptr p.s,Bt p.t G.seen i,pv P] w fun e w'=>e=.returned (.tuple #[])/\E8 p F w (R.JI G i P) w':=by
 have af:=hp.right.2.2.2.2.1;rw[OY hr,if_neg (by omega)];have aa:Bt p.t G.seen i=if r.seq=0 then .pointer none else ptr (p.t.ql i):=by
  unfold Bt;rw[hr];rfl
 have up:∀{K:R.Wd} {wa w':World},Below w.heap.size w wa->E8 p F wa K w'->E8 p F w K w':=fun hb ⟨t,F',q1,q2⟩=>⟨t,F',q1,(Ap.Al F hb).trans q2⟩
 by_cases h0:r.seq=0
 ·rw[aa,if_pos h0,if_neg (by omega),if_neg (by omega)];refine Sk w p.s P _ (fun wa hb=>?_);have q:=(h.below hb).adY hI ab hr hp hk (by omega) (by omega);rw[aa,if_pos h0]at q;refine q.mono ?_;rintro e w' ⟨rfl,m⟩;exact⟨rfl,up hb m⟩
 ·obtain⟨y,hq,_⟩:=h.q hr h0;have c3:=(Qb hq.blk).a3;rw[hq.rel.seq]at c3;rw[aa,if_neg h0];refine Qk w p.s (p.t.ql i) r.seq P _ c3 (fun ae wa hb=>?_) (fun ac wa hb=>?_) (fun ad wa hb=>?_)
  ·rw[if_neg (by omega),if_neg (by omega)];have q:=(h.below hb).adY hI ab hr hp hk (by omega) (by omega);rw[aa,if_neg h0]at q;refine q.mono ?_;rintro e w' ⟨rfl,m⟩;exact⟨rfl,up hb m⟩
  ·rw[if_pos ac];refine((h.below hb).acr hI (hq.below hb) hp hk ac).mono ?_;rintro e w' ⟨rfl,F',m1,m2⟩;exact⟨rfl,E8.of m1 ((Ap.Al F hb).trans m2)⟩
  ·rw[if_neg (by omega),if_pos ad];exact E8.of (h.below hb) (Ap.Al F hb)
theorem Yr(t:SP)(seen:List R.Sn)(n nm:Nat)(c:R.Cf)(Aj:List Int)(hi:i<3):(Ce n nm t c Aj seen)[7+i]?=some (.int .i64 (Aj.getD i 0)):=by
 have h:i=0\/i=1\/i=2:=by omega
 rcases h with rfl|rfl|rfl<;>rfl
theorem Ou(aa:G.Aj.getD P.client.toNat 0<P.Ae):R.Dr G P=Bs G G.Ab (G.Aj.set P.client.toNat P.Ae) (F9 G.seen P.client.toNat) G.jobs:=by
 unfold R.Dr;rw[if_pos aa];rfl
theorem Px{s ci:Nat}{cs:List Value}{Ae:Int}(h:w.heap[s]?=some (.cells cs.toArray 144 (0,0))):(BM w s ci Ae).heap[s]?=some (.cells ((((cs.set (7+ci) (.int .i64 Ae)).set (10+3*ci) (.pointer none)).set (10+3*ci+1) (.pointer none)).set (10+3*ci+2) (.pointer none)).toArray 144 (0,0))/\Af (fun k=>k=s) w (BM w s ci Ae):=by
 have e0:=Ai (off:=7+ci) h (.int .i64 Ae);have e1:=Ai (off:=10+ci*3) e0 (.pointer none);have e2:=Ai (off:=10+ci*3+1) e1 (.pointer none);have e3:=Ai (off:=10+ci*3+2) e2 (.pointer none);rw[Nat.mul_comm 3 ci];exact⟨e3,(((Ah _).trans (Ah _)).trans (Ah _)).trans (Ah _)⟩
theorem LW.ab9(h:LW p F G w)(hI:R.Inv M G)(ab:R.Room G)(aj:AR P)(hp:R.OW M G.Ab (-1) P):
  Calls Tryz.prog 93 #[ptr p.s,pv P] w fun e w'=>e=.returned (.tuple #[])/\E8 p F w (R.Er G P) w':=by
 obtain⟨d,hd,hu,hk⟩:=hp;obtain⟨_,aE,aG,aF,ax,_⟩:=id aj;have au:(P.kind=1/\P.off=R.Ag d.msg/\P.body=R.Be d.msg P.part)\/P.kind=3\/P.kind=6:=by
  rcases hk with ⟨q1,_,q2,q3⟩|⟨_,q,_⟩|⟨q,_⟩|⟨_,q⟩|⟨_,q,_⟩|⟨q,_⟩|⟨_,q,_⟩
  ·exact Or.inl ⟨q1,q2,q3⟩
  ·omega
  ·exact Or.inr (Or.inl q)
  ·omega
  ·omega
  ·exact Or.inr (Or.inr q)
  ·omega
 generalize hci:P.client.toNat=ci;generalize hni:P.line.toNat=ni;have ak:P.client=(ci:Int):=by omega
 have ar:P.line=(ni:Int):=by omega
 have am:3*ci+ni<9:=by omega
 have af:(3*ci+ni) / 3=ci:=by omega
 have c7:w.cell? ⟨p.s,7+ci,none⟩=some (.int .i64 (G.Aj.getD ci 0)):=AP h.BN.bs (Yr p.t G.seen p.n p.nm G.c G.Aj (by omega));have aA:10+ci*3+ni=10+(3*ci+ni):=by omega
 have aq:w.cell? ⟨p.s,10+ci*3+ni,none⟩=some (Bt p.t G.seen (3*ci+ni)):=by
  rw[aA];exact AP h.BN.bs (Iw p.t G.seen p.n p.nm G.c G.Aj am)
 have eA:R.Er G P=if P.Ae<G.Aj.getD ci 0 then G else R.JI (R.Dr G P) (3*ci+ni) P:=by
  unfold R.Er;rw[hci,hni]
 rw[eA];have up:∀{K:R.Wd} {wa w':World},Below w.heap.size w wa->E8 p F wa K w'->E8 p F w K w':=fun hb ⟨t,F',q1,q2⟩=>⟨t,F',q1,(Ap.Al F hb).trans q2⟩
 rcases Int.lt_trichotomy P.Ae (G.Aj.getD ci 0) with hc|hc|hc
 ·rw[if_pos hc];refine(W9 w p.s ci (G.Aj.getD ci 0) P c7 ak (by omega) hc).mono ?_;rintro e w' ⟨rfl,hb⟩;exact⟨rfl,E8.of (h.below hb) (Ap.Al F hb)⟩
 ·rw[if_neg (by omega)];have eL:R.Dr G P=G:=by
   unfold R.Dr;rw[hci,if_neg (by omega)]
  rw[eL];have an:R.FY M G P d (3*ci+ni):=⟨aj,hd,hu,by rw[af];exact hc,by rw[hci,hni]⟩;have hr:=hI.G8 am;obtain⟨o,ho⟩:=Gv p.t G.seen (3*ci+ni);rw[<-hc]at c7;rw[ho]at aq;refine Uh w p.s ci ni o P _ c7 aq ak ar (by omega) (by omega) (fun k6 wa hb=>?_) (fun aD wa hb=>?_) (fun aC wa hb=>?_)
  ·have q:=(h.below hb).adM hr (P:=P) ax.1;rw[ho]at q;refine q.mono ?_;rintro e w' ⟨rfl,m⟩;refine⟨rfl,?_⟩;rw[OY hr,if_pos k6];exact up hb m
  ·have q:=(h.below hb).UH hI ab hr an (by
    rcases au with q|q|q
    ·exact Or.inl q
    ·exact Or.inr q
    ·omega)
   rw[ho]at q;refine q.mono ?_;rintro e w' ⟨rfl,m⟩;exact⟨rfl,up hb m⟩
  ·omega
 ·rw[if_neg (by omega)];have av:G.Aj.getD P.client.toNat 0<P.Ae:=by rw[hci];exact hc
  have ad:=hI.Aj aj hd;have aa:=ab.Aj P;obtain⟨o0,d0⟩:=Gv p.t G.seen (3*ci);obtain⟨o1,d1⟩:=Gv p.t G.seen (3*ci+1);obtain⟨o2,d2⟩:=Gv p.t G.seen (3*ci+2);have cq:∀j,j<3->w.cell? ⟨p.s,10+ci*3+j,none⟩=some (Bt p.t G.seen (3*ci+j)):=fun j hj=>by
   have e:10+ci*3+j=10+(3*ci+j):=by omega
   rw[e];exact AP h.BN.bs (Iw p.t G.seen p.n p.nm G.c G.Aj (by omega))
  have f0:=cq 0 (by omega);rw[Nat.add_zero,Nat.add_zero,d0]at f0;have f1:=cq 1 (by omega);rw[d1]at f1;have f2:=cq 2 (by omega);rw[d2]at f2;obtain⟨ac,ai⟩:=Px (ci:=ci) (Ae:=P.Ae) h.BN.bs;have ap:=h.BN.forget h.Db.ll (by omega) ai ac;have ah:=ad.ws;have ag:=ad.wf;rw[Ou av,hci]at ad aa ah ag;have al:=h.Ha ap ai (Ca.one h.BN.bs (by decide)) (fun _ q=>q) (fun k hf=>Nat.lt_of_lt_of_le (h.lt k hf) ai.size) ag ah (fun i c _ u=>rfl);have aB:Ap F F w (BM w p.s ci P.Ae):=⟨ai.mono (fun k _ e=>by rw[e];exact h.BN.BP.1),fun _ q=>Or.inl q⟩;rw[Ou av,hci];generalize hG2:Bs G G.Ab (G.Aj.set ci P.Ae) (F9 G.seen ci) G.jobs=G2 at ad aa al;have ae:=ad.G8 am;have ao:R.AY G2 (3*ci+ni)=R.Cs:=by
   rw[<-hG2]at ae ⊢;rcases Fp G.seen ci (3*ci+ni) _ ae with ⟨_,q⟩|⟨q,_⟩
   ·exact q
   ·omega
  have aw:Bt p.t G2.seen (3*ci+ni)=.pointer none:=by
   unfold Bt;rw[ae,ao];rfl
  have an:R.FY M G2 P d (3*ci+ni):=⟨aj,hd,hu,by
   rw[af,<-hG2];show P.Ae=(G.Aj.set ci P.Ae).getD ci 0;rw[List.getD_eq_getElem?_getD,List.getElem?_set,if_pos rfl,if_pos (by rw[h.Db.ll];omega)];rfl,by rw[hci,hni]⟩
  have ay:(BM w p.s ci P.Ae).heap.size=w.heap.size:=by simp
  have az:∀{K:R.Wd} {wa w':World},Below (BM w p.s ci P.Ae).heap.size (BM w p.s ci P.Ae) wa->E8 p F wa K w'->E8 p F w K w':=fun hb ⟨t,F',q1,q2⟩=>⟨t,F',q1,(aB.trans (Ap.Al F hb)).trans q2⟩
  refine W7 w p.s ci ni (G.Aj.getD ci 0) o0 o1 o2 P _ c7 f0 f1 f2 (fun j=>open_list h.BN.bs) ak ar (by omega) (by omega) hc (fun k6 wa hb=>?_) (fun aD wa hb=>?_) (fun aC wa hb=>?_)
  ·rw[<-ay]at hb;have q:=(al.below hb).adM ae (P:=P) ax.1;rw[aw]at q;refine q.mono ?_;rintro e w' ⟨rfl,m⟩;refine⟨rfl,?_⟩;rw[OY ae,if_pos k6];exact az hb m
  ·rw[<-ay]at hb;have q:=(al.below hb).UH ad aa ae an (by
    rcases au with q|q|q
    ·exact Or.inl q
    ·exact Or.inr q
    ·omega)
   rw[aw]at q;refine q.mono ?_;rintro e w' ⟨rfl,m⟩;exact⟨rfl,az hb m⟩
  ·omega
theorem Xl(w:World)(s ci ni:Nat)(c1 c3 c4:Int)(h3:ci<3)(ab:ni<3)(aa:w.cell? ⟨s,10+ci*3+ni,none⟩=some (.pointer none)):
  Calls Tryz.prog 96 #[ptr s,.agg #[.int .i64 (ci:Int),.int .i64 c1,.int .i64 (ni:Int),.int .i64 c3,.int .i64 c4]] w fun e w'=>e=.returned (.bool false)/\Below w.heap.size w w':=by
 have HB:Hid (∀o n,Below w.heap.size w ((w.alloc o).drewN n)):=fun o n=>below_drewN ((Below.refl _ _).alloc (Nat.le_refl _) _) n
 have hl:=lt_of_cell aa;have q1:(0:Int)<=(ci:Int):=by omega
 have q2:(ci:Int)<3:=by omega
 have q3:(0:Int)<=(ni:Int):=by omega
 have q4:(ni:Int)<3:=by omega
 go_enter Tryz.func96,Tryz.ntmps96;go_wp2_with fail
 go_quiet (fail);go_wp2_with fail
 go_quiet (fail);go_wp2;go_returns;exact⟨rfl,below_drewN ((Aa HB) _ _) _⟩
theorem Ux(w:World)(s q ci ni:Nat)(c1 c3 c4 y1 y3 y4 st:Int)(h3:ci<3)(ab:ni<3)(aa:w.cell? ⟨s,10+ci*3+ni,none⟩=some (ptr q))(d0:w.cell? ⟨q,0,none⟩=some (.int .i64 (ci:Int)))(d1:w.cell? ⟨q,1,none⟩=some (.int .i64 y1))(d2:w.cell? ⟨q,2,none⟩=some (.int .i64 (ni:Int)))(d3:w.cell? ⟨q,3,none⟩=some (.int .i64 y3))(d4:w.cell? ⟨q,4,none⟩=some (.int .i64 y4))(d5:w.cell? ⟨q,5,none⟩=some (.int .i64 st)):
  Calls Tryz.prog 96 #[ptr s,.agg #[.int .i64 (ci:Int),.int .i64 c1,.int .i64 (ni:Int),.int .i64 c3,.int .i64 c4]] w fun e w'=>e=.returned (.bool (decide (y1=c1/\y3=c3/\y4=c4/\st=1)))/\Below w.heap.size w w':=by
 have HB:Hid (∀o n,Below w.heap.size w ((w.alloc o).drewN n)):=fun o n=>below_drewN ((Below.refl _ _).alloc (Nat.le_refl _) _) n
 have hl:=lt_of_cell aa;have ac:=lt_of_cell d0;have q1:(0:Int)<=(ci:Int):=by omega
 have q2:(ci:Int)<3:=by omega
 have q3:(0:Int)<=(ni:Int):=by omega
 have q4:(ni:Int)<3:=by omega
 by_cases h1:y1=c1
 ·have e1:(y1==c1)=true:=by simpa using h1
  by_cases h2:y3=c3
  ·have e2:(y3==c3)=true:=by simpa using h2
   by_cases h4:y4=c4
   ·have e4:(y4==c4)=true:=by simpa using h4
    by_cases h5:st=1
    ·have e5:(st==1)=true:=by simpa using h5
     rw[show decide (y1=c1/\y3=c3/\y4=c4/\st=1)=true by simp[h1,h2,h4,h5]];clear h1 h2 h4 h5;go_enter Tryz.func96,Tryz.ntmps96;go_wp2_with fail
     go_quiet (fail);go_wp2_with fail
     go_quiet (fail);go_wp2;go_returns;exact⟨rfl,below_drewN ((Aa HB) _ _) _⟩
    ·have e5:(st==1)=false:=by simpa using h5
     rw[show decide (y1=c1/\y3=c3/\y4=c4/\st=1)=false by simp[h5]];clear h1 h2 h4 h5;go_enter Tryz.func96,Tryz.ntmps96;go_wp2_with fail
     go_quiet (fail);go_wp2_with fail
     go_quiet (fail);go_wp2;go_returns;exact⟨rfl,below_drewN ((Aa HB) _ _) _⟩
   ·have e4:(y4==c4)=false:=by simpa using h4
    rw[show decide (y1=c1/\y3=c3/\y4=c4/\st=1)=false by simp[h4]];clear h1 h2 h4;go_enter Tryz.func96,Tryz.ntmps96;go_wp2_with fail
    go_quiet (fail);go_wp2_with fail
    go_quiet (fail);go_wp2;go_returns;exact⟨rfl,below_drewN ((Aa HB) _ _) _⟩
  ·have e2:(y3==c3)=false:=by simpa using h2
   rw[show decide (y1=c1/\y3=c3/\y4=c4/\st=1)=false by simp[h2]];clear h1 h2;go_enter Tryz.func96,Tryz.ntmps96;go_wp2_with fail
   go_quiet (fail);go_wp2_with fail
   go_quiet (fail);go_wp2;go_returns;exact⟨rfl,below_drewN ((Aa HB) _ _) _⟩
 ·have e1:(y1==c1)=false:=by simpa using h1
  rw[show decide (y1=c1/\y3=c3/\y4=c4/\st=1)=false by simp[h1]];clear h1;go_enter Tryz.func96,Tryz.ntmps96;go_wp2_with fail
  go_quiet (fail);go_wp2_with fail
  go_quiet (fail);go_wp2;go_returns;exact⟨rfl,below_drewN ((Aa HB) _ _) _⟩
end Go.Proofs.YtblomippkddgiabGreatDoor
