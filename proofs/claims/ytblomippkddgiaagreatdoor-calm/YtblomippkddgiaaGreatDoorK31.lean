import Derived.Test.YtblomippkddgiaaGreatDoorK21
import Derived.Conc.LoneSelect
import Derived.KernelRfl
set_option maxRecDepth 100000
set_option maxHeartbeats 1000000
namespace Go.Proofs.YtblomippkddgiaaGreatDoor
open Go.Conc Go.RowKit
open Go.RowKit
abbrev acU(w:World)(b:Nat)(v0 v1 v2 v3 v4:Value):World:=((((w.setCell ⟨b,0,none⟩ v0).setCell ⟨b,1,none⟩ v1).setCell ⟨b,2,none⟩ v2).setCell ⟨b,3,none⟩ v3).setCell ⟨b,4,none⟩ v4
theorem WE{F:Aq}{a w:World}{b:Nat}(hb:F b\/a.heap.size<=b)(h:Af F a w)(v0 v1 v2 v3 v4:Value):Af F a (acU w b v0 v1 v2 v3 v4):=((((h.setCell (p:=⟨b,0,none⟩) hb v0).setCell (p:=⟨b,1,none⟩) hb v1).setCell (p:=⟨b,2,none⟩) hb v2).setCell (p:=⟨b,3,none⟩) hb v3).setCell (p:=⟨b,4,none⟩) hb v4
theorem Lh(w:World)(c cap:Nat)(buf:Array Value)(cl:Bool)(s r:Nat)(tm:Bool):Af (fun k=>k=c) w (w.setChan c cap buf cl s r tm):=
 ⟨rfl,rfl,rfl,by simp[World.setChan],fun k _ hn=>by
  simp only[World.setChan];rw[Array.getElem?_setIfInBounds_ne (fun e=>hn e.symm)]⟩
theorem P9(w:World)(s jc cap a b:Nat)(buf:Array Value)(c0 c1 c2 c3 c4:Int)(h19:w.cell? ⟨s,19,none⟩=some (.chan (some jc)))(hj:w.heap[jc]?=some (.chan cap buf false a b false))(hr:buf.size<cap):
  Calls Tryz.prog 264 #[.pointer (some ⟨s,0,none⟩),.agg #[.int .i64 c0,.int .i64 c1,.int .i64 c2,.int .i64 c3,.int .i64 c4]] w fun e w'=>e=.returned (.bool true)/\w'.heap[jc]?=some (.chan cap (buf.push (.agg #[.int .i64 c0,.int .i64 c1,.int .i64 c2,.int .i64 c3,.int .i64 c4])) false (a+1) b false)/\Af (fun k=>k=jc) w w':=by
 refine calls_of_loneTo fun cs=>?_
 have e:Frame.enter Tryz.prog 264 #[.pointer (some ⟨s,0,none⟩),.agg #[.int .i64 c0,.int .i64 c1,.int .i64 c2,.int .i64 c3,.int .i64 c4]] .normal=(base 264).at ⟨#[.pointer (some ⟨s,0,none⟩),.agg #[.int .i64 c0,.int .i64 c1,.int .i64 c2,.int .i64 c3,.int .i64 c4],undef,undef,undef,undef,undef,undef,undef,undef,undef,undef,undef,undef],[]⟩ [.code (Tryz.f264.body.getD .skip)]:=by
  simp[Frame.enter,Frame.at,Tryz.func264,base,Tryz.f264]
 rw[e];have hl:s<w.heap.size:=by
  simp only[World.cell?]at h19;cases hs:w.heap[s]? with
  |none=>simp[hs]at h19
  |some o=>exact(Array.getElem?_eq_some_iff.1 hs).1
 refine LoneTo.goes (n:=50) ?_;simp only[Tryz.f264,Option.getD_some]
 s_c stepG_seq
 s_reg
 s_op
 s_op
 s_c stepG_region_end
 s_c stepG_seq
 s_c stepG_seq
 s_reg
 s_op
 s_op
 s_op
 s_op
 s_op
 s_c stepG_region_end
 s_reg
 s_op
 s_c stepG_region_end
 s_c stepG_seq
 s_reg
 s_stop
 obtain⟨WA,hWA⟩:∃WA,w.alloc (.cells #[.int .i64 c0,.int .i64 c1,.int .i64 c2,.int .i64 c3,.int .i64 c4] 145)=WA:=⟨_,rfl⟩;rw[hWA];have hB:Below w.heap.size w WA:=by rw[<-hWA];exact(Below.refl _ _).alloc (Nat.le_refl _) _
 have hjl:=(Array.getElem?_eq_some_iff.1 hj).1;have hj':WA.heap[jc]?=some (.chan cap buf false a b false):=by rw[hB.block jc hjl];exact hj
 refine LoneTo.step (step_lone_select_send_room (c:=jc) (cap:=cap) (buf:=buf) (s:=a) (r:=b) (tm:=false) (stepG_comm (cases:=#[scase jc (.agg #[.int .i64 c0,.int .i64 c1,.int .i64 c2,.int .i64 c3,.int .i64 c4]) (.agg #[.int .i64 0,.int .i64 0,.int .i64 0,.int .i64 0,.int .i64 0])]) (blocking:=false) (shape:=.select) (w':=WA) rfl rfl (by decide) (by simp[go_sem,execOp,scase,Act.eval])) hj' hr) ?_;rw[Frame.finish_at]
 walk_nrm
 refine LoneTo.goes (n:=20) ?_
 s_op
 s_op
 s_c stepG_region_end
 s_c stepG_block
 s_cond true
 s_c stepG_seq
 s_reg
 s_op
 s_c stepG_region_end
 s_c stepG_ret'
 s_stop
 refine LoneTo.done ⟨.returned (.bool true),_,rfl,⟨rfl,heap_setChan WA jc cap _ false (a+1) b false (Nat.lt_of_lt_of_le hjl hB.size),?_⟩,rfl,rfl,rfl,rfl,_,Tryz.func264,by simp[results,Tryz.f264,Frame.at]⟩;exact(Af.Aj hB _).trans (Lh WA jc cap _ false (a+1) b false)
theorem P8(w:World)(s jc cap a b:Nat)(buf:Array Value)(c0 c1 c2 c3 c4:Int)(h19:w.cell? ⟨s,19,none⟩=some (.chan (some jc)))(hj:w.heap[jc]?=some (.chan cap buf false a b false))(hr:cap<=buf.size):
  Calls Tryz.prog 264 #[.pointer (some ⟨s,0,none⟩),.agg #[.int .i64 c0,.int .i64 c1,.int .i64 c2,.int .i64 c3,.int .i64 c4]] w fun e w'=>e=.returned (.bool false)/\Below w.heap.size w w':=by
 refine calls_of_loneTo fun cs=>?_
 have e:Frame.enter Tryz.prog 264 #[.pointer (some ⟨s,0,none⟩),.agg #[.int .i64 c0,.int .i64 c1,.int .i64 c2,.int .i64 c3,.int .i64 c4]] .normal=(base 264).at ⟨#[.pointer (some ⟨s,0,none⟩),.agg #[.int .i64 c0,.int .i64 c1,.int .i64 c2,.int .i64 c3,.int .i64 c4],undef,undef,undef,undef,undef,undef,undef,undef,undef,undef,undef,undef],[]⟩ [.code (Tryz.f264.body.getD .skip)]:=by
  simp[Frame.enter,Frame.at,Tryz.func264,base,Tryz.f264]
 rw[e];have hl:s<w.heap.size:=by
  simp only[World.cell?]at h19;cases hs:w.heap[s]? with
  |none=>simp[hs]at h19
  |some o=>exact(Array.getElem?_eq_some_iff.1 hs).1
 refine LoneTo.goes (n:=50) ?_;simp only[Tryz.f264,Option.getD_some]
 s_c stepG_seq
 s_reg
 s_op
 s_op
 s_c stepG_region_end
 s_c stepG_seq
 s_c stepG_seq
 s_reg
 s_op
 s_op
 s_op
 s_op
 s_op
 s_c stepG_region_end
 s_reg
 s_op
 s_c stepG_region_end
 s_c stepG_seq
 s_reg
 s_stop
 obtain⟨WA,hWA⟩:∃WA,w.alloc (.cells #[.int .i64 c0,.int .i64 c1,.int .i64 c2,.int .i64 c3,.int .i64 c4] 145)=WA:=⟨_,rfl⟩;rw[hWA];have hB:Below w.heap.size w WA:=by rw[<-hWA];exact(Below.refl _ _).alloc (Nat.le_refl _) _
 have hjl:=(Array.getElem?_eq_some_iff.1 hj).1;have hj':WA.heap[jc]?=some (.chan cap buf false a b false):=by rw[hB.block jc hjl];exact hj
 refine LoneTo.step (step_lone_select_send_full (c:=jc) (cap:=cap) (buf:=buf) (s:=a) (r:=b) (tm:=false) (stepG_comm (cases:=#[scase jc (.agg #[.int .i64 c0,.int .i64 c1,.int .i64 c2,.int .i64 c3,.int .i64 c4]) (.agg #[.int .i64 0,.int .i64 0,.int .i64 0,.int .i64 0,.int .i64 0])]) (blocking:=false) (shape:=.select) (w':=WA) rfl rfl (by decide) (by simp[go_sem,execOp,scase,Act.eval])) hj' hr) ?_;rw[Frame.finish_at]
 walk_nrm
 refine LoneTo.goes (n:=20) ?_
 s_op
 s_op
 s_c stepG_region_end
 s_c stepG_block
 s_cond false
 s_c stepG_seq
 s_reg
 s_op
 s_c stepG_region_end
 s_c stepG_ret'
 s_stop
 exact LoneTo.done ⟨.returned (.bool false),_,rfl,⟨rfl,hB⟩,rfl,rfl,rfl,rfl,_,Tryz.func264,by simp[results,Tryz.f264,Frame.at]⟩
theorem Oo(w:World)(s jc cap a b:Nat)(buf:Array Value)(c0 c1 c2 c3 c4:Int)(h19:w.cell? ⟨s,19,none⟩=some (.chan (some jc)))(hj:w.heap[jc]?=some (.chan cap buf false a b false))(hr:0<buf.size)(h0:buf.getD 0 undef=.agg #[.int .i64 c0,.int .i64 c1,.int .i64 c2,.int .i64 c3,.int .i64 c4]):
  Calls Tryz.prog 81 #[.pointer (some ⟨s,0,none⟩)] w fun e w'=>e=.returned (.tuple #[.agg #[.int .i64 c0,.int .i64 c1,.int .i64 c2,.int .i64 c3,.int .i64 c4],.bool true])/\w'.heap[jc]?=some (.chan cap (buf.extract 1 buf.size) false a (b+1) false)/\Af (fun k=>k=jc) w w':=by
 refine calls_of_loneTo fun cs=>?_
 have e:Frame.enter Tryz.prog 81 #[.pointer (some ⟨s,0,none⟩)] .normal=(base 81).at ⟨#[.pointer (some ⟨s,0,none⟩),undef,undef,undef,undef,undef,undef,undef,undef,undef,undef,undef,undef,undef,undef,undef],[]⟩ [.code (Tryz.f81.body.getD .skip)]:=by
  simp[Frame.enter,Frame.at,Tryz.func81,base,Tryz.f81]
 rw[e];have hl:s<w.heap.size:=by
  simp only[World.cell?]at h19;cases hs:w.heap[s]? with
  |none=>simp[hs]at h19
  |some o=>exact(Array.getElem?_eq_some_iff.1 hs).1
 refine LoneTo.goes (n:=50) ?_;simp only[Tryz.f81,Option.getD_some]
 s_c stepG_seq
 s_reg
 s_op
 s_op
 s_c stepG_region_end
 s_c stepG_seq
 s_reg
 s_op
 s_op
 s_op
 s_op
 s_op
 s_c stepG_region_end
 s_c stepG_seq
 s_reg
 s_stop
 obtain⟨WA,hWA⟩:∃WA,w.alloc (.cells #[.int .i64 0,.int .i64 0,.int .i64 0,.int .i64 0,.int .i64 0] 145)=WA:=⟨_,rfl⟩;rw[hWA];have hB:Below w.heap.size w WA:=by rw[<-hWA];exact(Below.refl _ _).alloc (Nat.le_refl _) _
 have hjl:=(Array.getElem?_eq_some_iff.1 hj).1;have hj':WA.heap[jc]?=some (.chan cap buf false a b false):=by rw[hB.block jc hjl];exact hj
 have hz:WA.heap[w.heap.size]?=some (.cells #[.int .i64 0,.int .i64 0,.int .i64 0,.int .i64 0,.int .i64 0] 145 (0,0)):=by rw[<-hWA];exact heap_alloc_new w _
 have hzl:=(Array.getElem?_eq_some_iff.1 hz).1;refine LoneTo.step (step_lone_select_recv_buf (c:=jc) (cap:=cap) (buf:=buf) (closed:=false) (s:=a) (r:=b) (tm:=false) (stepG_comm (cases:=#[rcase jc (.agg #[.int .i64 0,.int .i64 0,.int .i64 0,.int .i64 0,.int .i64 0])]) (blocking:=false) (shape:=.select) (w':=WA) rfl rfl (by decide) (by simp[go_sem,execOp,rcase,Act.eval])) hj' hr) ?_;rw[Frame.finish_at,h0]
 walk_nrm
 obtain⟨WB,hWB⟩:∃WB,WA.setChan jc cap (buf.extract 1 buf.size) false a (b+1) false=WB:=⟨_,rfl⟩;rw[hWB];have hk1:Af (fun k=>k=jc) WA WB:=by rw[<-hWB];exact Lh _ _ _ _ _ _ _ _
 have hj1:WB.heap[jc]?=some (.chan cap (buf.extract 1 buf.size) false a (b+1) false):=by rw[<-hWB];exact heap_setChan WA jc cap _ false a (b+1) false (Nat.lt_of_lt_of_le hjl hB.size)
 have hz1:WB.heap[w.heap.size]?=some (.cells #[.int .i64 0,.int .i64 0,.int .i64 0,.int .i64 0,.int .i64 0] 145 (0,0)):=by
  rw[hk1.block _ hzl (by omega)];exact hz
 have d0:WB.cell? ⟨w.heap.size,0,none⟩=some (.int .i64 0):=cell_of hz1 0 _ rfl;have d1:WB.cell? ⟨w.heap.size,1,none⟩=some (.int .i64 0):=cell_of hz1 1 _ rfl;have d2:WB.cell? ⟨w.heap.size,2,none⟩=some (.int .i64 0):=cell_of hz1 2 _ rfl;have d3:WB.cell? ⟨w.heap.size,3,none⟩=some (.int .i64 0):=cell_of hz1 3 _ rfl;have d4:WB.cell? ⟨w.heap.size,4,none⟩=some (.int .i64 0):=cell_of hz1 4 _ rfl;have z:∀j,WB.frozen? ⟨w.heap.size,j,none⟩=false:=fun j=>open_list hz1
 have hl1:w.heap.size<WB.heap.size:=(Array.getElem?_eq_some_iff.1 hz1).1;have hne:w.heap.size≠WB.heap.size:=by omega
 have hne':WB.heap.size≠w.heap.size:=by omega
 refine LoneTo.goes (n:=30) ?_
 s_op
 s_op
 s_c stepG_region_end
 s_c stepG_block
 s_cond true
 s_c stepG_seq
 s_reg
 s_op
 s_op
 s_op
 s_c stepG_region_end
 s_c stepG_seq
 s_reg
 s_op
 s_op
 s_op
 s_c stepG_region_end
 s_c stepG_ret'
 s_stop
 have HK:=(WE (F:=fun k=>k=w.heap.size) (b:=w.heap.size) (Or.inl rfl) (Af.refl (fun k=>k=w.heap.size) WB) (.int .i64 c0) (.int .i64 c1) (.int .i64 c2) (.int .i64 c3) (.int .i64 c4)).alloc (.cells #[.int .i64 c0,.int .i64 c1,.int .i64 c2,.int .i64 c3,.int .i64 c4] 145);refine LoneTo.done ⟨.returned (.tuple #[.agg #[.int .i64 c0,.int .i64 c1,.int .i64 c2,.int .i64 c3,.int .i64 c4],.bool true]),_,rfl,⟨rfl,?_,?_⟩,rfl,rfl,rfl,rfl,_,Tryz.func81,?_⟩
 ·exact(HK.block jc (Nat.lt_of_lt_of_le (Nat.lt_of_lt_of_le hjl hB.size) hk1.size) (by omega)).trans hj1
 ·exact((Af.Aj hB _).trans hk1).andThen HK (fun i hi e=>by omega)
 ·simp[results,Tryz.f81,Frame.at,go_sem,hl1,d0,d1,d2,d3,d4]
theorem On(w:World)(s jc cap a b:Nat)(h19:w.cell? ⟨s,19,none⟩=some (.chan (some jc)))(hj:w.heap[jc]?=some (.chan cap #[] false a b false)):
  Calls Tryz.prog 81 #[.pointer (some ⟨s,0,none⟩)] w fun e w'=>e=.returned (.tuple #[.agg #[.int .i64 0,.int .i64 0,.int .i64 0,.int .i64 0,.int .i64 0],.bool false])/\Below w.heap.size w w':=by
 refine calls_of_loneTo fun cs=>?_
 have e:Frame.enter Tryz.prog 81 #[.pointer (some ⟨s,0,none⟩)] .normal=(base 81).at ⟨#[.pointer (some ⟨s,0,none⟩),undef,undef,undef,undef,undef,undef,undef,undef,undef,undef,undef,undef,undef,undef,undef],[]⟩ [.code (Tryz.f81.body.getD .skip)]:=by
  simp[Frame.enter,Frame.at,Tryz.func81,base,Tryz.f81]
 rw[e];have hl:s<w.heap.size:=by
  simp only[World.cell?]at h19;cases hs:w.heap[s]? with
  |none=>simp[hs]at h19
  |some o=>exact(Array.getElem?_eq_some_iff.1 hs).1
 refine LoneTo.goes (n:=50) ?_;simp only[Tryz.f81,Option.getD_some]
 s_c stepG_seq
 s_reg
 s_op
 s_op
 s_c stepG_region_end
 s_c stepG_seq
 s_reg
 s_op
 s_op
 s_op
 s_op
 s_op
 s_c stepG_region_end
 s_c stepG_seq
 s_reg
 s_stop
 obtain⟨WA,hWA⟩:∃WA,w.alloc (.cells #[.int .i64 0,.int .i64 0,.int .i64 0,.int .i64 0,.int .i64 0] 145)=WA:=⟨_,rfl⟩;rw[hWA];have hB:Below w.heap.size w WA:=by rw[<-hWA];exact(Below.refl _ _).alloc (Nat.le_refl _) _
 have hjl:=(Array.getElem?_eq_some_iff.1 hj).1;have hj':WA.heap[jc]?=some (.chan cap #[] false a b false):=by rw[hB.block jc hjl];exact hj
 have hz:WA.heap[w.heap.size]?=some (.cells #[.int .i64 0,.int .i64 0,.int .i64 0,.int .i64 0,.int .i64 0] 145 (0,0)):=by rw[<-hWA];exact heap_alloc_new w _
 have hzl:=(Array.getElem?_eq_some_iff.1 hz).1;refine LoneTo.step (step_lone_select_default (c:=jc) (cap:=cap) (s:=a) (r:=b) (tm:=false) (stepG_comm (cases:=#[rcase jc (.agg #[.int .i64 0,.int .i64 0,.int .i64 0,.int .i64 0,.int .i64 0])]) (blocking:=false) (shape:=.select) (w':=WA) rfl rfl (by decide) (by simp[go_sem,execOp,rcase,Act.eval])) hj') ?_;rw[Frame.finish_at]
 walk_nrm
 have d0:WA.cell? ⟨w.heap.size,0,none⟩=some (.int .i64 0):=cell_of hz 0 _ rfl;have d1:WA.cell? ⟨w.heap.size,1,none⟩=some (.int .i64 0):=cell_of hz 1 _ rfl;have d2:WA.cell? ⟨w.heap.size,2,none⟩=some (.int .i64 0):=cell_of hz 2 _ rfl;have d3:WA.cell? ⟨w.heap.size,3,none⟩=some (.int .i64 0):=cell_of hz 3 _ rfl;have d4:WA.cell? ⟨w.heap.size,4,none⟩=some (.int .i64 0):=cell_of hz 4 _ rfl;have z:∀j,WA.frozen? ⟨w.heap.size,j,none⟩=false:=fun j=>open_list hz
 refine LoneTo.goes (n:=30) ?_
 s_op
 s_op
 s_c stepG_region_end
 s_c stepG_block
 s_cond false
 s_c stepG_seq
 s_reg
 s_op
 s_op
 s_op
 s_c stepG_region_end
 s_c stepG_ret'
 s_stop
 refine LoneTo.done ⟨.returned (.tuple #[.agg #[.int .i64 0,.int .i64 0,.int .i64 0,.int .i64 0,.int .i64 0],.bool false]),_,rfl,⟨rfl,?_⟩,rfl,rfl,rfl,rfl,_,Tryz.func81,?_⟩
 ·exact((Af.Aj hB (fun k=>k=w.heap.size)).trans (WE (F:=fun k=>k=w.heap.size) (b:=w.heap.size) (Or.inl rfl) (Af.refl (fun k=>k=w.heap.size) WA) (.int .i64 0) (.int .i64 0) (.int .i64 0) (.int .i64 0) (.int .i64 0))).below (Nat.le_refl _) (fun k e=>by omega)
 ·simp[results,Tryz.f81,Frame.at,go_sem,d0,d1,d2,d3,d4]
abbrev cv(P:Pk):Value:=.agg #[.int .i64 P.client,.int .i64 P.Ag,.int .i64 P.line,.int .i64 P.seq,.int .i64 P.uid]
theorem Gl(P:Pk)(w:World):Calls Tryz.prog 235 #[pv P] w fun e w'=>e=.returned (cv P)/\Below w.heap.size w w':=by
 go_enter Tryz.func235,Tryz.ntmps235;go_wp2;go_returns;exact⟨rfl,((Below.refl _ _).alloc (Nat.le_refl _) _).alloc (by simp) _⟩
theorem Qb(w:World)(s:Nat)(P:Pk)(why:Int)(Post:World->Prop)
  (HS:Hid (∀wa,Below w.heap.size w wa->Calls Tryz.prog 192 #[.pointer (some ⟨s,0,none⟩),cv P,Ms 7 0 0 0 0 0 why 2 false ⟨#[]⟩] wa fun e w'=>e=.returned (.tuple #[])/\Post w')):
  Calls Tryz.prog 234 #[.pointer (some ⟨s,0,none⟩),pv P,.int .i64 why] w fun e w'=>e=.returned (.tuple #[])/\Post w':=by
 have HC:=Ab (fun w=>Gl P w);have HB:Hid (∀o,Below w.heap.size w (w.alloc o)):=fun o=>(Below.refl _ _).alloc (Nat.le_refl _) _
 go_enter Tryz.func234,Tryz.ntmps234;go_wp2_with (first|(go_at_call 235;refine((Aa HC) _).mono ?_;rintro e w1 ⟨rfl,hb1⟩;have HB1:=Ab (((Aa HB) _).trans (hb1.mono (by simp)));clear hb1)|(go_at_call 192;refine((Aa HS) _ (Aa HB1)).mono ?_;rintro e w3 ⟨rfl,hw3⟩))
 go_returns;exact⟨rfl,hw3⟩
abbrev pt(b:Nat):Value:=.pointer (some ⟨b,0,none⟩)
theorem RF(w:World)(s b:Nat)(st:Int)(P:Pk)(Post:World->Prop)(h5:w.cell? ⟨b,5,none⟩=some (.int .i64 st))(hst:0<=st/\st<=3)
  (H3:Hid (st=3->∀wa,Below w.heap.size w wa->Calls Tryz.prog 234 #[pt s,pv P,.int .i64 0] wa fun e w'=>e=.returned (.tuple #[])/\Post w'))
  (H2:Hid (st=2->P.please=true->∀wa,Below w.heap.size w wa->Calls Tryz.prog 137 #[pt s,pt b] wa fun e w'=>e=.returned (.tuple #[])/\Post w'))
  (H1:Hid (st=1->P.please=true->∀wa,Below w.heap.size w wa->Calls Tryz.prog 237 #[pt s,pv P] wa fun e w'=>e=.returned (.tuple #[])/\Post w'))
  (H0:Hid (st=0->P.kind=1->∀wa,Below w.heap.size w wa->Calls Tryz.prog 236 #[pt s,pt b,pv P] wa fun e w'=>e=.returned (.tuple #[])/\Post w'))
  (HN:Hid (((st=1\/st=2)/\P.please=false)\/(st=0/\¬P.kind=1)->∀wa,Below w.heap.size w wa->Post wa)):
  Calls Tryz.prog 200 #[pt s,pt b,pv P] w fun e w'=>e=.returned (.tuple #[])/\Post w':=by
 have HB:Hid (∀o,Below w.heap.size w (w.alloc o)):=fun o=>(Below.refl _ _).alloc (Nat.le_refl _) _
 have hl:=lt_of_cell h5;obtain⟨kd,cl,li,ln,sq',u,pa,o,pl,body⟩:=P;dsimp only at *;generalize str body=SB at *;have hc:st=0\/st=1\/st=2\/st=3:=by omega
 clear hst;rcases hc with rfl|rfl|rfl|rfl
 ·by_cases hk:kd=1
  ·have e1:(kd==1)=true:=by simpa using hk
   have HQ:=Ab ((Aa H0) rfl hk);clear hk;go_enter Tryz.func200,Tryz.ntmps200;go_wp2_with (first|(go_at_call 236;refine((Aa HQ) _ (by first|exact(Aa HB) _|exact below_drewN ((Aa HB) _) _|exact((Aa HB) _).drew|exact((Aa HB) _).drew.drew|exact below_drewN (below_drewN ((Aa HB) _) _) _)).mono ?_;rintro e w3 ⟨rfl,hw3⟩))
   go_returns;exact⟨rfl,hw3⟩
  ·have e1:(kd==1)=false:=by simpa using hk
   have HQ:=Ab ((Aa HN) (Or.inr ⟨rfl,hk⟩));clear hk;go_enter Tryz.func200,Tryz.ntmps200;go_wp2;go_returns;exact⟨rfl,(Aa HQ) _ (by first|exact(Aa HB) _|exact below_drewN ((Aa HB) _) _|exact((Aa HB) _).drew|exact((Aa HB) _).drew.drew|exact below_drewN (below_drewN ((Aa HB) _) _) _)⟩
 ·cases pl with
  |true=>
   have HQ:=Ab ((Aa H1) rfl rfl);go_enter Tryz.func200,Tryz.ntmps200;go_wp2_with (first|(go_at_call 237;refine((Aa HQ) _ (by first|exact(Aa HB) _|exact below_drewN ((Aa HB) _) _|exact((Aa HB) _).drew|exact((Aa HB) _).drew.drew|exact below_drewN (below_drewN ((Aa HB) _) _) _)).mono ?_;rintro e w3 ⟨rfl,hw3⟩))
   go_returns;exact⟨rfl,hw3⟩
  |false=>
   have HQ:=Ab ((Aa HN) (Or.inl ⟨Or.inl rfl,rfl⟩));go_enter Tryz.func200,Tryz.ntmps200;go_wp2;go_returns;exact⟨rfl,(Aa HQ) _ (by first|exact(Aa HB) _|exact below_drewN ((Aa HB) _) _|exact((Aa HB) _).drew|exact((Aa HB) _).drew.drew|exact below_drewN (below_drewN ((Aa HB) _) _) _)⟩
 ·cases pl with
  |true=>
   have HQ:=Ab ((Aa H2) rfl rfl);go_enter Tryz.func200,Tryz.ntmps200;go_wp2_with (first|(go_at_call 137;refine((Aa HQ) _ (by first|exact(Aa HB) _|exact below_drewN ((Aa HB) _) _|exact((Aa HB) _).drew|exact((Aa HB) _).drew.drew|exact below_drewN (below_drewN ((Aa HB) _) _) _)).mono ?_;rintro e w3 ⟨rfl,hw3⟩))
   go_returns;exact⟨rfl,hw3⟩
  |false=>
   have HQ:=Ab ((Aa HN) (Or.inl ⟨Or.inr rfl,rfl⟩));go_enter Tryz.func200,Tryz.ntmps200;go_wp2;go_returns;exact⟨rfl,(Aa HQ) _ (by first|exact(Aa HB) _|exact below_drewN ((Aa HB) _) _|exact((Aa HB) _).drew|exact((Aa HB) _).drew.drew|exact below_drewN (below_drewN ((Aa HB) _) _) _)⟩
 ·have HQ:=Ab ((Aa H3) rfl);go_enter Tryz.func200,Tryz.ntmps200;go_wp2_with (first|(go_at_call 234;refine((Aa HQ) _ (by first|exact(Aa HB) _|exact below_drewN ((Aa HB) _) _|exact((Aa HB) _).drew|exact((Aa HB) _).drew.drew|exact below_drewN (below_drewN ((Aa HB) _) _) _)).mono ?_;rintro e w3 ⟨rfl,hw3⟩))
  go_returns;exact⟨rfl,hw3⟩
theorem QP(w:World)(s:Nat)(P:Pk)(Post:World->Prop)
  (HQ:Hid (∀wa,Below w.heap.size w wa->Calls Tryz.prog 199 #[pt s,.pointer none,pv P] wa fun e w'=>e=.returned (.tuple #[])/\Post w')):
  Calls Tryz.prog 139 #[pt s,.pointer none,pv P] w fun e w'=>e=.returned (.tuple #[])/\Post w':=by
 have HB:Hid (∀o,Below w.heap.size w (w.alloc o)):=fun o=>(Below.refl _ _).alloc (Nat.le_refl _) _
 go_enter Tryz.func139,Tryz.ntmps139;go_wp2_with fail
 go_quiet (fail);go_wp2_with (first|(go_at_call 199;refine((Aa HQ) _ (by first|exact(Aa HB) _|exact below_drewN ((Aa HB) _) _|exact((Aa HB) _).drew|exact((Aa HB) _).drew.drew|exact below_drewN (below_drewN ((Aa HB) _) _) _)).mono ?_;rintro e w3 ⟨rfl,hw3⟩))
 go_returns;exact⟨rfl,hw3⟩
theorem OC(w:World)(s b:Nat)(sq:Int)(P:Pk)(Post:World->Prop)(h3:w.cell? ⟨b,3,none⟩=some (.int .i64 sq))
  (HL:Hid (sq<P.seq->∀wa,Below w.heap.size w wa->Calls Tryz.prog 199 #[pt s,pt b,pv P] wa fun e w'=>e=.returned (.tuple #[])/\Post w'))
  (HE:Hid (sq=P.seq->∀wa,Below w.heap.size w wa->Calls Tryz.prog 200 #[pt s,pt b,pv P] wa fun e w'=>e=.returned (.tuple #[])/\Post w'))
  (HN:Hid (P.seq<sq->∀wa,Below w.heap.size w wa->Post wa)):
  Calls Tryz.prog 139 #[pt s,pt b,pv P] w fun e w'=>e=.returned (.tuple #[])/\Post w':=by
 have HB:Hid (∀o,Below w.heap.size w (w.alloc o)):=fun o=>(Below.refl _ _).alloc (Nat.le_refl _) _
 have hl:=lt_of_cell h3;rcases Int.lt_trichotomy sq P.seq with hc|hc|hc
 ·have HQ:=Ab ((Aa HL) hc);have e1:decide (sq<P.seq)=true:=by simpa using hc
  go_enter Tryz.func139,Tryz.ntmps139;go_wp2_with fail
  go_quiet (fail);go_wp2_with (first|(go_at_call 199;refine((Aa HQ) _ (by first|exact(Aa HB) _|exact below_drewN ((Aa HB) _) _|exact((Aa HB) _).drew|exact((Aa HB) _).drew.drew|exact below_drewN (below_drewN ((Aa HB) _) _) _)).mono ?_;rintro e w3 ⟨rfl,hw3⟩))
  go_returns;exact⟨rfl,hw3⟩
 ·have HQ:=Ab ((Aa HE) hc);have e1:decide (sq<P.seq)=false:=by simp;omega
  have e2:(sq==P.seq)=true:=by simpa using hc
  clear hc;go_enter Tryz.func139,Tryz.ntmps139;go_wp2_with fail
  go_quiet (fail);go_wp2_with fail
  go_quiet (fail);go_wp2_with (first|(go_at_call 200;refine((Aa HQ) _ (by first|exact(Aa HB) _|exact below_drewN ((Aa HB) _) _|exact((Aa HB) _).drew|exact((Aa HB) _).drew.drew|exact below_drewN (below_drewN ((Aa HB) _) _) _)).mono ?_;rintro e w3 ⟨rfl,hw3⟩))
  go_returns;exact⟨rfl,hw3⟩
 ·have HQ:=Ab ((Aa HN) hc);have e1:decide (sq<P.seq)=false:=by simp;omega
  have e2:(sq==P.seq)=false:=by simp;omega
  clear hc;go_enter Tryz.func139,Tryz.ntmps139;go_wp2_with fail
  go_quiet (fail);go_wp2_with fail
  go_quiet (fail);go_wp2;go_returns;exact⟨rfl,(Aa HQ) _ (by first|exact(Aa HB) _|exact below_drewN ((Aa HB) _) _|exact((Aa HB) _).drew|exact((Aa HB) _).drew.drew|exact below_drewN (below_drewN ((Aa HB) _) _) _)⟩
theorem Oj(a b:List UInt8):str (a++b)=str a++str b:=by
 apply ByteArray.ext;simp
theorem VK(w:World)(s b:Nat)(P:Pk)(asked:List UInt8)(Post:World->Prop)(h6:w.cell? ⟨b,6,none⟩=some (.string (str asked)))(z6:w.frozen? ⟨b,6,none⟩=false)(ha:asked.length<=1000)(hb:P.body.length<=1000)(ho:1<=P.off/\P.off<=9)(hn:¬P.part=P.off-1)
  (HP:Hid (∀wa,Below w.heap.size (w.setCell ⟨b,6,none⟩ (.string (str (asked++P.body)))) wa->Post wa)):
  Calls Tryz.prog 258 #[pt s,pt b,pv P] w fun e w'=>e=.returned (.bool true)/\Post w':=by
 have HB:Hid (∀o v,Below w.heap.size (w.setCell ⟨b,6,none⟩ v) ((w.setCell ⟨b,6,none⟩ v).alloc o)):=fun o v=>(Below.refl _ _).alloc (by simp) _
 have hl:=lt_of_cell h6;obtain⟨kd,cl,li,ln,sq',u,pa,o,pl,body⟩:=P;dsimp only[pv]at *;rw[Oj asked body]at HP;have hsz:¬9223372036854775807<(str asked).size+(str body).size:=by rw[Az,Az];omega
 generalize str body=SB at *;generalize str asked=SA at *;have ew:IntKind.i64.wrap (o-1)=o-1:=by rw[IntKind.wrap_i64];omega
 have e1:(pa==o-1)=false:=by simpa using hn
 clear hn;go_enter Tryz.func258,Tryz.ntmps258;go_wp2_with fail
 go_region
 all_goals
  go_wp2;go_returns;exact⟨rfl,(Aa HP) _ (by first|exact(Aa HB) _ _|exact((Aa HB) _ _).drew)⟩
theorem VI(w:World)(s b:Nat)(P:Pk)(c0 c1 c2 c3 c4:Int)(h0:w.cell? ⟨b,0,none⟩=some (.int .i64 c0))(h1:w.cell? ⟨b,1,none⟩=some (.int .i64 c1))(h2:w.cell? ⟨b,2,none⟩=some (.int .i64 c2))(h3:w.cell? ⟨b,3,none⟩=some (.int .i64 c3))(h4:w.cell? ⟨b,4,none⟩=some (.int .i64 c4))(ho:1<=P.off/\P.off<=9)(hn:P.part=P.off-1)
  (HJ:Hid (∀wa,Below w.heap.size w wa->Calls Tryz.prog 264 #[pt s,.agg #[.int .i64 c0,.int .i64 c1,.int .i64 c2,.int .i64 c3,.int .i64 c4]] wa fun e w'=>e=.returned (.bool false)/\Below wa.heap.size wa w')):
  Calls Tryz.prog 258 #[pt s,pt b,pv P] w fun e w'=>e=.returned (.bool false)/\Below w.heap.size w w':=by
 have HB:Hid (∀o,Below w.heap.size w (w.alloc o)):=fun o=>(Below.refl _ _).alloc (Nat.le_refl _) _
 have hl:=lt_of_cell h0;obtain⟨kd,cl,li,ln,sq',u,pa,o,pl,body⟩:=P;dsimp only[pv]at *;have ew:IntKind.i64.wrap (o-1)=o-1:=by rw[IntKind.wrap_i64];omega
 have e1:(pa==o-1)=true:=by simpa using hn
 clear hn;go_enter Tryz.func258,Tryz.ntmps258;go_wp2_with (first|(go_at_call 264;refine((Aa HJ) _ ((Aa HB) _)).mono ?_;rintro e w3 ⟨rfl,hw3⟩;have HB3:=Ab (((Aa HB) _).trans (hw3.mono (by simp)));clear hw3))
 go_returns;exact⟨rfl,Aa HB3⟩
theorem VJ(w:World)(s b:Nat)(P:Pk)(asked:List UInt8)(c0 c1 c2 c3 c4 st:Int)(A Post:World->Prop)(h0:w.cell? ⟨b,0,none⟩=some (.int .i64 c0))(h1:w.cell? ⟨b,1,none⟩=some (.int .i64 c1))(h2:w.cell? ⟨b,2,none⟩=some (.int .i64 c2))(h3:w.cell? ⟨b,3,none⟩=some (.int .i64 c3))(h4:w.cell? ⟨b,4,none⟩=some (.int .i64 c4))(ho:1<=P.off/\P.off<=9)(hn:P.part=P.off-1)(ha:asked.length<=1000)(hb:P.body.length<=1000)
  (HJ:Hid (∀wa,Below w.heap.size w wa->Calls Tryz.prog 264 #[pt s,.agg #[.int .i64 c0,.int .i64 c1,.int .i64 c2,.int .i64 c3,.int .i64 c4]] wa fun e w'=>e=.returned (.bool true)/\A w'/\(∀x,w.heap.size<=x->x<wa.heap.size->w'.heap[x]?=wa.heap[x]?)/\wa.heap.size<=w'.heap.size))
  (HA:Hid (∀w',A w'->w'.cell? ⟨b,6,none⟩=some (.string (str asked))/\w'.frozen? ⟨b,6,none⟩=false/\w'.cell? ⟨b,5,none⟩=some (.int .i64 st)/\w'.frozen? ⟨b,5,none⟩=false))
  (HP:Hid (∀w' wa,A w'->Below w'.heap.size ((w'.setCell ⟨b,6,none⟩ (.string (str (asked++P.body)))).setCell ⟨b,5,none⟩ (.int .i64 1)) wa->Post wa)):
  Calls Tryz.prog 258 #[pt s,pt b,pv P] w fun e w'=>e=.returned (.bool true)/\Post w':=by
 have HB:Hid (∀o,Below w.heap.size w (w.alloc o)):=fun o=>(Below.refl _ _).alloc (Nat.le_refl _) _
 have hl:=lt_of_cell h0;obtain⟨kd,cl,li,ln,sq',u,pa,o,pl,body⟩:=P;dsimp only[pv]at *;rw[Oj asked body]at HP;have hsz:¬9223372036854775807<(str asked).size+(str body).size:=by rw[Az,Az];omega
 generalize str body=SB at *;generalize str asked=SA at *;have ew:IntKind.i64.wrap (o-1)=o-1:=by rw[IntKind.wrap_i64];omega
 have e1:(pa==o-1)=true:=by simpa using hn
 clear hn;have HX:Hid (∀w3:World,(∀x,w.heap.size<=x->x<(w.alloc (.cells #[.int .i64 kd,.int .i64 cl,.int .i64 li,.int .i64 ln,.int .i64 sq',.int .i64 u,.int .i64 pa,.int .i64 o,.bool pl,.string SB] 41)).heap.size->w3.heap[x]?=(w.alloc (.cells #[.int .i64 kd,.int .i64 cl,.int .i64 li,.int .i64 ln,.int .i64 sq',.int .i64 u,.int .i64 pa,.int .i64 o,.bool pl,.string SB] 41)).heap[x]?)->w3.cell? ⟨w.heap.size,9,none⟩=some (.string SB)):=fun w3 hx=>by
  have h0:=hx w.heap.size (Nat.le_refl _) (by simp);rw[heap_alloc_new w _]at h0;exact cell_of h0 9 _ rfl
 go_enter Tryz.func258,Tryz.ntmps258;go_wp2_with (first|(go_at_call 264;refine((Aa HJ) _ ((Aa HB) _)).mono ?_;rintro e w3 ⟨rfl,hw3,hx3,hs3⟩;have hqa:=(Aa HA) w3 hw3;obtain⟨d6,y6,d5,y5⟩:=hqa;have d9:=(Aa HX) w3 hx3;have HP3:=Ab (fun wa=>(Aa HP) w3 wa hw3);have hl3:=lt_of_cell d6;have hl4:=lt_of_cell d9;have hnb:¬b=w.heap.size:=(by omega);have hnb':¬w.heap.size=b:=(by omega);clear hw3 hx3 hs3))
 go_region
 all_goals
  go_wp2;go_returns;exact⟨rfl,(Aa HP3) _ (by first|exact(Below.refl _ _)|exact(Below.refl _ _).drew|exact below_drewN (Below.refl _ _) _)⟩
end Go.Proofs.YtblomippkddgiaaGreatDoor
