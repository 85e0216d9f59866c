import Derived.Test.YtblomippkddgiabGreatDoorJ20
set_option maxRecDepth 100000
set_option maxHeartbeats 2000000
namespace Go.Proofs.YtblomippkddgiabGreatDoor
open Go.RowKit
variable {F:Aq}{k:Int}{p:Pl}{G:R.Wd}{w w':World}
def J4(seen:List R.Sn)(i:Nat):Bool:=decide (((seen[i]?).getD R.Cs).seq≠0)
def idx(seen:List R.Sn):List Nat:=(List.range 9).filter (J4 seen)
theorem Rt(t:SP)(seen:List R.Sn)(n:Nat):Gw (qf t seen) n=((List.range n).filter (J4 seen)).map fun i=>ptr (t.ql i):=by
 induction n with
 |zero=>rfl
 |succ n ih=>
  rw[KI,ih,List.range_succ,List.filter_append,List.map_append];unfold qf;by_cases h:((seen[n]?).getD R.Cs).seq=0
  ·simp[h,J4]
  ·simp[h,J4]
theorem Nk(t:SP)(seen:List R.Sn):Gw (qf t seen) 9=(idx seen).map fun i=>ptr (t.ql i):=Rt t seen 9
theorem On(seen:List R.Sn):(idx seen).Nodup:=(List.nodup_range).filter _
theorem UW(seen:List R.Sn):(idx seen).length<=9:=by
 have:=List.length_filter_le (J4 seen) (List.range 9);rw[List.length_range]at this;exact this
theorem KL(G:R.Wd){j i:Nat}(h:i≠j)(r:R.Sn):(R.AB G j r).seen[i]?=G.seen[i]?:=by
 unfold R.AB;simp only;rw[List.getElem?_set,if_neg (fun e=>h e.symm)]
theorem IC(G:R.Wd)(j:Nat):(R.AJ G j).Aj=G.Aj/\(R.AJ G j).c=G.c/\∀i,i≠j->(R.AJ G j).seen[i]?=G.seen[i]?:=by
 unfold R.AJ;simp only;repeat' split
 ·exact⟨rfl,rfl,fun i _=>rfl⟩
 ·exact⟨rfl,rfl,fun i hi=>KL G hi _⟩
 ·exact⟨rfl,rfl,fun i hi=>KL G hi _⟩
 ·exact⟨by rw[C4];rfl,by rw[Kd];rfl,fun i hi=>by rw[Hq];exact KL G hi _⟩
theorem OM:∀(l:List Nat) (G:R.Wd),(l.foldl R.AJ G).Aj=G.Aj/\(l.foldl R.AJ G).c=G.c/\∀i,i ∉ l->(l.foldl R.AJ G).seen[i]?=G.seen[i]?
 |[],G=>⟨rfl,rfl,fun _ _=>rfl⟩
 |j :: l,G=>by
  obtain⟨a1,a2,a3⟩:=OM l (R.AJ G j);obtain⟨b1,b2,b3⟩:=IC G j;rw[List.foldl_cons];refine⟨a1.trans b1,a2.trans b2,fun i hi=>?_⟩;simp only[List.mem_cons,not_or]at hi;exact(a3 i hi.2).trans (b3 i hi.1)
theorem KO{seen:List R.Sn}(hz:∀(i:Nat) (r:R.Sn),seen[i]?=some r->r.seq=0->r=R.Cs):∀(l:List Nat) (G:R.Wd),l.Nodup->(∀i∈l,G.seen[i]?=seen[i]?)->l.foldl R.AJ G=(l.filter (J4 seen)).foldl R.AJ G
 |[],G,_,_=>rfl
 |j :: l,G,hn,hs=>by
  rw[List.nodup_cons]at hn;rw[List.foldl_cons,List.filter_cons];by_cases h:J4 seen j=true
  ·rw[if_pos h,List.foldl_cons];refine KO hz l (R.AJ G j) hn.2 (fun i hi=>?_);rw[(IC G j).2.2 i (fun e=>hn.1 (e ▸ hi))];exact hs i (List.mem_cons_of_mem _ hi)
  ·rw[if_neg h];have h0:R.AY G j=R.Cs:=by
    unfold R.AY;rw[hs j List.mem_cons_self];have h:((seen[j]?).getD R.Cs).seq=0:=by simpa [J4] using h
    cases hr:seen[j]? with
    |none=>rfl
    |some r=>
     rw[hr]at h;rw[hz j r hr (by simpa using h)];rfl
   have e:R.AJ G j=G:=by
    unfold R.AJ;simp only;rw[h0,if_pos (show R.Cs.timed=false from rfl)]
   rw[e];exact KO hz l G hn.2 (fun i hi=>hs i (List.mem_cons_of_mem _ hi))
theorem Jr{α β:Type}(f:α->β->α)(a:α)(l:List β)(k:Nat)(x:β)(h:l[k]?=some x):(l.take (k+1)).foldl f a=f ((l.take k).foldl f a) x:=by
 rw[List.take_add_one,h];simp
theorem LW.aei(h:LW p F G w):
  Calls Tryz.prog 59 #[ptr p.s] w fun e w'=>e=.returned (.tuple #[])/\∃F',LW p F' ((List.range 9).foldl R.AJ G) w'/\Ap F F' w w':=by
 have ac:(List.range 9).foldl R.AJ G=(idx G.seen).foldl R.AJ G:=KO (seen:=G.seen) (fun i r hr h0=>(h.Db.sn i r hr).zero h0) (List.range 9) G List.nodup_range (fun _ _=>rfl);rw[ac];have ah:=UW G.seen;refine(Uj w p.s (idx G.seen).length (fun k=>p.t.ql ((idx G.seen).getD k 0)) (fun O k wr=>∃F',LW p F' (((idx G.seen).take k).foldl R.AJ G) wr/\Ap F F' w wr/\wr.ownsRow w.heap.size 137 1 O (idx G.seen).length ((idx G.seen).map fun i=>ptr (p.t.ql i))/\∀j,O.ownBlock=some j->¬F' j) ah ?_ ?_ ?_).mono ?_
 ·refine h.BN.rem.mono ?_;rintro e w1 ⟨O,rfl,aa,hb⟩;rw[Nk,List.length_map]at aa;refine⟨O,rfl,F,h.below hb,Ap.Al F hb,aa,fun j hj hF=>?_⟩;have h1:=((World.ownsRow.lt aa) j hj).1;have h2:=h.lt j hF;omega
 ·rintro O k wr ⟨F',_,_,aa,_⟩;exact AX aa
 ·rintro O k wr hk ⟨F',hw,af,aa,ag⟩;have ab:(idx G.seen)[k]?=some ((idx G.seen)[k]):=List.getElem?_eq_getElem hk;have ak:(idx G.seen).getD k 0=(idx G.seen)[k]:=by rw[List.getD_eq_getElem?_getD,ab];rfl
  rw[ak];generalize hi:(idx G.seen)[k]=i at ab;have ad:i∈idx G.seen:=List.mem_of_getElem? ab;have am:J4 G.seen i=true:=(List.mem_filter.1 ad).2;have al:i<9:=by simpa using (List.mem_filter.1 ad).1
  have hr:G.seen[i]?=some (R.AY G i):=by
   have hl:i<G.seen.length:=by rw[h.Db.sl];exact al
   rw[R.Bn (List.getElem?_eq_getElem hl)];exact List.getElem?_eq_getElem hl
  have ao:(R.AY G i).seq≠0:=by
   have:((G.seen[i]?).getD R.Cs).seq≠0:=by simpa [J4] using am
   exact this
  have ai:i ∉ (idx G.seen).take k:=fun hm=>by
   obtain⟨j,hj⟩:=List.mem_iff_getElem?.1 hm;rw[List.getElem?_take]at hj;split at hj
   ·have ar:j=k:=by
     have an:=(List.getElem?_eq_some_iff.1 hj).1;exact(List.getElem?_inj an (On G.seen)).1 (hj.trans ab.symm)
    omega
   ·cases hj
  have ae:(((idx G.seen).take k).foldl R.AJ G).seen[i]?=some (R.AY G i):=by rw[(OM _ G).2.2 i ai];exact hr
  obtain⟨y,hq,_⟩:=hw.q ae ao;obtain⟨_,_,_,_,_,_,_,_,_,c9,_⟩:=Qb hq.blk;have hs:=hw.Db.sn i _ ae;rcases aa.2 with ⟨_,h0⟩|⟨g,cap,aq,rfl,_,hg,_,_,av,ap⟩
  ·omega
  ·refine⟨g,cap,rfl,?_,y.wait,c9,fun hx=>?_,fun hx=>?_⟩
   ·have:((idx G.seen).map fun i=>ptr (p.t.ql i))[k]?=some (ptr (p.t.ql i)):=by rw[List.getElem?_map,ab];rfl
    rw[<-ap,List.getElem?_take,if_pos (by omega)]at this;simp[World.cell?,hg];simpa using this
   ·have ht:(R.AY G i).timed=true:=by
     have:=hq.rel.wait;cases e:(R.AY G i).timed with
     |true=>rfl
     |false=>rw[e]at this;simp at this;omega
    refine(hw.aek hq ht).mono ?_;rintro e w' ⟨rfl,aj,g1,g2⟩;refine⟨rfl,aj,?_,af.trans g2,g2.keeps.row aa (fun j hj=>ag j hj),fun j hj hF=>?_⟩
    ·rw[Jr R.AJ G _ k i ab];exact g1
    ·have au:=((World.ownsRow.lt aa) j hj).2;rcases g2.fresh j hF with q|q
     ·exact ag j hj q
     ·omega
   ·have ht:(R.AY G i).timed=false:=by
     have:=hq.rel.wait;cases e:(R.AY G i).timed with
     |false=>rfl
     |true=>
      rw[e]at this;have:=(hs.timed e).2.1;simp at *;omega
    refine⟨F',?_,af,aa,ag⟩;rw[Jr R.AJ G _ k i ab];have e:R.AJ (((idx G.seen).take k).foldl R.AJ G) i=((idx G.seen).take k).foldl R.AJ G:=by
     generalize ((idx G.seen).take k).foldl R.AJ G=K at ae;unfold R.AJ;simp only;rw[R.Bn ae,if_pos ht]
    rw[e];exact hw
 ·rintro e w' ⟨rfl,O,F',hw,af,_⟩;rw[List.take_length]at hw;exact⟨rfl,F',hw,af⟩
theorem LW.tick(h:LW p F G w):
  Calls Tryz.prog 32 #[ptr p.x] w fun e w'=>e=.returned (.tuple #[])/\∃F',LW p F' (R.IB G) w'/\Ap F F' w w':=by
 unfold R.IB;rw[P8];have ad:=h.wf.cf;have e0:=h.wf.Gt;unfold R.BD at ad;refine Up w p.x p.s p.cs G.Ad.length p.cap p.cb (fun n wr=>∃F',LW p F' (Jf G n) wr/\Ap F F' w wr) _ ⟨F,h,Ap.refl F w⟩ (cell_of h.bx 2 _ rfl) ?_ (by omega) ?_
 ·rintro i wr hi ⟨F',hw,ab⟩;have e1:=hw.wf.Gt;rw[abz,<-e0]at e1;have ac:i<(Jf G i).Ad.length:=by omega
  obtain⟨ae,h1,h2⟩:=hw.XH;refine⟨by simp[World.cell?,h1,h2 i ac],?_⟩;refine(hw.FW ac).mono ?_;rintro e w' ⟨rfl,aa,q1,q2⟩;exact⟨rfl,aa,by rw[ND];exact q1,ab.trans q2⟩
 ·rintro wr ⟨F',hw,ab⟩;refine⟨cell_of hw.bx 1 _ rfl,?_⟩;refine hw.aei.mono ?_;rintro e w' ⟨rfl,aa,q1,q2⟩;exact⟨rfl,aa,q1,ab.trans q2⟩
abbrev BK:Array Value:=#[.int .i64 0,.int .i64 0,.string {data:=#[105]},.string {data:=#[99]},.int .i64 0,.int .i64 1,.string {data:=#[98]},.string {data:=#[99]},.int .i64 1,.int .i64 0,.string {data:=#[115]},.string {data:=#[99]},.int .i64 1,.int .i64 1,.string {data:=#[99]},.string {data:=#[113,52,115]},.int .i64 2,.int .i64 0,.string {data:=#[114,40,101,51,113,51,105,41]},.string {data:=#[117,40,98,113,51,105,41]}]
theorem i0(w:World):(Instr.index 312 (.agg BK) (.int .i64 0)).run Tryz.prog w=.ok (.agg #[.int .i64 0,.int .i64 0,.string {data:=#[105]},.string {data:=#[99]}]) w:=by kernel_rfl
theorem i1(w:World):(Instr.index 312 (.agg BK) (.int .i64 1)).run Tryz.prog w=.ok (.agg #[.int .i64 0,.int .i64 1,.string {data:=#[98]},.string {data:=#[99]}]) w:=by kernel_rfl
theorem i2(w:World):(Instr.index 312 (.agg BK) (.int .i64 2)).run Tryz.prog w=.ok (.agg #[.int .i64 1,.int .i64 0,.string {data:=#[115]},.string {data:=#[99]}]) w:=by kernel_rfl
theorem i3(w:World):(Instr.index 312 (.agg BK) (.int .i64 3)).run Tryz.prog w=.ok (.agg #[.int .i64 1,.int .i64 1,.string {data:=#[99]},.string {data:=#[113,52,115]}]) w:=by kernel_rfl
theorem i4(w:World):(Instr.index 312 (.agg BK) (.int .i64 4)).run Tryz.prog w=.ok (.agg #[.int .i64 2,.int .i64 0,.string {data:=#[114,40,101,51,113,51,105,41]},.string {data:=#[117,40,98,113,51,105,41]}]) w:=by kernel_rfl
theorem Cm(k:Int)(w:World):
  Calls Tryz.prog 143 #[.int .i64 k] w fun e w'=>e=.returned (.bool (k==0 || k==1 || k==2))/\w'=w:=by
 by_cases h0:k=0
 ·subst h0;go_enter Tryz.func143,Tryz.ntmps143;go_wp2
  go_ret
  exact⟨rfl,rfl⟩
 by_cases h1:k=1
 ·subst h1;go_enter Tryz.func143,Tryz.ntmps143;go_wp2
  go_ret
  exact⟨rfl,rfl⟩
 by_cases h2:k=2
 ·subst h2;go_enter Tryz.func143,Tryz.ntmps143;go_wp2
  go_ret
  exact⟨rfl,rfl⟩
 have e0:(k==0)=false:=by simpa using h0
 have e1:(k==1)=false:=by simpa using h1
 have e2:(k==2)=false:=by simpa using h2
 go_enter Tryz.func143,Tryz.ntmps143;go_wp2
 go_ret
 exact⟨by rw[e0,e1,e2];rfl,rfl⟩
theorem V1(k:Int)(w:World)(h:k<0\/2<k):
  Calls Tryz.prog 143 #[.int .i64 k] w fun e w'=>e=.returned (.bool false)/\w'=w:=by
 refine(Cm k w).mono ?_;rintro e w' ⟨rfl,rfl⟩;have e0:(k==0)=false:=by simp;omega
 have e1:(k==1)=false:=by simp;omega
 have e2:(k==2)=false:=by simp;omega
 rw[e0,e1,e2];exact⟨rfl,rfl⟩
theorem acJ(w:World)(tt:TypeId)(fr:Nat×Nat)(hg:w.heap[0]?=some (.cells BK tt fr)):
  Calls Tryz.prog 183 #[.int .i64 0,.int .i64 0] w fun e w'=>e=.returned (.tuple #[.string {data:=#[105]},.string {data:=#[99]},.int .i64 0])/\Below w.heap.size w w':=by
 have j0:=i0;have j1:=i1;have j2:=i2;have j3:=i3;have j4:=i4;go_enter Tryz.func183,Tryz.ntmps183;go_wp2_with (first|(go_at_call 143;refine(Cm _ _).mono ?_;rintro e w' ⟨rfl,rfl⟩)|(refine wpList_load_row rfl 312 _ rfl 0 rfl tt _ fr _ hg Tryz.underlying312 rfl (by kernel_rfl) ?_))
 refine wp_loop_rounds 1 ?_;rw[rounds_succ];go_wp2
 go_region
 go_wp2
 go_ret3
 refine⟨rfl,?_⟩;repeat (first|exact Below.refl _ _|refine Below.drew ?_|refine Below.alloc ?_ (by simp;try omega) _)
theorem acK(w:World)(tt:TypeId)(fr:Nat×Nat)(hg:w.heap[0]?=some (.cells BK tt fr)):
  Calls Tryz.prog 183 #[.int .i64 0,.int .i64 1] w fun e w'=>e=.returned (.tuple #[.string {data:=#[98]},.string {data:=#[99]},.int .i64 0])/\Below w.heap.size w w':=by
 have j0:=i0;have j1:=i1;have j2:=i2;have j3:=i3;have j4:=i4;go_enter Tryz.func183,Tryz.ntmps183;go_wp2_with (first|(go_at_call 143;refine(Cm _ _).mono ?_;rintro e w' ⟨rfl,rfl⟩)|(refine wpList_load_row rfl 312 _ rfl 0 rfl tt _ fr _ hg Tryz.underlying312 rfl (by kernel_rfl) ?_))
 refine wp_loop_rounds 2 ?_;rw[rounds_succ];go_wp2;rw[rounds_succ];go_wp2
 go_region
 go_wp2
 go_ret3
 refine⟨rfl,?_⟩;repeat (first|exact Below.refl _ _|refine Below.drew ?_|refine Below.alloc ?_ (by simp;try omega) _)
theorem acM(w:World)(tt:TypeId)(fr:Nat×Nat)(hg:w.heap[0]?=some (.cells BK tt fr)):
  Calls Tryz.prog 183 #[.int .i64 1,.int .i64 0] w fun e w'=>e=.returned (.tuple #[.string {data:=#[115]},.string {data:=#[99]},.int .i64 0])/\Below w.heap.size w w':=by
 have j0:=i0;have j1:=i1;have j2:=i2;have j3:=i3;have j4:=i4;go_enter Tryz.func183,Tryz.ntmps183;go_wp2_with (first|(go_at_call 143;refine(Cm _ _).mono ?_;rintro e w' ⟨rfl,rfl⟩)|(refine wpList_load_row rfl 312 _ rfl 0 rfl tt _ fr _ hg Tryz.underlying312 rfl (by kernel_rfl) ?_))
 refine wp_loop_rounds 3 ?_;rw[rounds_succ];go_wp2;rw[rounds_succ];go_wp2;rw[rounds_succ];go_wp2
 go_region
 go_wp2
 go_ret3
 refine⟨rfl,?_⟩;repeat (first|exact Below.refl _ _|refine Below.drew ?_|refine Below.alloc ?_ (by simp;try omega) _)
theorem acN(w:World)(tt:TypeId)(fr:Nat×Nat)(hg:w.heap[0]?=some (.cells BK tt fr)):
  Calls Tryz.prog 183 #[.int .i64 1,.int .i64 1] w fun e w'=>e=.returned (.tuple #[.string {data:=#[99]},.string {data:=#[113,52,115]},.int .i64 0])/\Below w.heap.size w w':=by
 have j0:=i0;have j1:=i1;have j2:=i2;have j3:=i3;have j4:=i4;go_enter Tryz.func183,Tryz.ntmps183;go_wp2_with (first|(go_at_call 143;refine(Cm _ _).mono ?_;rintro e w' ⟨rfl,rfl⟩)|(refine wpList_load_row rfl 312 _ rfl 0 rfl tt _ fr _ hg Tryz.underlying312 rfl (by kernel_rfl) ?_))
 refine wp_loop_rounds 4 ?_;rw[rounds_succ];go_wp2;rw[rounds_succ];go_wp2;rw[rounds_succ];go_wp2;rw[rounds_succ];go_wp2
 go_region
 go_wp2
 go_ret3
 refine⟨rfl,?_⟩;repeat (first|exact Below.refl _ _|refine Below.drew ?_|refine Below.alloc ?_ (by simp;try omega) _)
theorem acP(w:World)(tt:TypeId)(fr:Nat×Nat)(hg:w.heap[0]?=some (.cells BK tt fr)):
  Calls Tryz.prog 183 #[.int .i64 2,.int .i64 0] w fun e w'=>e=.returned (.tuple #[.string {data:=#[114,40,101,51,113,51,105,41]},.string {data:=#[117,40,98,113,51,105,41]},.int .i64 0])/\Below w.heap.size w w':=by
 have j0:=i0;have j1:=i1;have j2:=i2;have j3:=i3;have j4:=i4;go_enter Tryz.func183,Tryz.ntmps183;go_wp2_with (first|(go_at_call 143;refine(Cm _ _).mono ?_;rintro e w' ⟨rfl,rfl⟩)|(refine wpList_load_row rfl 312 _ rfl 0 rfl tt _ fr _ hg Tryz.underlying312 rfl (by kernel_rfl) ?_))
 refine wp_loop_rounds 5 ?_;rw[rounds_succ];go_wp2;rw[rounds_succ];go_wp2;rw[rounds_succ];go_wp2;rw[rounds_succ];go_wp2;rw[rounds_succ];go_wp2
 go_region
 go_wp2
 go_ret3
 refine⟨rfl,?_⟩;repeat (first|exact Below.refl _ _|refine Below.drew ?_|refine Below.alloc ?_ (by simp;try omega) _)
theorem acL(p:Int)(h0:¬p=0)(h1:¬p=1)(w:World)(tt:TypeId)(fr:Nat×Nat)(hg:w.heap[0]?=some (.cells BK tt fr)):
  Calls Tryz.prog 183 #[.int .i64 0,.int .i64 p] w fun e w'=>e=.returned (.tuple #[.string {data:=#[]},.string {data:=#[]},.int .i64 16])/\Below w.heap.size w w':=by
 have e0:((0:Int)==p)=false:=by simp;omega
 have e1:((1:Int)==p)=false:=by simp;omega
 have j0:=i0;have j1:=i1;have j2:=i2;have j3:=i3;have j4:=i4;go_enter Tryz.func183,Tryz.ntmps183;go_wp2_with (first|(go_at_call 143;refine(Cm _ _).mono ?_;rintro e w' ⟨rfl,rfl⟩)|(refine wpList_load_row rfl 312 _ rfl 0 rfl tt _ fr _ hg Tryz.underlying312 rfl (by kernel_rfl) ?_))
 refine wp_loop_rounds 6 ?_;rw[rounds_succ];go_wp2;rw[rounds_succ];go_wp2;rw[rounds_succ];go_wp2;rw[rounds_succ];go_wp2;rw[rounds_succ];go_wp2;rw[rounds_succ];go_wp2
 go_ret3
 refine⟨rfl,?_⟩;repeat (first|exact Below.refl _ _|refine Below.drew ?_|refine Below.alloc ?_ (by simp;try omega) _)
theorem acO(p:Int)(h0:¬p=0)(h1:¬p=1)(w:World)(tt:TypeId)(fr:Nat×Nat)(hg:w.heap[0]?=some (.cells BK tt fr)):
  Calls Tryz.prog 183 #[.int .i64 1,.int .i64 p] w fun e w'=>e=.returned (.tuple #[.string {data:=#[]},.string {data:=#[]},.int .i64 16])/\Below w.heap.size w w':=by
 have e0:((0:Int)==p)=false:=by simp;omega
 have e1:((1:Int)==p)=false:=by simp;omega
 have j0:=i0;have j1:=i1;have j2:=i2;have j3:=i3;have j4:=i4;go_enter Tryz.func183,Tryz.ntmps183;go_wp2_with (first|(go_at_call 143;refine(Cm _ _).mono ?_;rintro e w' ⟨rfl,rfl⟩)|(refine wpList_load_row rfl 312 _ rfl 0 rfl tt _ fr _ hg Tryz.underlying312 rfl (by kernel_rfl) ?_))
 refine wp_loop_rounds 6 ?_;rw[rounds_succ];go_wp2;rw[rounds_succ];go_wp2;rw[rounds_succ];go_wp2;rw[rounds_succ];go_wp2;rw[rounds_succ];go_wp2;rw[rounds_succ];go_wp2
 go_ret3
 refine⟨rfl,?_⟩;repeat (first|exact Below.refl _ _|refine Below.drew ?_|refine Below.alloc ?_ (by simp;try omega) _)
theorem acQ(p:Int)(h0:¬p=0)(w:World)(tt:TypeId)(fr:Nat×Nat)(hg:w.heap[0]?=some (.cells BK tt fr)):
  Calls Tryz.prog 183 #[.int .i64 2,.int .i64 p] w fun e w'=>e=.returned (.tuple #[.string {data:=#[]},.string {data:=#[]},.int .i64 16])/\Below w.heap.size w w':=by
 have e0:((0:Int)==p)=false:=by simp;omega
 have j0:=i0;have j1:=i1;have j2:=i2;have j3:=i3;have j4:=i4;go_enter Tryz.func183,Tryz.ntmps183;go_wp2_with (first|(go_at_call 143;refine(Cm _ _).mono ?_;rintro e w' ⟨rfl,rfl⟩)|(refine wpList_load_row rfl 312 _ rfl 0 rfl tt _ fr _ hg Tryz.underlying312 rfl (by kernel_rfl) ?_))
 refine wp_loop_rounds 6 ?_;rw[rounds_succ];go_wp2;rw[rounds_succ];go_wp2;rw[rounds_succ];go_wp2;rw[rounds_succ];go_wp2;rw[rounds_succ];go_wp2;rw[rounds_succ];go_wp2
 go_ret3
 refine⟨rfl,?_⟩;repeat (first|exact Below.refl _ _|refine Below.drew ?_|refine Below.alloc ?_ (by simp;try omega) _)
theorem acR(k p:Int)(w:World)(h:k<0\/2<k):
  Calls Tryz.prog 183 #[.int .i64 k,.int .i64 p] w fun e w'=>e=.returned (.tuple #[.string {data:=#[]},.string {data:=#[]},.int .i64 9])/\Below w.heap.size w w':=by
 have HH:Hid (k<0\/2<k):=h;clear h;go_enter Tryz.func183,Tryz.ntmps183;go_wp2_with (first|(go_at_call 143;refine(V1 _ _ HH.out).mono ?_;rintro e w' ⟨rfl,rfl⟩))
 go_ret3
 exact⟨rfl,Below.refl _ _⟩
def Hs(k p:Int):ByteArray:=if k=0/\p=0 then {data:=#[105]} else if k=0/\p=1 then {data:=#[98]} else if k=1/\p=0 then {data:=#[115]} else if k=1/\p=1 then {data:=#[99]} else if k=2/\p=0 then {data:=#[114,40,101,51,113,51,105,41]} else {data:=#[]}
def Ue(k p:Int):ByteArray:=if k=0/\p=0 then {data:=#[99]} else if k=0/\p=1 then {data:=#[99]} else if k=1/\p=0 then {data:=#[99]} else if k=1/\p=1 then {data:=#[113,52,115]} else if k=2/\p=0 then {data:=#[117,40,98,113,51,105,41]} else {data:=#[]}
def KM(k p:Int):Int:=if k<0\/2<k then 9 else if k=0/\p=0 then 0 else if k=0/\p=1 then 0 else if k=1/\p=0 then 0 else if k=1/\p=1 then 0 else if k=2/\p=0 then 0 else 16
theorem ZL{Q:Int->Int->Prop}(k p:Int)(af:∀k p,k<0\/2<k->Q k p)(aa:Q 0 0)(ab:Q 0 1)(ac:Q 1 0)(ad:Q 1 1)(ae:Q 2 0)(h0:∀p,¬p=0->¬p=1->Q 0 p)(h1:∀p,¬p=0->¬p=1->Q 1 p)(h2:∀p,¬p=0->Q 2 p):Q k p:=by
 by_cases a:k<0\/2<k
 ·exact af k p a
 have hk:k=0\/k=1\/k=2:=by omega
 rcases hk with rfl|rfl|rfl
 ·by_cases b:p=0
  ·subst b;exact aa
  ·by_cases c:p=1
   ·subst c;exact ab
   ·exact h0 p b c
 ·by_cases b:p=0
  ·subst b;exact ac
  ·by_cases c:p=1
   ·subst c;exact ad
   ·exact h1 p b c
 ·by_cases b:p=0
  ·subst b;exact ae
  ·exact h2 p b
abbrev DY(k p:Int):Value:=.tuple #[.string (Hs k p),.string (Ue k p),.int .i64 (KM k p)]
theorem acU(k p:Int)(h:k<0\/2<k):DY k p=.tuple #[.string {data:=#[]},.string {data:=#[]},.int .i64 9]:=by
 have a0:¬k=0:=by omega
 have a1:¬k=1:=by omega
 have a2:¬k=2:=by omega
 simp[DY,Hs,Ue,KM,a0,a1,a2,h]
theorem abT(p:Int)(h0:¬p=0)(h1:¬p=1):DY 0 p=.tuple #[.string {data:=#[]},.string {data:=#[]},.int .i64 16]:=by
 simp[DY,Hs,Ue,KM,h0,h1]
theorem abU(p:Int)(h0:¬p=0)(h1:¬p=1):DY 1 p=.tuple #[.string {data:=#[]},.string {data:=#[]},.int .i64 16]:=by
 simp[DY,Hs,Ue,KM,h0,h1]
theorem abV(p:Int)(h0:¬p=0):DY 2 p=.tuple #[.string {data:=#[]},.string {data:=#[]},.int .i64 16]:=by
 simp[DY,Hs,Ue,KM,h0]
theorem Vi(k p:Int)(w:World)(tt:TypeId)(fr:Nat×Nat)(hg:w.heap[0]?=some (.cells BK tt fr)):
  Calls Tryz.prog 183 #[.int .i64 k,.int .i64 p] w fun e w'=>e=.returned (DY k p)/\Below w.heap.size w w':=by
 refine ZL (Q:=fun k p=>Calls Tryz.prog 183 #[.int .i64 k,.int .i64 p] w fun e w'=>e=.returned (DY k p)/\Below w.heap.size w w') k p ?_ ?_ ?_ ?_ ?_ ?_ ?_ ?_ ?_
 ·intro k p h;rw[acU k p h];exact acR k p w h
 ·exact acJ w tt fr hg
 ·exact acK w tt fr hg
 ·exact acM w tt fr hg
 ·exact acN w tt fr hg
 ·exact acP w tt fr hg
 ·intro p h0 h1;rw[abT p h0 h1];exact acL p h0 h1 w tt fr hg
 ·intro p h0 h1;rw[abU p h0 h1];exact acO p h0 h1 w tt fr hg
 ·intro p h0;rw[abV p h0];exact acQ p h0 w tt fr hg
theorem adN{w1:World}{tt:TypeId}{fr:Nat×Nat}(hg:w.heap[0]?=some (.cells BK tt fr))(hb:Below w.heap.size w w1):w1.heap[0]?=some (.cells BK tt fr):=by
 have h0:0<w.heap.size:=by
  rcases Nat.lt_or_ge 0 w.heap.size with h|h
  ·exact h
  ·rw[Array.getElem?_eq_none h]at hg;cases hg
 rw[hb.block 0 h0];exact hg
theorem aeE:DY 2 0=.tuple #[.string {data:=#[114,40,101,51,113,51,105,41]},.string {data:=#[117,40,98,113,51,105,41]},.int .i64 0]:=rfl
def Ec(w:World):Prop:=∃tt fr,w.heap[0]?=some (.cells BK tt fr)
theorem Ec.below(h:Ec w)(hb:Below w.heap.size w w'):Ec w':=by
 obtain⟨tt,fr,hg⟩:=h;exact⟨tt,fr,adN hg hb⟩
theorem Ec.keeps(h:Ec w)(hk:Af F w w')(h0:¬F 0):Ec w':=by
 obtain⟨tt,fr,hg⟩:=h;exact⟨tt,fr,hk.at hg h0⟩
theorem Gz{p:Int}{f t:ByteArray}(h:R.C6 k p=some (f,t)):DY k p=.tuple #[.string f,.string t,.int .i64 0]/\(V.Pt.IZ (V.nx f) f.size).1=0/\(V.Pt.IZ (V.nx t) t.size).1=0/\(p=0\/p=1)/\(0<=k/\k<=2):=by
 unfold R.C6 at h;split at h
 ·rename_i q;obtain⟨rfl,rfl⟩:=q;cases h;exact⟨rfl,by decide +kernel,by decide +kernel,by omega,by omega⟩
 ·split at h
  ·rename_i q;obtain⟨rfl,rfl⟩:=q;cases h;exact⟨rfl,by decide +kernel,by decide +kernel,by omega,by omega⟩
  ·split at h
   ·rename_i q;obtain⟨rfl,rfl⟩:=q;cases h;exact⟨rfl,by decide +kernel,by decide +kernel,by omega,by omega⟩
   ·split at h
    ·rename_i q;obtain⟨rfl,rfl⟩:=q;cases h;exact⟨rfl,by decide +kernel,by decide +kernel,by omega,by omega⟩
    ·split at h
     ·rename_i q;obtain⟨rfl,rfl⟩:=q;cases h;exact⟨rfl,by decide +kernel,by decide +kernel,by omega,by omega⟩
     ·cases h
theorem ZR{p:Int}(hk:0<=k/\k<=2)(h:R.C6 k p=none):DY k p=.tuple #[.string ⟨#[]⟩,.string ⟨#[]⟩,.int .i64 16]:=by
 obtain rfl|rfl|rfl:k=0\/k=1\/k=2:=by omega
 ·have h0:¬p=0:=fun e=>by subst e;simp[R.C6]at h
  have h1:¬p=1:=fun e=>by subst e;simp[R.C6]at h
  exact abT p h0 h1
 ·have h0:¬p=0:=fun e=>by subst e;simp[R.C6]at h
  have h1:¬p=1:=fun e=>by subst e;simp[R.C6]at h
  exact abU p h0 h1
 ·have h0:¬p=0:=fun e=>by subst e;simp[R.C6]at h
  exact abV p h0
theorem Us(k p:Int)(hk:0<=k/\k<=2)(h:R.C6 k p=none)(w:World)(ht:Ec w):Calls Tryz.prog 201 #[.int .i64 k,.int .i64 p] w fun e w'=>e=Az 16 0/\Below w.heap.size w w':=by
 have HS:Hid (∀w',Below w.heap.size w w'->Calls Tryz.prog 183 #[.int .i64 k,.int .i64 p] w' fun e ab=>e=.returned (.tuple #[.string ⟨#[]⟩,.string ⟨#[]⟩,.int .i64 16])/\Below w'.heap.size w' ab):=fun w' hb=>by
  obtain⟨tt,fr,hg⟩:=ht.below hb;refine(Vi k p w' tt fr hg).mono ?_;rintro e ab ⟨rfl,q⟩;exact⟨by rw[ZR hk h],q⟩
 have HB:Hid (Below w.heap.size w ((w.alloc (.cells #[.int .u8 0,.int .i64 0,.slice none 0 0] 262)).alloc (.cells #[.int .u8 0,.int .i64 0,.slice none 0 0] 262))):=((Below.refl _ _).alloc (Nat.le_refl _) _).alloc (by simp) _;go_enter Tryz.func201,Tryz.ntmps201;go_wp2_with fail
 refine((Aa HS) _ (Aa HB)).mono ?_;rintro e w1 ⟨rfl,aa⟩;have ac:=Ac ((Aa HB).trans (aa.mono (Aa HB).size));clear aa;go_wp2;exact⟨rfl,rfl,Aa ac⟩
theorem Hg(k p:Int)(f t:ByteArray)(h:R.C6 k p=some (f,t))(w:World)(ht:Ec w):Calls Tryz.prog 201 #[.int .i64 k,.int .i64 p] w fun e w'=>(∃a0 a1 a2 b0 b1 b2,e=.returned (.tuple #[.agg #[a0,a1,a2],.agg #[b0,b1,b2]])/\(∃S,V.Fe w' S (V.nx f) (f.size+1) 0 a0 a1 a2)/\(∃S,V.Fe w' S (V.nx t) (t.size+1) 0 b0 b1 b2))/\Below w.heap.size w w':=by
 obtain⟨hs,hf,aw,_,_⟩:=Gz h;have HS:Hid (∀w',Below w.heap.size w w'->Calls Tryz.prog 183 #[.int .i64 k,.int .i64 p] w' fun e ab=>e=.returned (.tuple #[.string f,.string t,.int .i64 0])/\Below w'.heap.size w' ab):=fun w' hb=>by
  obtain⟨tt,fr,hg⟩:=ht.below hb;refine(Vi k p w' tt fr hg).mono ?_;rintro e ab ⟨rfl,q⟩;exact⟨by rw[hs],q⟩
 have HR:Hid (∀T w',(V.Pt.IZ (V.nx T) T.size).1=0->Calls Tryz.prog 173 #[.string T] w' fun e ab=>∃c0 c1 c2,e=.returned (.agg #[c0,c1,c2])/\V.Fe ab (fun k=>w'.heap.size<=k) (V.nx T) (T.size+1) 0 c0 c1 c2/\Below w'.heap.size w' ab):=fun T w' hT=>by
  refine(V.WX T w').mono ?_;rintro e ab ⟨h1,h2⟩;rw[if_pos hT]at h1;obtain⟨c0,c1,c2,rfl,h3⟩:=h1;exact⟨c0,c1,c2,rfl,h3,h2⟩
 have HB:Hid (Below w.heap.size w ((w.alloc (.cells #[.int .u8 0,.int .i64 0,.slice none 0 0] 262)).alloc (.cells #[.int .u8 0,.int .i64 0,.slice none 0 0] 262))):=((Below.refl _ _).alloc (Nat.le_refl _) _).alloc (by simp) _;have ar:Hid (((w.alloc (.cells #[.int .u8 0,.int .i64 0,.slice none 0 0] 262)).alloc (.cells #[.int .u8 0,.int .i64 0,.slice none 0 0] 262)).heap[w.heap.size]?=some (.cells #[.int .u8 0,.int .i64 0,.slice none 0 0] 262 (0,0))):=(Below.heap_alloc _ _ _ (by simp)).trans (heap_alloc_new w _);have au:Hid (((w.alloc (.cells #[.int .u8 0,.int .i64 0,.slice none 0 0] 262)).alloc (.cells #[.int .u8 0,.int .i64 0,.slice none 0 0] 262)).heap[w.heap.size+1]?=some (.cells #[.int .u8 0,.int .i64 0,.slice none 0 0] 262 (0,0))):=by
  show _=_;have:=heap_alloc_new (w.alloc (.cells #[.int .u8 0,.int .i64 0,.slice none 0 0] 262)) (.cells #[.int .u8 0,.int .i64 0,.slice none 0 0] 262);simpa using this
 have aj:Hid (((w.alloc (.cells #[.int .u8 0,.int .i64 0,.slice none 0 0] 262)).alloc (.cells #[.int .u8 0,.int .i64 0,.slice none 0 0] 262)).heap.size=w.heap.size+2):=by show _=_;simp
 go_enter Tryz.func201,Tryz.ntmps201;go_wp2_with fail
 refine((Aa HS) _ (Aa HB)).mono ?_;rintro e w1 ⟨rfl,an⟩;have ak:=Ac ((Aa HR) f w1 hf);have ae:=Ac an;clear an;go_wp2_with fail
 refine(Aa ak).mono ?_;rintro e w2 ⟨a0,a1,a2,rfl,am,ao⟩;have al:=Ac ((Aa HR) t w2 aw);have ah:=Ac am;have af:=Ac ao;clear ao am;go_wp2_with fail
 refine(Aa al).mono ?_;rintro e w3 ⟨b0,b1,b2,rfl,ai,ag⟩;obtain⟨⟨x0,rfl⟩,⟨x1,rfl⟩,⟨ea,en,ec,rfl⟩⟩:=V.Bz (Aa ah);obtain⟨⟨y0,rfl⟩,⟨y1,rfl⟩,⟨fa,fn,fc,rfl⟩⟩:=V.Bz ai;have ap:=(Aa ae).size;have av:=(Aa af).size;rw[Aa aj]at ap;have ad:Below w1.heap.size w1 w3:=(Aa af).trans (ag.mono (Aa af).size);have aa:=(Aa ae).trans (ad.mono (Aa ae).size);rw[Aa aj]at aa;have k0:=(aa.block w.heap.size (by omega)).trans (Aa ar);have k1:=(aa.block (w.heap.size+1) (by omega)).trans (Aa au);have p0:w3.cell? ⟨w.heap.size,0,none⟩=some (.int .u8 0):=cell_of k0 0 _ rfl;have p1:w3.cell? ⟨w.heap.size,1,none⟩=some (.int .i64 0):=cell_of k0 1 _ rfl;have p2:w3.cell? ⟨w.heap.size,2,none⟩=some (.slice none 0 0):=cell_of k0 2 _ rfl;have q0:w3.cell? ⟨w.heap.size+1,0,none⟩=some (.int .u8 0):=cell_of k1 0 _ rfl;have q1:w3.cell? ⟨w.heap.size+1,1,none⟩=some (.int .i64 0):=cell_of k1 1 _ rfl;have q2:w3.cell? ⟨w.heap.size+1,2,none⟩=some (.slice none 0 0):=cell_of k1 2 _ rfl;have u0:∀j,w3.frozen? ⟨w.heap.size,j,none⟩=false:=fun j=>open_list k0
 have u1:∀j,w3.frozen? ⟨w.heap.size+1,j,none⟩=false:=fun j=>open_list k1
 have aq:=ag.size;have ac:Hid (∀W:World,Af (fun k=>k=w.heap.size\/k=w.heap.size+1) w3 W->(∃S,V.Fe W S (V.nx f) (f.size+1) 0 (.int .u8 x0) (.int .i64 x1) (.slice ea en ec))/\(∃S,V.Fe W S (V.nx t) (t.size+1) 0 (.int .u8 y0) (.int .i64 y1) (.slice fa fn fc))/\Below w.heap.size w W):=fun W hk=>by
  refine⟨⟨_,V.Bw ⟨Nat.le_trans aq hk.size,fun k hS hl=>?_⟩ (Aa ah)⟩,⟨_,V.Bw ⟨hk.size,fun k hS hl=>?_⟩ ai⟩,?_⟩
  ·have hS:w1.heap.size<=k:=hS;rw[hk.block k (by omega) (by omega)];exact ag.block k hl
  ·have hS:w2.heap.size<=k:=hS;exact hk.block k hl (by omega)
  ·exact((Aa HB).trans (aa.mono (by omega))).trans (hk.below (by omega) (fun k e=>by omega))
 have l0:w.heap.size<w3.heap.size:=by omega
 have l1:w.heap.size+1<w3.heap.size:=by omega
 clear ai ag ad aa k0 k1 ah ae af ak al HR HS HB ar au aj ap av aq;go_wp2;have hK:Af (fun k=>k=w.heap.size\/k=w.heap.size+1) w3 ((((((w3.setCell ⟨w.heap.size,0,none⟩ (.int .u8 x0)).setCell ⟨w.heap.size,1,none⟩ (.int .i64 x1)).setCell ⟨w.heap.size,2,none⟩ (.slice ea en ec)).setCell ⟨w.heap.size+1,0,none⟩ (.int .u8 y0)).setCell ⟨w.heap.size+1,1,none⟩ (.int .i64 y1)).setCell ⟨w.heap.size+1,2,none⟩ (.slice fa fn fc)):=
  ((((((Af.refl _ w3).setCell (p:=⟨w.heap.size,0,none⟩) (Or.inl (Or.inl rfl)) _).setCell (p:=⟨w.heap.size,1,none⟩) (Or.inl (Or.inl rfl)) _).setCell (p:=⟨w.heap.size,2,none⟩) (Or.inl (Or.inl rfl)) _).setCell (p:=⟨w.heap.size+1,0,none⟩) (Or.inl (Or.inr rfl)) _).setCell (p:=⟨w.heap.size+1,1,none⟩) (Or.inl (Or.inr rfl)) _).setCell (p:=⟨w.heap.size+1,2,none⟩) (Or.inl (Or.inr rfl)) _
 obtain⟨r1,r2,r3⟩:=(Aa ac) _ hK;refine⟨rfl,.tuple #[.agg #[.int .u8 x0,.int .i64 x1,.slice ea en ec],.agg #[.int .u8 y0,.int .i64 y1,.slice fa fn fc]],?_,⟨_,_,_,_,_,_,rfl,r1,r2⟩,r3⟩;clear r1 r2 r3 hK ac;simp[results,Tryz.results201,go_sem,p0,p1,p2,q0,q1,q2]
end Go.Proofs.YtblomippkddgiabGreatDoor
