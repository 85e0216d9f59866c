import Derived.Test.YtblomippkddgiaaGreatDoorJ22
import Derived.Test.YtblomippkddgiaaGreatDoorJ20
set_option maxRecDepth 100000
set_option maxHeartbeats 4000000
namespace Go.Proofs.YtblomippkddgiaaGreatDoor
open Go.RowKit
theorem WE:(Tryz.prog.info? 143).map (fun i=>(i.zero,i.size,i.bytes))=some (some (.pointer none),1,8):=by kernel_rfl
def pa(o:Option Nat):Option Addr:=o.map fun b=>⟨b,0,none⟩
abbrev pc(o:Option Nat):Value:=.pointer (pa o)
def EY(f:Nat->Option Nat)(n:Nat):List Value:=((List.range n).filterMap f).map ptr
theorem Hd(f:Nat->Option Nat)(n:Nat):EY f (n+1)=EY f n++(match f n with|none=>[]|some b=>[ptr b]):=by
 unfold EY;rw[List.range_succ,List.filterMap_append];cases h:f n<;>simp[h]
theorem U2(f:Nat->Option Nat)(n:Nat):(EY f n).length<=n:=by
 unfold EY;rw[List.length_map];have:=List.length_filterMap_le f (List.range n);simpa using this
structure ET(w:World)(f:Nat->Option Nat)(n:Nat)(O:Value)(wr:World):Prop where
 row:wr.ownsRow w.heap.size 143 1 O (EY f n).length (EY f n)
 below:Below w.heap.size w wr
theorem ET.none{w:World}{f:Nat->Option Nat}{n:Nat}{O:Value}{wr:World}(h:ET w f n O wr)(hf:f n=none):ET w f (n+1) O wr:=by
 have e:EY f (n+1)=EY f n:=by rw[Hd,hf];simp
 refine⟨?_,h.below⟩;rw[e];exact h.row
theorem ET.alloc{w:World}{f:Nat->Option Nat}{n:Nat}{O:Value}{wr:World}(h:ET w f n O wr)(o:Obj):ET w f n O (wr.alloc o):=⟨h.row.alloc _,h.below.alloc h.below.size _⟩
theorem ET.some{w:World}{f:Nat->Option Nat}{n b:Nat}{O':Value}{wz:World}(hf:f n=some b)(hown:wz.ownsRow w.heap.size 143 1 O' ((EY f n).length+1) (EY f n++[ptr b]))(hb:Below w.heap.size w wz):ET w f (n+1) O' wz:=by
 have e:EY f (n+1)=EY f n++[ptr b]:=by rw[Hd,hf]
 refine⟨?_,hb⟩;rw[e,List.length_append];exact hown
theorem one_cell(w:World)(t:TypeId)(v:Value)(j:Nat)(u:Value)(h:([v]:List Value)[j]?=Option.some u):(w.alloc (.cells #[v] t)).cell? ((⟨w.heap.size,0,none⟩:Addr).add j)=Option.some u:=by
 rw[Addr.add_lit,Nat.zero_add,World.cell?_alloc_new w _ _ j,<-List.getElem?_toArray]at *;exact h
theorem Zz(q:Nat->Option Addr)(k:Nat)(hk:k<3)(w:World):(Instr.index 162 (.agg #[.pointer (q 0),.pointer (q 1),.pointer (q 2),.pointer (q 3),.pointer (q 4),.pointer (q 5),.pointer (q 6),.pointer (q 7),.pointer (q 8)]) (.int .i64 (k:Int))).run Tryz.prog w=.ok (.agg #[.pointer (q (3*k)),.pointer (q (3*k+1)),.pointer (q (3*k+2))]) w:=by
 obtain rfl|rfl|rfl:k=0\/k=1\/k=2:=by omega
 all_goals rfl
theorem Zy(q:Nat->Option Addr)(k j:Nat)(hj:j<3)(w:World):(Instr.index 158 (.agg #[.pointer (q (3*k)),.pointer (q (3*k+1)),.pointer (q (3*k+2))]) (.int .i64 (j:Int))).run Tryz.prog w=.ok (.pointer (q (3*k+j))) w:=by
 obtain rfl|rfl|rfl:j=0\/j=1\/j=2:=by omega
 all_goals rfl
theorem Xe(w:World)(s:Nat)(f:Nat->Option Nat)(h:∀i,i<9->w.cell? ⟨s,10+i,none⟩=some (pc (f i))):
  Calls Tryz.prog 71 #[ptr s] w fun e w'=>∃O,e=.returned O/\w'.ownsRow w.heap.size 143 1 O (EY f 9).length (EY f 9)/\Below w.heap.size w w':=by
 obtain⟨u,hu⟩:∃u:Nat->Option Addr,∀i,u i=pa (f i):=⟨_,fun _=>rfl⟩;have HU:=Ab hu;have c0:=h 0 (by omega);have c1:=h 1 (by omega);have c2:=h 2 (by omega);have c3:=h 3 (by omega);have c4:=h 4 (by omega);have c5:=h 5 (by omega);have c6:=h 6 (by omega);have c7:=h 7 (by omega);have c8:=h 8 (by omega);simp only[pc,<-hu]at c0 c1 c2 c3 c4 c5 c6 c7 c8;have hl:=lt_of_cell c0;obtain⟨i0,hi,hz0,hz1,hz2⟩:=info_parts WE;have H0:Hid (ET w f 0 (.slice none 0 0) w):=⟨World.ownsRow_nil _ _ _ _,Below.refl _ _⟩;clear h hu;go_enter Tryz.func71,Tryz.ntmps71;go_wp2;clear c0 c1 c2 c3 c4 c5 c6 c7 c8;go_loopw [3,13] (fun av iv wr=>∃k:Nat,k<=3/\iv=.int .i64 k/\ET w f (3*k) av wr) (fun _ iv _=>3-(intOf iv).toNat)
 case atStart=>exact⟨0,by omega,rfl,Aa H0⟩
 case round=>
  obtain⟨k,hk,rfl,hR⟩:=hrel;by_cases hlt:k<3
  ·have hix:=Zz u k hlt;have HR:=Ab hR;clear hR;go_wp2;generalize decide ((k:Int)<3)=b14;go_loopw [3,17] (fun av jv wr'=>∃j:Nat,j<=3/\jv=.int .i64 j/\ET w f (3*k+j) av wr') (fun _ jv _=>3-(intOf jv).toNat)
   case atStart=>exact⟨0,by omega,rfl,(Aa HR).alloc _⟩
   case round=>
    obtain⟨j,hj,rfl,hR2⟩:=hrel;by_cases hjl:j<3
    ·obtain⟨oa,on,oc,hsh⟩:=Am hR2.row;subst hsh;have HR2:=Ab hR2;clear hR2;have hjx:=Zy u k j hjl;cases hf:f (3*k+j) with
     |none=>
      have e0:u (3*k+j)=none:=by rw[Aa HU,hf];rfl
      rw[e0]at hjx;have HN:=Ab ((Aa HR2).none hf);go_wp2;go_roundw
      case rel=>exact⟨j+1,by omega,by go_num,Aa HN⟩
      case measure=>simp[intOf];omega
     |some b=>
      have e0:u (3*k+j)=some ⟨b,0,none⟩:=by rw[Aa HU,hf];rfl
      rw[e0]at hjx;have hlen:=U2 f (3*k+j);go_wp2_with (at_builtin;go_must (refine wpList_append_own_at _ rfl (.tmp 22) (.tmp 24) 141 rfl w.heap.size 143 i0 (.pointer none) 1 8 Tryz.underlying141 hi hz0 hz1 hz2 rfl (by decide) _ _ _ rfl (by exact(Aa HR2).row.alloc _) ⟨wr.heap.size,0,none⟩ 1 1 [ptr b] rfl rfl (by exact one_cell wr 143 (ptr b)) (by simp[Value.oneCell']) (by unfold maxLen;omega) (by omega) (by have:=(Aa HR2).below.size;simp;omega) ?_))
      intro v' wz hown hgrow _ _;obtain⟨va,vn,vc,hvs⟩:=Am hown;subst hvs;have hbz:Below w.heap.size w wz:=((Aa HR2).below.alloc (Aa HR2).below.size _).grown hgrow (by have:=(Aa HR2).below.size;simp;omega) (fun k hk=>((World.ownsRow.lt (Aa HR2).row) k hk).1);have HN:Hid (ET w f (3*k+j+1) (.slice va vn vc) wz):=ET.some hf hown hbz;clear hown hgrow hbz HR2;go_wp2;go_roundw
      case rel=>exact⟨j+1,by omega,by go_num,Aa HN⟩
      case measure=>simp[intOf];omega
    ·obtain rfl:j=3:=by omega
     have HR3:=Ab hR2;clear hR2;go_wp2;go_roundw
     case rel=>exact⟨k+1,by omega,by go_num,by exact Aa HR3⟩
     case measure=>simp[intOf];omega
  ·obtain rfl:k=3:=by omega
   have HR3:=Ab hR;clear hR;go_wp2
   go_ret
   exact⟨_,rfl,(Aa HR3).row,(Aa HR3).below⟩
def qf(t:SP)(seen:List R.Sn)(i:Nat):Option Nat:=if ((seen[i]?).getD R.Ef).seq=0 then none else some (t.ql i)
theorem UY(t:SP)(seen:List R.Sn)(i:Nat):EJ t seen i=pc (qf t seen i):=by
 unfold EJ qf;split<;>rfl
section
variable {s n nm:Nat} {t:SP} {F:Ag} {c:R.Cf} {sv:List R.Sv} {Ao:List Int} {seen:List R.Sn} {jobs:List R.Jb} {w:World}
theorem Dh.cell(h:Dh s n nm t F c sv Ao seen jobs w)(j:Nat)(v:Value)(hv:(EQ n nm t c Ao seen)[j]?=some v):w.cell? ⟨s,j,none⟩=some v:=Bi h.bs hv
theorem Dh.rem(h:Dh s n nm t F c sv Ao seen jobs w):Calls Tryz.prog 71 #[ptr s] w fun e w'=>∃O,e=.returned O/\w'.ownsRow w.heap.size 143 1 O (EY (qf t seen) 9).length (EY (qf t seen) 9)/\Below w.heap.size w w':=by
 refine Xe w s (qf t seen) (fun i hi=>?_);rw[<-UY];obtain rfl|rfl|rfl|rfl|rfl|rfl|rfl|rfl|rfl:i=0\/i=1\/i=2\/i=3\/i=4\/i=5\/i=6\/i=7\/i=8:=by omega
 all_goals exact h.cell _ _ rfl
end
theorem LW.ZK{p:Pl}{F:Ag}{G:R.Wd}{w:World}(h:LW p F G w)(cl li ln sq u kd pa o:Int)(pl:Bool)(body:List UInt8)(hr:Bq ⟨kd,cl,li,ln,sq,u,pa,o,pl,body⟩):
  Calls Tryz.prog 192 #[ptr p.s,.agg #[.int .i64 cl,.int .i64 li,.int .i64 ln,.int .i64 sq,.int .i64 u],My kd 0 0 0 0 0 pa o pl (str body)] w fun e w'=>e=.returned (.tuple #[])/\∃F',LW p F' (R.BM G cl ⟨kd,cl,li,ln,sq,u,pa,o,pl,body⟩) w'/\Ah F F' w w':=by
 have ht:=h.Eb;have s20:w.cell? ⟨p.s,20,none⟩=some (ptr p.n):=ht.cell 20 _ rfl;have hls:=lt_of_cell s20;obtain⟨Post,hPost⟩:∃Post:World->Prop,∀w'',Post w''↔∃F',LW p F' (R.BM G cl ⟨kd,cl,li,ln,sq,u,pa,o,pl,body⟩) w''/\Ah F F' w w'':=⟨_,fun _=>Iff.rfl⟩;suffices hq:Calls Tryz.prog 192 #[ptr p.s,.agg #[.int .i64 cl,.int .i64 li,.int .i64 ln,.int .i64 sq,.int .i64 u],My kd 0 0 0 0 0 pa o pl (str body)] w fun e w'=>e=.returned (.tuple #[])/\Post w' from hq.mono (fun e w' h=>⟨h.1,(hPost w').1 h.2⟩)
 have HS:Hid (∀w',Below w.heap.size w w'->Calls Tryz.prog 230 #[ptr p.n,.int .i64 cl,My kd cl li ln sq u pa o pl (str body)] w' fun e w''=>e=.returned (.tuple #[])/\Post w''):=fun w' hb=>by
  refine((h.below hb).send cl ⟨kd,cl,li,ln,sq,u,pa,o,pl,body⟩ hr).mono ?_;rintro e w'' ⟨rfl,F',q1,q2⟩;exact⟨rfl,(hPost w'').2 ⟨F',q1,(Ah.Aq F hb).trans q2⟩⟩
 clear hPost hr h ht;generalize str body=SB at *;obtain⟨BX,hBX⟩:∃BX,(w.alloc (.cells #[.int .i64 cl,.int .i64 li,.int .i64 ln,.int .i64 sq,.int .i64 u] 145)).alloc (.cells #[.int .i64 kd,.int .i64 cl,.int .i64 li,.int .i64 ln,.int .i64 sq,.int .i64 u,.int .i64 pa,.int .i64 o,.bool pl,.string SB] 41)=BX:=⟨_,rfl⟩;have HB:Hid (Below w.heap.size w BX):=by
  rw[<-hBX];exact((Below.refl w.heap.size w).alloc (Nat.le_refl _) _).alloc (by simp) _
 have hb0:BX.heap[w.heap.size]?=some (.cells #[.int .i64 cl,.int .i64 li,.int .i64 ln,.int .i64 sq,.int .i64 u] 145 (0,0)):=by
  rw[<-hBX];exact(Below.heap_alloc _ _ _ (by simp)).trans (heap_alloc_new w _)
 have hb1:BX.heap[w.heap.size+1]?=some (.cells #[.int .i64 kd,.int .i64 cl,.int .i64 li,.int .i64 ln,.int .i64 sq,.int .i64 u,.int .i64 pa,.int .i64 o,.bool pl,.string SB] 41 (0,0)):=by
  rw[<-hBX,<-World.size_alloc w];exact heap_alloc_new _ _
 have HC:=Ab ((Aa HS) BX.drew (Aa HB).drew);have d20:BX.cell? ⟨p.s,20,none⟩=some (ptr p.n):=((Aa HB).cell (p:=⟨p.s,20,none⟩) hls).trans s20;have c0:BX.cell? ⟨w.heap.size,0,none⟩=some (.int .i64 cl):=cell_of hb0 0 _ rfl;have e0:BX.cell? ⟨w.heap.size+1,0,none⟩=some (.int .i64 kd):=cell_of hb1 0 _ rfl;have e1:BX.cell? ⟨w.heap.size+1,1,none⟩=some (.int .i64 cl):=cell_of hb1 1 _ rfl;have e2:BX.cell? ⟨w.heap.size+1,2,none⟩=some (.int .i64 li):=cell_of hb1 2 _ rfl;have e3:BX.cell? ⟨w.heap.size+1,3,none⟩=some (.int .i64 ln):=cell_of hb1 3 _ rfl;have e4:BX.cell? ⟨w.heap.size+1,4,none⟩=some (.int .i64 sq):=cell_of hb1 4 _ rfl;have e5:BX.cell? ⟨w.heap.size+1,5,none⟩=some (.int .i64 u):=cell_of hb1 5 _ rfl;have e6:BX.cell? ⟨w.heap.size+1,6,none⟩=some (.int .i64 pa):=cell_of hb1 6 _ rfl;have e7:BX.cell? ⟨w.heap.size+1,7,none⟩=some (.int .i64 o):=cell_of hb1 7 _ rfl;have e8:BX.cell? ⟨w.heap.size+1,8,none⟩=some (.bool pl):=cell_of hb1 8 _ rfl;have e9:BX.cell? ⟨w.heap.size+1,9,none⟩=some (.string SB):=cell_of hb1 9 _ rfl;have HBX:=Ab hBX;clear hb0 hb1 hBX HS;go_enter Tryz.func192,Tryz.ntmps192;go_wp2;rw[Aa HBX];clear HBX s20;go_region_law (refine CV rfl 230 #[.tmp 24,.tmp 26,.tmp 27] #[80,3,41] rfl Zq #[ptr p.n,.int .i64 cl,My kd cl li ln sq u pa o pl SB] rfl _ (Aa HC) ?_;rintro e w1 ⟨rfl,hpost⟩;have HP:=Ab hpost;clear hpost;refine⟨_,rfl,?_⟩)
 all_goals
  go_wp2;go_returns;exact⟨rfl,Aa HP⟩
structure Zb(p:Pl)(G:R.Wd)(w:World)(i:Nat)(r:R.Sn)(y:Na):Prop where
 seen:G.seen[i]?=some r
 ne:r.seq≠0
 blk:w.heap[p.t.ql i]?=some (.cells y.cells.toArray 147 (0,0))
 rel:PN i (G.Ao.getD (i / 3) 0) r y
theorem LW.q{p:Pl}{F:Ag}{G:R.Wd}{w:World}(h:LW p F G w){i:Nat}{r:R.Sn}(hr:G.seen[i]?=some r)(hne:r.seq≠0):∃y,Zb p G w i r y/\F (p.t.ql i):=by
 obtain⟨y,h1,h2,h3⟩:=h.Eb.ln i r hr hne;exact⟨y,⟨hr,hne,h1,h2⟩,h3⟩
structure YAt(w:World)(b:Nat)(y:Na):Prop where
 a0:w.cell? ⟨b,0,none⟩=some (.int .i64 y.client)
 a1:w.cell? ⟨b,1,none⟩=some (.int .i64 y.Ax)
 a2:w.cell? ⟨b,2,none⟩=some (.int .i64 y.line)
 a3:w.cell? ⟨b,3,none⟩=some (.int .i64 y.seq)
 a4:w.cell? ⟨b,4,none⟩=some (.int .i64 y.uid)
 a5:w.cell? ⟨b,5,none⟩=some (.int .i64 y.state)
 a6:w.cell? ⟨b,6,none⟩=some (.string (str y.asked))
 a7:w.cell? ⟨b,7,none⟩=some (.string (str y.answer))
 a8:w.cell? ⟨b,8,none⟩=some (.int .i64 y.at')
 a9:w.cell? ⟨b,9,none⟩=some (.int .i64 y.wait)
 a10:w.cell? ⟨b,10,none⟩=some (.int .i64 y.tries)
theorem Zf{w:World}{b:Nat}{y:Na}(h:w.heap[b]?=some (.cells y.cells.toArray 147 (0,0))):YAt w b y:=
 ⟨Bi h rfl,Bi h rfl,Bi h rfl,Bi h rfl,Bi h rfl,Bi h rfl,Bi h rfl,Bi h rfl,Bi h rfl,Bi h rfl,Bi h rfl⟩
theorem Rv{t:SP}{seen:List R.Sn}{i:Nat}{r r':R.Sn}(hr:seen[i]?=some r)(hne:r.seq≠0)(hne':r'.seq≠0)(j:Nat):EJ t (seen.set i r') j=EJ t seen j:=by
 unfold EJ;rw[List.getElem?_set];by_cases e:i=j
 ·subst e;rw[if_pos rfl,if_pos (List.getElem?_eq_some_iff.1 hr).1,hr];simp[hne,hne']
 ·simp[e]
theorem Dh.Kf{s n nm:Nat}{t:SP}{F:Ag}{c:R.Cf}{sv:List R.Sv}{Ao:List Int}{seen:List R.Sn}{jobs:List R.Jb}{w w':World}(h:Dh s n nm t F c sv Ao seen jobs w){i:Nat}{r r':R.Sn}{cur:Array Value}{y':Na}(hr:seen[i]?=some r)(hne:r.seq≠0)(hne':r'.seq≠0)(hb:w.heap[t.ql i]?=some (.cells cur 147 (0,0)))(hk:Ae (fun b=>b=t.ql i) w w')(hb':w'.heap[t.ql i]?=some (.cells y'.cells.toArray 147 (0,0)))(hrel:PN i (Ao.getD (i / 3) 0) r' y'):Dh s n nm t F c sv Ao (seen.set i r') jobs w':=by
 obtain⟨f1,f2,f3⟩:=h.A4;have hav:Kz w F (fun b=>b=t.ql i):=Kz.one hb (by decide);have hi:=(List.getElem?_eq_some_iff.1 hr).1;have hset:∀(j:Nat) (x:R.Sn),(seen.set i r')[j]?=some x->x.seq≠0->∃x0,seen[j]?=some x0/\x0.seq≠0/\(j≠i->x0=x)/\(j=i->x=r'):=fun j x hj hx=>by
  rw[List.getElem?_set]at hj;by_cases e:i=j
  ·subst e;simp only[if_true,hi]at hj;exact⟨r,hr,hne,fun q=>absurd rfl q,fun _=>(Option.some.inj hj).symm⟩
  ·rw[if_neg e]at hj;exact⟨x,hj,hx,fun _=>rfl,fun q=>absurd q.symm e⟩
 refine⟨?_,h.zs,hk.row h.made (fun j hj=>?_),fun z hz=>(h.each z hz).keep hk hav (fun _ q=>q),h.dns,h.ZU,fun j x hj hx=>?_,fun a b x x' ha hb hx hx' hab=>?_,?_,f1,f2,f3⟩
 ·have e:EQ n nm t c Ao (seen.set i r')=EQ n nm t c Ao seen:=by
   unfold EQ;simp only[Rv hr hne hne']
  rw[e];exact hk.at h.bs (AO h.bs hb (by decide))
 ·rcases h.made.2 with ⟨hn,_⟩|⟨g,cap,cur',hn,_,hg,_⟩
  ·rw[hn]at hj;cases hj
  ·rw[hn]at hj;cases hj;exact AO hg hb (by decide)
 ·obtain⟨x0,q1,q2,q3,q4⟩:=hset j x hj hx;by_cases e:j=i
  ·subst e;obtain rfl:=q4 rfl;obtain⟨_,_,_,hF⟩:=h.ln j x0 q1 q2;exact⟨y',hb',hrel,hF⟩
  ·obtain rfl:=q3 e;obtain⟨y,g1,g2,g3⟩:=h.ln j x0 q1 q2;exact⟨y,hk.at g1 (h.inj j i x0 r q1 hr q2 hne e),g2,g3⟩
 ·obtain⟨x0,q1,q2,_⟩:=hset a x ha hx;obtain⟨x1,q3,q4,_⟩:=hset b x' hb hx';exact h.inj a b x0 x1 q1 q3 q2 q4 hab
 ·obtain⟨a,b,hj⟩:=h.jobs;refine⟨a,b,hk.at hj (fun e=>?_)⟩;rw[e,hb]at hj;cases hj
theorem Pb{G:R.Wd}(h:R.Wf G)(i:Nat)(r:R.Sn):R.Wf (R.CU G i r):=⟨h.cf,h.JL,fun j c hc=>⟨(h.cl j c hc).lines,(h.cl j c hc).Ax,(h.cl j c hc).bound,(h.cl j c hc).line⟩,h.EC,h.EO,h.sv,h.Lr,h.nm,h.st,h.nd,h.IC⟩
theorem Pd{c:R.Cf}{Ao:List Int}{seen:List R.Sn}{jobs:List R.Jb}(h:R.Ni c Ao seen jobs){i:Nat}{r:R.Sn}(hr:R.VR (Ao.getD (i / 3) 0) r):R.Ni c Ao (seen.set i r) jobs:=by
 refine⟨h.ll,h.lv,by simpa using h.sl,fun j x hx=>?_,h.jl,h.jb⟩;rw[List.getElem?_set]at hx;by_cases e:i=j
 ·rw[if_pos e]at hx;split at hx
  ·cases hx;rw[<-e];exact hr
  ·cases hx
 ·rw[if_neg e]at hx;exact h.sn j x hx
theorem LW.Kf{p:Pl}{F:Ag}{G:R.Wd}{w w':World}(h:LW p F G w){i:Nat}{r r':R.Sn}{y y':Na}(hq:Zb p G w i r y)(hne':r'.seq≠0)(hk:Ae (fun b=>b=p.t.ql i) w w')(hb':w'.heap[p.t.ql i]?=some (.cells y'.cells.toArray 147 (0,0)))(hrel:PN i (G.Ao.getD (i / 3) 0) r' y')(hok:R.VR (G.Ao.getD (i / 3) 0) r'):LW p F (R.CU G i r') w'/\Zb p (R.CU G i r') w' i r' y'/\Ah F F w w':=by
 obtain⟨hx,hn,hcs,hnm⟩:=h.A4;have hb:=hq.blk;have hav:Kz w F (fun b=>b=p.t.ql i):=Kz.one hb (by decide);obtain⟨_,_,_,hFq⟩:=h.Eb.ln i r hq.seen hq.ne;have at':∀{b:Nat} {ys:Array Value} {t:TypeId} {f:Nat×Nat},w.heap[b]?=some (.cells ys t f)->t≠147->w'.heap[b]?=some (.cells ys t f):=fun hb1 h1=>hk.at hb1 (AO hb1 hb h1)
 have map':∀{α:Type} {k:TypeId} {b:Nat} {lit:α->Lit} {g:α->Option Int} {n:Nat},Mp w k b lit g n->Mp w' k b lit g n:=fun hm=>by
  obtain⟨es,q,hq⟩:=hm.block;exact hm.keep hk (fun e=>FG hb hq e.symm)
 refine⟨⟨Pb h.wf i r',Pd h.CF hok,at' h.bx (by decide),?_,?_,h.Eb.Kf hq.seen hq.ne hne' hb hk hb' hrel,map' h.names,fun j c hc=>at' (h.cl j c hc) (by decide),fun j c hc=>?_,fun j c hc=>map' (h.bound j c hc),h.A4,h.Bw,h.inj,fun k hf=>Nat.lt_of_lt_of_le (h.lt k hf) hk.size⟩,⟨?_,hne',hb',hrel⟩,⟨hk.mono (fun k _ e=>by rw[e];exact hFq),fun _ q=>Or.inl q⟩⟩
 ·obtain⟨cur,h1,h2⟩:=h.VY;exact⟨cur,at' h1 (by decide),h2⟩
 ·obtain⟨K,h1,h2,h3⟩:=h.bn;refine⟨K,at' h1 (by decide),hk.row h2 (fun j hj=>?_),h3⟩;rcases h2.2 with ⟨rfl,_⟩|⟨g,cap,cur,rfl,_,hg,_⟩
  ·cases hj
  ·cases hj;exact AO hg hb (by decide)
 ·obtain⟨xs,h1,h2,h3⟩:=h.ln j c hc;exact⟨xs,at' h1 (by decide),h2,h3.Ed hk hav (fun _ q=>q)⟩
 ·simp[R.CU,(List.getElem?_eq_some_iff.1 hq.seen).1]
theorem GU{w:World}{b j:Nat}{y y':Na}{v:Value}(h:w.heap[b]?=some (.cells y.cells.toArray 147 (0,0)))(hv:y'.cells=y.cells.set j v):(w.setCell ⟨b,j,none⟩ v).heap[b]?=some (.cells y'.cells.toArray 147 (0,0)):=by
 rw[Ap h,hv]
theorem aac:∀args w,(callFunc 187 args).run Tryz.prog w=.ok (.enter 187 args) w:=fun _ _=>rfl
theorem aad:∀args w,(callFunc 189 args).run Tryz.prog w=.ok (.enter 189 args) w:=fun _ _=>rfl
theorem aae:∀args w,(callFunc 192 args).run Tryz.prog w=.ok (.enter 192 args) w:=fun _ _=>rfl
theorem Mb(l:List Int)(k:Nat):(l[k]?).getD 0=l.getD k 0:=by simp[List.getD_eq_getElem?_getD]
theorem Lc{G:R.Wd}(hw:R.Ni G.c G.Ao G.seen G.jobs){i:Nat}{r:R.Sn}(hr:G.seen[i]?=some r)(h3:r.state=3):
  Bq ⟨5,((i / 3:Nat):Int),(G.Ao[i / 3]?).getD 0,((i % 3:Nat):Int),r.seq,r.uid,r.at',R.Ak r.result,false,R.Bs r.result r.at'⟩:=by
 have hi:i<9:=by rw[<-hw.sl];exact(List.getElem?_eq_some_iff.1 hr).1
 have hs:=hw.sn i r hr;have hne:r.seq≠0:=fun e=>by
  rw[hs.zero e]at h3;cases h3
 obtain⟨a1,a2,a3⟩:=hs.some hne;obtain⟨b1,b2,b3,b4⟩:=hs.ans h3;have hq:=hs.seq;have hlt:i / 3<G.Ao.length:=by rw[hw.ll];omega
 have hl1:=hw.lv _ (List.getElem_mem hlt);rw[List.getD_eq_getElem?_getD,List.getElem?_eq_getElem hlt]at a1;rw[List.getElem?_eq_getElem hlt];simp only[Option.getD_some]at a1 ⊢;have hp1:=R.Ff b1;have hp2:=R.FW b2;refine⟨by simp,by simp only;omega,by simp only;omega,by simp only;omega,by simp only;omega,a2,by simp only;omega,by simp only;omega,?_⟩;show Er _;unfold Er;rw[if_pos (by simp)];exact R.Jn b3
theorem LW.O0{p:Pl}{F:Ag}{G:R.Wd}{w:World}(h:LW p F G w){i:Nat}{r:R.Sn}{y:Na}(hq:Zb p G w i r y)(h3:r.state=3):
  Calls Tryz.prog 123 #[ptr p.s,ptr (p.t.ql i)] w fun e w'=>e=.returned (.tuple #[])/\∃F',LW p F' (R.BJ G i) w'/\Ah F F' w w':=by
 have hrt:=Lc h.CF hq.seen h3;have hs:=h.CF.sn i r hq.seen;obtain⟨b1,b2,b3,b4⟩:=hs.ans h3;obtain⟨a,hae⟩:∃a:Nat,r.at'=(a:Int):=⟨r.at'.toNat,by omega⟩;have hpl:8*a<r.result.length:=by have:=R.FO.2 b4;omega
 have hr:=hq.rel;obtain⟨ean,Dk⟩:=hr.ans h3;unfold R.BJ;simp only;rw[R.Ex hq.seen];rw[hae]at hrt Dk ⊢;obtain⟨Post,hPost⟩:∃Post:World->Prop,∀w'',Post w''↔∃F',LW p F' (R.BM G ((i / 3:Nat):Int) ⟨5,((i / 3:Nat):Int),(G.Ao[i / 3]?).getD 0,((i % 3:Nat):Int),r.seq,r.uid,(a:Int),R.Ak r.result,false,R.Bs r.result (a:Int)⟩) w''/\Ah F F' w w'':=⟨_,fun _=>Iff.rfl⟩;suffices hq:Calls Tryz.prog 123 #[ptr p.s,ptr (p.t.ql i)] w fun e w'=>e=.returned (.tuple #[])/\Post w' from hq.mono (fun e w' h=>⟨h.1,(hPost w').1 h.2⟩)
 have HS:Hid (∀w',Below w.heap.size w w'->Calls Tryz.prog 192 #[ptr p.s,.agg #[.int .i64 y.client,.int .i64 y.Ax,.int .i64 y.line,.int .i64 y.seq,.int .i64 y.uid],My 5 0 0 0 0 0 (a:Int) (R.Ak r.result) false (str (R.Bs r.result (a:Int)))] w' fun e w''=>e=.returned (.tuple #[])/\Post w''/\w''.cell? ⟨p.t.ql i,0,none⟩=some (.int .i64 y.client)/\w''.cell? ⟨p.t.ql i,1,none⟩=some (.int .i64 y.Ax)/\w''.cell? ⟨p.t.ql i,2,none⟩=some (.int .i64 y.line)/\w''.cell? ⟨p.t.ql i,3,none⟩=some (.int .i64 y.seq)/\w''.cell? ⟨p.t.ql i,4,none⟩=some (.int .i64 y.uid)/\w''.cell? ⟨p.t.ql i,7,none⟩=some (.string (str r.result))/\w''.cell? ⟨p.t.ql i,8,none⟩=some (.int .i64 (a:Int))):=fun w' hb=>by
  have hrt':Bq ⟨5,y.client,y.Ax,y.line,y.seq,y.uid,(a:Int),R.Ak r.result,false,R.Bs r.result (a:Int)⟩:=by
   rw[hr.client,hr.Ax,hr.line,hr.seq,hr.uid,<-Mb];exact hrt
  refine((h.below hb).ZK _ _ _ _ _ 5 (a:Int) (R.Ak r.result) false _ hrt').mono ?_;rintro e w'' ⟨rfl,F',q1,q2⟩;have hq1:=q1;rw[hr.client,hr.Ax,hr.line,hr.seq,hr.uid,<-Mb]at hq1;have hsn:(R.BM G y.client ⟨5,y.client,y.Ax,y.line,y.seq,y.uid,(a:Int),R.Ak r.result,false,R.Bs r.result (a:Int)⟩).seen[i]?=some r:=by rw[R.Js];exact hq.seen
  obtain⟨y2,g1,_⟩:=q1.q hsn hq.ne;obtain⟨k0,k1,k2,k3,k4,k5,k6,k7,k8,k9,k10⟩:=Zf g1.blk;have hr2:=g1.rel;rw[R.Ij]at hr2;obtain⟨ean2,eat2⟩:=hr2.ans h3;rw[hr2.client,<-hr.client]at k0;rw[hr2.Ax,<-hr.Ax]at k1;rw[hr2.line,<-hr.line]at k2;rw[hr2.seq,<-hr.seq]at k3;rw[hr2.uid,<-hr.uid]at k4;rw[ean2]at k7;rw[eat2,hae]at k8;exact⟨rfl,(hPost w'').2 ⟨F',hq1,(Ah.Aq F hb).trans q2⟩,k0,k1,k2,k3,k4,k7,k8⟩
 obtain⟨c0,c1,c2,c3,c4,c5,c6,c7,c8,c9,c10⟩:=Zf hq.blk;rw[ean]at c7;rw[Dk]at c8;have HP:=Ab (fun w=>Gp r.result w (by omega));have HC:=Ab (fun w=>Ke r.result a w (by omega) hpl);have HD:=Ab ((Aa HS) w.drew (Below.refl _ _).drew);clear hPost hrt HS hs h hr hq ean Dk;generalize str (R.Bs r.result (a:Int))=SB at *;generalize str r.result=SM at *;generalize R.Ak r.result=N at *;generalize p.t.ql i=b at *;obtain⟨cl,li,ln,sq,u,st,ak,an,yt,wt,tr⟩:=y;simp only at c0 c1 c2 c3 c4 HD;clear c5 c6 c9 c10 hpl b1 b2 b3 b4 hae h3;go_enter Tryz.func123,Tryz.ntmps123;go_wp2_with fail
 go_region_held3 (fun w'=>w'.cell? ⟨b,0,none⟩=some (.int .i64 cl)/\w'.cell? ⟨b,1,none⟩=some (.int .i64 li)/\w'.cell? ⟨b,2,none⟩=some (.int .i64 ln)/\w'.cell? ⟨b,3,none⟩=some (.int .i64 sq)/\w'.cell? ⟨b,4,none⟩=some (.int .i64 u)/\w'.cell? ⟨b,7,none⟩=some (.string SM)/\w'.cell? ⟨b,8,none⟩=some (.int .i64 (a:Int))) (go_keep) (first
  |(go_at_call 187;refine((Aa HP) _).mono ?_;rintro e w1 ⟨rfl,hw1⟩;rw[hw1];clear hw1)
  |(go_at_call 189;refine((Aa HC) _).mono ?_;rintro e w2 ⟨rfl,hw2⟩;rw[hw2];clear hw2)
  |(go_at_call 192;refine(Aa HD).mono ?_;rintro e w3 ⟨rfl,hw3,k0,k1,k2,k3,k4,k7,k8⟩))
 all_goals
  go_wp2;go_returns;exact⟨rfl,hw3⟩
theorem Iq(G:R.Wd)(i:Nat):(R.BJ G i).seen=G.seen:=by unfold R.BJ;rw[R.Js]
theorem Hl(G:R.Wd)(i:Nat):(R.BJ G i).Ao=G.Ao:=by unfold R.BJ;rw[R.Ij]
theorem Ll(G:R.Wd)(i:Nat):(R.BJ G i).c=G.c:=by unfold R.BJ;rw[R.Vh]
theorem LW.ZG{p:Pl}{F:Ag}{G:R.Wd}{w:World}(h:LW p F G w){i:Nat}{r:R.Sn}{y:Na}(hq:Zb p G w i r y):¬p.s=p.t.ql i:=AO h.Eb.bs hq.blk (by decide)
end Go.Proofs.YtblomippkddgiaaGreatDoor
