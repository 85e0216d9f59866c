import Derived.Test.YtblomippkddgiabGreatDoorJ18
set_option maxRecDepth 100000
set_option maxHeartbeats 4000000
namespace Go.Proofs.YtblomippkddgiabGreatDoor
open Go.RowKit
variable {F:Aq}{jobs:List R.Jb}{b i n:Nat}{p:Pl}{c:R.Cf}{r r':R.Sn}{G:R.Wd}{y y':JH}{t:SP}{O:Value}{w w' wr:World}
theorem aaT:(Tryz.prog.info? 137).map (fun i=>(i.zero,i.size,i.bytes))=some (some (.pointer none),1,8):=by kernel_rfl
def pa(o:Option Nat):Option Addr:=o.map fun b=>⟨b,0,none⟩
abbrev pc(o:Option Nat):Value:=.pointer (pa o)
def Gw(f:Nat->Option Nat)(n:Nat):List Value:=((List.range n).filterMap f).map ptr
theorem KI(f:Nat->Option Nat)(n:Nat):Gw f (n+1)=Gw f n++(match f n with|none=>[]|some b=>[ptr b]):=by
 unfold Gw;rw[agx,List.filterMap_append];cases h:f n<;>simp[h]
theorem Zy(f:Nat->Option Nat)(n:Nat):(Gw f n).length<=n:=by
 unfold Gw;rw[af0];have:=List.length_filterMap_le f (List.range n);simpa using this
structure Gf(w:World)(f:Nat->Option Nat)(n:Nat)(O:Value)(wr:World):Prop where
 row:wr.ownsRow w.heap.size 137 1 O (Gw f n).length (Gw f n)
 below:Below w.heap.size w wr
theorem Gf.none{f:Nat->Option Nat}(h:Gf w f n O wr)(hf:f n=none):Gf w f (n+1) O wr:=by
 have e:Gw f (n+1)=Gw f n:=by rw[KI,hf];simp
 refine⟨?_,h.below⟩;rw[e];exact h.row
theorem Gf.alloc{f:Nat->Option Nat}(h:Gf w f n O wr)(o:Obj):Gf w f n O (wr.alloc o):=⟨h.row.alloc _,h.below.alloc h.below.size _⟩
theorem Gf.some{f:Nat->Option Nat}{O':Value}{wz:World}(hf:f n=some b)(aa:wz.ownsRow w.heap.size 137 1 O' ((Gw f n).length+1) (Gw f n++[ptr b]))(hb:Below w.heap.size w wz):Gf w f (n+1) O' wz:=by
 have e:Gw f (n+1)=Gw f n++[ptr b]:=by rw[KI,hf]
 refine⟨?_,hb⟩;rw[e,afS];exact aa
theorem one_cell(w:World)(t:TypeId)(v:Value)(j:Nat)(u:Value)(h:([v]:List Value)[j]?=Option.some u):(w.alloc (.cells #[v] t)).cell? ((⟨w.heap.size,0,none⟩:Addr).add j)=Option.some u:=by
 rw[Addr.add_lit,agn,World.cell?_alloc_new w _ _ j,<-agj]at *;exact h
theorem adS(q:Nat->Option Addr)(k:Nat)(hk:k<3)(w:World):(Instr.index 139 (.agg #[.pointer (q 0),.pointer (q 1),.pointer (q 2),.pointer (q 3),.pointer (q 4),.pointer (q 5),.pointer (q 6),.pointer (q 7),.pointer (q 8)]) (.int .i64 (k:Int))).run Tryz.prog w=.ok (.agg #[.pointer (q (3*k)),.pointer (q (3*k+1)),.pointer (q (3*k+2))]) w:=by
 obtain rfl|rfl|rfl:k=0\/k=1\/k=2:=by omega
 all_goals rfl
theorem adR(q:Nat->Option Addr)(k j:Nat)(hj:j<3)(w:World):(Instr.index 138 (.agg #[.pointer (q (3*k)),.pointer (q (3*k+1)),.pointer (q (3*k+2))]) (.int .i64 (j:Int))).run Tryz.prog w=.ok (.pointer (q (3*k+j))) w:=by
 obtain rfl|rfl|rfl:j=0\/j=1\/j=2:=by omega
 all_goals rfl
theorem abk(w:World)(s:Nat)(f:Nat->Option Nat)(h:∀i,i<9->w.cell? ⟨s,10+i,none⟩=some (pc (f i))):
  Calls Tryz.prog 99 #[ptr s] w fun e w'=>∃O,e=.returned O/\w'.ownsRow w.heap.size 137 1 O (Gw f 9).length (Gw f 9)/\Below w.heap.size w w':=by
 obtain⟨u,hu⟩:∃u:Nat->Option Addr,∀i,u i=pa (f i):=⟨_,fun _=>rfl⟩;have HU:=Ac hu;have c0:=h 0 (by omega);have c1:=h 1 (by omega);have c2:=h 2 (by omega);have c3:=h 3 (by omega);have c4:=h 4 (by omega);have c5:=h 5 (by omega);have c6:=h 6 (by omega);have c7:=h 7 (by omega);have c8:=h 8 (by omega);simp only[pc,<-hu]at c0 c1 c2 c3 c4 c5 c6 c7 c8;have hl:=lt_of_cell c0;obtain⟨i0,hi,am,an,ao⟩:=info_parts aaT;have H0:Hid (Gf w f 0 (.slice none 0 0) w):=⟨World.ownsRow_nil _ _ _ _,Below.refl _ _⟩;clear h hu;go_enter Tryz.func99,Tryz.ntmps99;go_wp2;clear c0 c1 c2 c3 c4 c5 c6 c7 c8;go_loopw [3,13] (fun av iv wr=>∃k:Nat,k<=3/\iv=.int .i64 k/\Gf w f (3*k) av wr) (fun _ iv _=>3-(intOf iv).toNat)
 case atStart=>exact⟨0,by omega,rfl,Aa H0⟩
 case round=>
  obtain⟨k,hk,rfl,hR⟩:=hrel;by_cases aj:k<3
  ·have aq:=adS u k aj;have HR:=Ac hR;clear hR;go_wp2;generalize decide ((k:Int)<3)=b14;go_loopw [3,17] (fun av jv ap=>∃j:Nat,j<=3/\jv=.int .i64 j/\Gf w f (3*k+j) av ap) (fun _ jv _=>3-(intOf jv).toNat)
   case atStart=>exact⟨0,by omega,rfl,(Aa HR).alloc _⟩
   case round=>
    obtain⟨j,hj,rfl,ad⟩:=hrel;by_cases ah:j<3
    ·obtain⟨oa,on,oc,ak⟩:=Ar ad.row;subst ak;have aa:=Ac ad;clear ad;have ag:=adR u k j ah;cases hf:f (3*k+j) with
     |none=>
      have e0:u (3*k+j)=none:=by rw[Aa HU,hf];rfl
      rw[e0]at ag;have HN:=Ac ((Aa aa).none hf);go_wp2;go_roundw
      case rel=>exact⟨j+1,by omega,by go_num,Aa HN⟩
      case measure=>simp[intOf];omega
     |some b=>
      have e0:u (3*k+j)=some ⟨b,0,none⟩:=by rw[Aa HU,hf];rfl
      rw[e0]at ag;have ai:=Zy f (3*k+j);go_wp2_with (at_builtin;go_must (refine wpList_append_own_at _ rfl (.tmp 22) (.tmp 24) 176 rfl w.heap.size 137 i0 (.pointer none) 1 8 Tryz.underlying176 hi am an ao rfl (by decide) _ _ _ rfl (by exact(Aa aa).row.alloc _) ⟨wr.heap.size,0,none⟩ 1 1 [ptr b] rfl rfl (by exact one_cell wr 137 (ptr b)) (by simp[Value.oneCell']) (by unfold maxLen;omega) (by omega) (by have:=(Aa aa).below.size;simp;omega) ?_))
      intro v' wz ac ab _ _;obtain⟨va,vn,vc,al⟩:=Ar ac;subst al;have af:Below w.heap.size w wz:=((Aa aa).below.alloc (Aa aa).below.size _).grown ab (by have:=(Aa aa).below.size;simp;omega) (fun k hk=>((World.ownsRow.lt (Aa aa).row) k hk).1);have HN:Hid (Gf w f (3*k+j+1) (.slice va vn vc) wz):=Gf.some hf ac af;clear ac ab af aa;go_wp2;go_roundw
      case rel=>exact⟨j+1,by omega,by go_num,Aa HN⟩
      case measure=>simp[intOf];omega
    ·obtain rfl:j=3:=by omega
     have ae:=Ac ad;clear ad;go_wp2;go_roundw
     case rel=>exact⟨k+1,by omega,by go_num,by exact Aa ae⟩
     case measure=>simp[intOf];omega
  ·obtain rfl:k=3:=by omega
   have ae:=Ac hR;clear hR;go_wp2
   go_ret
   exact⟨_,rfl,(Aa ae).row,(Aa ae).below⟩
def qf(t:SP)(seen:List R.Sn)(i:Nat):Option Nat:=if ((seen[i]?).getD R.Cs).seq=0 then none else some (t.ql i)
theorem Zm(t:SP)(seen:List R.Sn)(i:Nat):Bt t seen i=pc (qf t seen i):=by
 unfold Bt qf;split<;>rfl
section
variable {s n nm:Nat} {t:SP} {F:Aq} {c:R.Cf} {sv:List R.Sv} {Aj:List Int} {seen:List R.Sn} {jobs:List R.Jb} {w:World}
theorem Cg.cell(h:Cg s n nm t F c sv Aj seen jobs w)(j:Nat)(v:Value)(hv:(Ce n nm t c Aj seen)[j]?=some v):w.cell? ⟨s,j,none⟩=some v:=AP h.bs hv
theorem Cg.rem(h:Cg s n nm t F c sv Aj seen jobs w):Calls Tryz.prog 99 #[ptr s] w fun e w'=>∃O,e=.returned O/\w'.ownsRow w.heap.size 137 1 O (Gw (qf t seen) 9).length (Gw (qf t seen) 9)/\Below w.heap.size w w':=by
 refine abk w s (qf t seen) (fun i hi=>?_);rw[<-Zm];obtain rfl|rfl|rfl|rfl|rfl|rfl|rfl|rfl|rfl:i=0\/i=1\/i=2\/i=3\/i=4\/i=5\/i=6\/i=7\/i=8:=by omega
 all_goals exact h.cell _ _ rfl
end
theorem LW.abQ(h:LW p F G w)(cl li ln sq u kd pa o:Int)(pl:Bool)(body:List UInt8)(hr:AR ⟨kd,cl,li,ln,sq,u,pa,o,pl,body⟩):
  Calls Tryz.prog 220 #[ptr p.s,.agg #[.int .i64 cl,.int .i64 li,.int .i64 ln,.int .i64 sq,.int .i64 u],NL kd 0 0 0 0 0 pa o pl (str body)] w fun e w'=>e=.returned (.tuple #[])/\∃F',LW p F' (R.Bg G cl ⟨kd,cl,li,ln,sq,u,pa,o,pl,body⟩) w'/\Ap F F' w w':=by
 have ht:=h.BN;have ag:w.cell? ⟨p.s,20,none⟩=some (ptr p.n):=ht.cell 20 _ rfl;have aj:=lt_of_cell ag;obtain⟨ac,aa⟩:∃ac:World->Prop,∀ae,ac ae↔∃F',LW p F' (R.Bg G cl ⟨kd,cl,li,ln,sq,u,pa,o,pl,body⟩) ae/\Ap F F' w ae:=⟨_,fun _=>Iff.rfl⟩;suffices hq:Calls Tryz.prog 220 #[ptr p.s,.agg #[.int .i64 cl,.int .i64 li,.int .i64 ln,.int .i64 sq,.int .i64 u],NL kd 0 0 0 0 0 pa o pl (str body)] w fun e w'=>e=.returned (.tuple #[])/\ac w' from hq.mono (fun e w' h=>⟨h.1,(aa w').1 h.2⟩)
 have HS:Hid (∀w',Below w.heap.size w w'->Calls Tryz.prog 245 #[ptr p.n,.int .i64 cl,NL kd cl li ln sq u pa o pl (str body)] w' fun e ae=>e=.returned (.tuple #[])/\ac ae):=fun w' hb=>by
  refine((h.below hb).send cl ⟨kd,cl,li,ln,sq,u,pa,o,pl,body⟩ hr).mono ?_;rintro e ae ⟨rfl,F',q1,q2⟩;exact⟨rfl,(aa ae).2 ⟨F',q1,(Ap.Al F hb).trans q2⟩⟩
 clear aa hr h ht;generalize str body=SB at *;obtain⟨BX,af⟩:∃BX,(w.alloc (.cells #[.int .i64 cl,.int .i64 li,.int .i64 ln,.int .i64 sq,.int .i64 u] 170)).alloc (.cells #[.int .i64 kd,.int .i64 cl,.int .i64 li,.int .i64 ln,.int .i64 sq,.int .i64 u,.int .i64 pa,.int .i64 o,.bool pl,.string SB] 82)=BX:=⟨_,rfl⟩;have HB:Hid (Below w.heap.size w BX):=by
  rw[<-af];exact((Below.refl w.heap.size w).alloc (afI _) _).alloc (by simp) _
 have ai:BX.heap[w.heap.size]?=some (.cells #[.int .i64 cl,.int .i64 li,.int .i64 ln,.int .i64 sq,.int .i64 u] 170 (0,0)):=by
  rw[<-af];exact(Below.heap_alloc _ _ _ (by simp)).trans (heap_alloc_new w _)
 have ab:BX.heap[w.heap.size+1]?=some (.cells #[.int .i64 kd,.int .i64 cl,.int .i64 li,.int .i64 ln,.int .i64 sq,.int .i64 u,.int .i64 pa,.int .i64 o,.bool pl,.string SB] 82 (0,0)):=by
  rw[<-af,<-World.size_alloc w];exact heap_alloc_new _ _
 have HC:=Ac ((Aa HS) BX.drew (Aa HB).drew);have ak:BX.cell? ⟨p.s,20,none⟩=some (ptr p.n):=((Aa HB).cell (p:=⟨p.s,20,none⟩) aj).trans ag;have c0:BX.cell? ⟨w.heap.size,0,none⟩=some (.int .i64 cl):=cell_of ai 0 _ rfl;have e0:BX.cell? ⟨w.heap.size+1,0,none⟩=some (.int .i64 kd):=cell_of ab 0 _ rfl;have e1:BX.cell? ⟨w.heap.size+1,1,none⟩=some (.int .i64 cl):=cell_of ab 1 _ rfl;have e2:BX.cell? ⟨w.heap.size+1,2,none⟩=some (.int .i64 li):=cell_of ab 2 _ rfl;have e3:BX.cell? ⟨w.heap.size+1,3,none⟩=some (.int .i64 ln):=cell_of ab 3 _ rfl;have e4:BX.cell? ⟨w.heap.size+1,4,none⟩=some (.int .i64 sq):=cell_of ab 4 _ rfl;have e5:BX.cell? ⟨w.heap.size+1,5,none⟩=some (.int .i64 u):=cell_of ab 5 _ rfl;have e6:BX.cell? ⟨w.heap.size+1,6,none⟩=some (.int .i64 pa):=cell_of ab 6 _ rfl;have e7:BX.cell? ⟨w.heap.size+1,7,none⟩=some (.int .i64 o):=cell_of ab 7 _ rfl;have e8:BX.cell? ⟨w.heap.size+1,8,none⟩=some (.bool pl):=cell_of ab 8 _ rfl;have e9:BX.cell? ⟨w.heap.size+1,9,none⟩=some (.string SB):=cell_of ab 9 _ rfl;have ah:=Ac af;clear ai ab af HS;go_enter Tryz.func220,Tryz.ntmps220;go_wp2;rw[Aa ah];clear ah ag;go_region_law (refine Av rfl 245 #[.tmp 24,.tmp 26,.tmp 27] #[67,3,82] rfl adv #[ptr p.n,.int .i64 cl,NL kd cl li ln sq u pa o pl SB] rfl _ (Aa HC) ?_;rintro e w1 ⟨rfl,ad⟩;have HP:=Ac ad;clear ad;refine⟨_,rfl,?_⟩)
 all_goals
  go_wp2;go_returns;exact⟨rfl,Aa HP⟩
structure Qe(p:Pl)(G:R.Wd)(w:World)(i:Nat)(r:R.Sn)(y:JH):Prop where
 seen:G.seen[i]?=some r
 ne:r.seq≠0
 blk:w.heap[p.t.ql i]?=some (.cells y.cells.toArray 179 (0,0))
 rel:KZ i (G.Aj.getD (i / 3) 0) r y
theorem LW.q(h:LW p F G w)(hr:G.seen[i]?=some r)(aa:r.seq≠0):∃y,Qe p G w i r y/\F (p.t.ql i):=by
 obtain⟨y,h1,h2,h3⟩:=h.BN.ln i r hr aa;exact⟨y,⟨hr,aa,h1,h2⟩,h3⟩
structure YAt(w:World)(b:Nat)(y:JH):Prop where
 a0:w.cell? ⟨b,0,none⟩=some (.int .i64 y.client)
 a1:w.cell? ⟨b,1,none⟩=some (.int .i64 y.Ae)
 a2:w.cell? ⟨b,2,none⟩=some (.int .i64 y.line)
 a3:w.cell? ⟨b,3,none⟩=some (.int .i64 y.seq)
 a4:w.cell? ⟨b,4,none⟩=some (.int .i64 y.uid)
 a5:w.cell? ⟨b,5,none⟩=some (.int .i64 y.state)
 a6:w.cell? ⟨b,6,none⟩=some (.string (str y.asked))
 a7:w.cell? ⟨b,7,none⟩=some (.string (str y.answer))
 a8:w.cell? ⟨b,8,none⟩=some (.int .i64 y.at')
 a9:w.cell? ⟨b,9,none⟩=some (.int .i64 y.wait)
 JB:w.cell? ⟨b,10,none⟩=some (.int .i64 y.tries)
theorem Qb(h:w.heap[b]?=some (.cells y.cells.toArray 179 (0,0))):YAt w b y:=
 ⟨AP h rfl,AP h rfl,AP h rfl,AP h rfl,AP h rfl,AP h rfl,AP h rfl,AP h rfl,AP h rfl,AP h rfl,AP h rfl⟩
theorem Ws{seen:List R.Sn}(hr:seen[i]?=some r)(ab:r.seq≠0)(aa:r'.seq≠0)(j:Nat):Bt t (seen.set i r') j=Bt t seen j:=by
 unfold Bt;rw[afV];by_cases e:i=j
 ·subst e;rw[if_pos rfl,if_pos (afG.1 hr).1,hr];simp[ab,aa]
 ·simp[e]
theorem Cg.Ix{s nm:Nat}{sv:List R.Sv}{Aj:List Int}{seen:List R.Sn}(h:Cg s n nm t F c sv Aj seen jobs w){ae:Array Value}(hr:seen[i]?=some r)(ab:r.seq≠0)(ac:r'.seq≠0)(hb:w.heap[t.ql i]?=some (.cells ae 179 (0,0)))(hk:Af (fun b=>b=t.ql i) w w')(ai:w'.heap[t.ql i]?=some (.cells y'.cells.toArray 179 (0,0)))(ad:KZ i (Aj.getD (i / 3) 0) r' y'):Cg s n nm t F c sv Aj (seen.set i r') jobs w':=by
 obtain⟨f1,f2,f3⟩:=h.BP;have ah:JD w F (fun b=>b=t.ql i):=JD.one hb (by decide);have hi:=(afG.1 hr).1;have aa:∀(j:Nat) (x:R.Sn),(seen.set i r')[j]?=some x->x.seq≠0->∃x0,seen[j]?=some x0/\x0.seq≠0/\(j≠i->x0=x)/\(j=i->x=r'):=fun j x hj hx=>by
  rw[afV]at hj;by_cases e:i=j
  ·subst e;simp only[if_true,hi]at hj;exact⟨r,hr,ab,fun q=>absurd rfl q,fun _=>(Option.some.inj hj).symm⟩
  ·rw[if_neg e]at hj;exact⟨x,hj,hx,fun _=>rfl,fun q=>absurd q.symm e⟩
 refine⟨?_,h.zs,hk.row h.made (fun j hj=>?_),fun z hz=>(h.each z hz).keep hk ah (fun _ q=>q),h.dns,h.Z8,fun j x hj hx=>?_,fun a b x x' ha hb hx aj ag=>?_,?_,f1,f2,f3⟩
 ·have e:Ce n nm t c Aj (seen.set i r')=Ce n nm t c Aj seen:=by
   unfold Ce;simp only[Ws hr ab ac]
  rw[e];exact hk.at h.bs (AZ h.bs hb (by decide))
 ·rcases h.made.2 with ⟨hn,_⟩|⟨g,cap,af,hn,_,hg,_⟩
  ·rw[hn]at hj;cases hj
  ·rw[hn]at hj;cases hj;exact AZ hg hb (by decide)
 ·obtain⟨x0,q1,q2,q3,q4⟩:=aa j x hj hx;by_cases e:j=i
  ·subst e;obtain rfl:=q4 rfl;obtain⟨_,_,_,hF⟩:=h.ln j x0 q1 q2;exact⟨y',ai,ad,hF⟩
  ·obtain rfl:=q3 e;obtain⟨y,g1,g2,g3⟩:=h.ln j x0 q1 q2;exact⟨y,hk.at g1 (h.inj j i x0 r q1 hr q2 ab e),g2,g3⟩
 ·obtain⟨x0,q1,q2,_⟩:=aa a x ha hx;obtain⟨x1,q3,q4,_⟩:=aa b x' hb aj;exact h.inj a b x0 x1 q1 q3 q2 q4 ag
 ·obtain⟨a,b,hj⟩:=h.jobs;refine⟨a,b,hk.at hj (fun e=>?_)⟩;rw[e,hb]at hj;cases hj
theorem Ns(h:R.Wf G)(i:Nat)(r:R.Sn):R.Wf (R.AB G i r):=⟨h.cf,h.Gt,fun j c hc=>⟨(h.cl j c hc).lines,(h.cl j c hc).Ae,(h.cl j c hc).bound,(h.cl j c hc).line⟩,h.E3,h.Eo,h.sv,h.Kh,h.nm,h.st,h.nd,h.I5⟩
theorem Nt{Aj:List Int}{seen:List R.Sn}(h:R.Md c Aj seen jobs)(hr:R.Qg (Aj.getD (i / 3) 0) r):R.Md c Aj (seen.set i r) jobs:=by
 refine⟨h.ll,h.lv,by simpa using h.sl,fun j x hx=>?_,h.jl,h.jb⟩;rw[afV]at hx;by_cases e:i=j
 ·rw[if_pos e]at hx;split at hx
  ·cases hx;rw[<-e];exact hr
  ·cases hx
 ·rw[if_neg e]at hx;exact h.sn j x hx
theorem LW.Ix(h:LW p F G w)(hq:Qe p G w i r y)(aa:r'.seq≠0)(hk:Af (fun b=>b=p.t.ql i) w w')(ae:w'.heap[p.t.ql i]?=some (.cells y'.cells.toArray 179 (0,0)))(ab:KZ i (G.Aj.getD (i / 3) 0) r' y')(ai:R.Qg (G.Aj.getD (i / 3) 0) r'):LW p F (R.AB G i r') w'/\Qe p (R.AB G i r') w' i r' y'/\Ap F F w w':=by
 obtain⟨hx,hn,aj,ak⟩:=h.BP;have hb:=hq.blk;have ah:JD w F (fun b=>b=p.t.ql i):=JD.one hb (by decide);obtain⟨_,_,_,ag⟩:=h.BN.ln i r hq.seen hq.ne;have at':∀{b:Nat} {ys:Array Value} {t:TypeId} {f:Nat×Nat},w.heap[b]?=some (.cells ys t f)->t≠179->w'.heap[b]?=some (.cells ys t f):=fun af h1=>hk.at af (AZ af hb h1)
 have ac:∀{α:Type} {k:TypeId} {b:Nat} {lit:α->Lit} {g:α->Option Int} {n:Nat},Mp w k b lit g n->Mp w' k b lit g n:=fun hm=>by
  obtain⟨es,q,hq⟩:=hm.block;exact hm.keep hk (fun e=>Fv hb hq e.symm)
 refine⟨⟨Ns h.wf i r',Nt h.Db ai,at' h.bx (by decide),?_,?_,h.BN.Ix hq.seen hq.ne aa hb hk ae ab,ac h.names,fun j c hc=>at' (h.cl j c hc) (by decide),fun j c hc=>?_,fun j c hc=>ac (h.bound j c hc),h.BP,h.FG,h.inj,fun k hf=>afT (h.lt k hf) hk.size⟩,⟨?_,aa,ae,ab⟩,⟨hk.mono (fun k _ e=>by rw[e];exact ag),fun _ q=>afJ q⟩⟩
 ·obtain⟨ad,h1,h2⟩:=h.XH;exact⟨ad,at' h1 (by decide),h2⟩
 ·obtain⟨K,h1,h2,h3⟩:=h.bn;refine⟨K,at' h1 (by decide),hk.row h2 (fun j hj=>?_),h3⟩;rcases h2.2 with ⟨rfl,_⟩|⟨g,cap,ad,rfl,_,hg,_⟩
  ·cases hj
  ·cases hj;exact AZ hg hb (by decide)
 ·obtain⟨xs,h1,h2,h3⟩:=h.ln j c hc;exact⟨xs,at' h1 (by decide),h2,h3.Eg hk ah (fun _ q=>q)⟩
 ·simp[R.AB,(List.getElem?_eq_some_iff.1 hq.seen).1]
theorem Qe.below(h:Qe p G w i r y)(hb:Below w.heap.size w w'):Qe p G w' i r y:=⟨h.seen,h.ne,by rw[hb.block _ (afR.1 h.blk).1];exact h.blk,h.rel⟩
theorem Eb{j:Nat}{v:Value}(h:w.heap[b]?=some (.cells y.cells.toArray 179 (0,0)))(hv:y'.cells=y.cells.set j v):(w.setCell ⟨b,j,none⟩ v).heap[b]?=some (.cells y'.cells.toArray 179 (0,0)):=by
 rw[Ai h,hv]
theorem aeG:∀args w,(callFunc 203 args).run Tryz.prog w=.ok (.enter 203 args) w:=fun _ _=>rfl
theorem aeH:∀args w,(callFunc 205 args).run Tryz.prog w=.ok (.enter 205 args) w:=fun _ _=>rfl
theorem aeI:∀args w,(callFunc 220 args).run Tryz.prog w=.ok (.enter 220 args) w:=fun _ _=>rfl
theorem QL(l:List Int)(k:Nat):(l[k]?).getD 0=l.getD k 0:=by simp[List.getD_eq_getElem?_getD]
theorem G6(hw:R.Md G.c G.Aj G.seen G.jobs)(hr:G.seen[i]?=some r)(h3:r.state=3):
  AR ⟨5,((i / 3:Nat):Int),(G.Aj[i / 3]?).getD 0,((i % 3:Nat):Int),r.seq,r.uid,r.at',R.Ag r.result,false,R.Be r.result r.at'⟩:=by
 have hi:i<9:=by rw[<-hw.sl];exact(afG.1 hr).1
 have hs:=hw.sn i r hr;have ab:r.seq≠0:=fun e=>by
  rw[hs.zero e]at h3;cases h3
 obtain⟨a1,a2,a3⟩:=hs.some ab;obtain⟨b1,b2,b3,b4⟩:=hs.ans h3;have hq:=hs.seq;have aa:i / 3<G.Aj.length:=by rw[hw.ll];omega
 have ac:=hw.lv _ (agr aa);rw[afX,afH aa]at a1;rw[afH aa];simp only[af2]at a1 ⊢;have ad:=R.De b1;have ae:=R.El b2;refine⟨by simp,by simp only;omega,by simp only;omega,by simp only;omega,by simp only;omega,a2,by simp only;omega,by simp only;omega,?_⟩;show Dm _;unfold Dm;rw[if_pos (by simp)];exact R.GZ b3
theorem LW.Nr(h:LW p F G w)(hq:Qe p G w i r y)(h3:r.state=3):
  Calls Tryz.prog 169 #[ptr p.s,ptr (p.t.ql i)] w fun e w'=>e=.returned (.tuple #[])/\∃F',LW p F' (R.AL G i) w'/\Ap F F' w w':=by
 have ah:=G6 h.Db hq.seen h3;have hs:=h.Db.sn i r hq.seen;obtain⟨b1,b2,b3,b4⟩:=hs.ans h3;obtain⟨a,ag⟩:∃a:Nat,r.at'=(a:Int):=⟨r.at'.toNat,by omega⟩;have al:8*a<r.result.length:=by have:=R.Gg.2 b4;omega
 have hr:=hq.rel;obtain⟨aj,CF⟩:=hr.ans h3;unfold R.AL;simp only;rw[R.Bn hq.seen];rw[ag]at ah CF ⊢;obtain⟨ac,ab⟩:∃ac:World->Prop,∀aa,ac aa↔∃F',LW p F' (R.Bg G ((i / 3:Nat):Int) ⟨5,((i / 3:Nat):Int),(G.Aj[i / 3]?).getD 0,((i % 3:Nat):Int),r.seq,r.uid,(a:Int),R.Ag r.result,false,R.Be r.result (a:Int)⟩) aa/\Ap F F' w aa:=⟨_,fun _=>Iff.rfl⟩;suffices hq:Calls Tryz.prog 169 #[ptr p.s,ptr (p.t.ql i)] w fun e w'=>e=.returned (.tuple #[])/\ac w' from hq.mono (fun e w' h=>⟨h.1,(ab w').1 h.2⟩)
 have HS:Hid (∀w',Below w.heap.size w w'->Calls Tryz.prog 220 #[ptr p.s,.agg #[.int .i64 y.client,.int .i64 y.Ae,.int .i64 y.line,.int .i64 y.seq,.int .i64 y.uid],NL 5 0 0 0 0 0 (a:Int) (R.Ag r.result) false (str (R.Be r.result (a:Int)))] w' fun e aa=>e=.returned (.tuple #[])/\ac aa/\aa.cell? ⟨p.t.ql i,0,none⟩=some (.int .i64 y.client)/\aa.cell? ⟨p.t.ql i,1,none⟩=some (.int .i64 y.Ae)/\aa.cell? ⟨p.t.ql i,2,none⟩=some (.int .i64 y.line)/\aa.cell? ⟨p.t.ql i,3,none⟩=some (.int .i64 y.seq)/\aa.cell? ⟨p.t.ql i,4,none⟩=some (.int .i64 y.uid)/\aa.cell? ⟨p.t.ql i,7,none⟩=some (.string (str r.result))/\aa.cell? ⟨p.t.ql i,8,none⟩=some (.int .i64 (a:Int))):=fun w' hb=>by
  have ai:AR ⟨5,y.client,y.Ae,y.line,y.seq,y.uid,(a:Int),R.Ag r.result,false,R.Be r.result (a:Int)⟩:=by
   rw[hr.client,hr.Ae,hr.line,hr.seq,hr.uid,<-QL];exact ah
  refine((h.below hb).abQ _ _ _ _ _ 5 (a:Int) (R.Ag r.result) false _ ai).mono ?_;rintro e aa ⟨rfl,F',q1,q2⟩;have am:=q1;rw[hr.client,hr.Ae,hr.line,hr.seq,hr.uid,<-QL]at am;have ar:(R.Bg G y.client ⟨5,y.client,y.Ae,y.line,y.seq,y.uid,(a:Int),R.Ag r.result,false,R.Be r.result (a:Int)⟩).seen[i]?=some r:=by rw[R.G9];exact hq.seen
  obtain⟨y2,g1,_⟩:=q1.q ar hq.ne;obtain⟨k0,k1,k2,k3,k4,k5,k6,k7,k8,k9,av⟩:=Qb g1.blk;have ad:=g1.rel;rw[R.Iz]at ad;obtain⟨ae,af⟩:=ad.ans h3;rw[ad.client,<-hr.client]at k0;rw[ad.Ae,<-hr.Ae]at k1;rw[ad.line,<-hr.line]at k2;rw[ad.seq,<-hr.seq]at k3;rw[ad.uid,<-hr.uid]at k4;rw[ae]at k7;rw[af,ag]at k8;exact⟨rfl,(ab aa).2 ⟨F',am,(Ap.Al F hb).trans q2⟩,k0,k1,k2,k3,k4,k7,k8⟩
 obtain⟨c0,c1,c2,c3,c4,c5,c6,c7,c8,c9,aq⟩:=Qb hq.blk;rw[aj]at c7;rw[CF]at c8;have HP:=Ac (fun w=>CS r.result w (by omega));have HC:=Ac (fun w=>Ox r.result a w (by omega) al);have HD:=Ac ((Aa HS) w.drew (Below.refl _ _).drew);clear ab ah HS hs h hr hq aj CF;generalize str (R.Be r.result (a:Int))=SB at *;generalize str r.result=SM at *;generalize R.Ag r.result=N at *;generalize p.t.ql i=b at *;obtain⟨cl,li,ln,sq,u,st,ak,an,yt,wt,tr⟩:=y;simp only at c0 c1 c2 c3 c4 HD;clear c5 c6 c9 aq al b1 b2 b3 b4 ag h3;go_enter Tryz.func169,Tryz.ntmps169;go_wp2_with fail
 go_region_held3 (fun w'=>w'.cell? ⟨b,0,none⟩=some (.int .i64 cl)/\w'.cell? ⟨b,1,none⟩=some (.int .i64 li)/\w'.cell? ⟨b,2,none⟩=some (.int .i64 ln)/\w'.cell? ⟨b,3,none⟩=some (.int .i64 sq)/\w'.cell? ⟨b,4,none⟩=some (.int .i64 u)/\w'.cell? ⟨b,7,none⟩=some (.string SM)/\w'.cell? ⟨b,8,none⟩=some (.int .i64 (a:Int))) (go_keep) (first
  |(go_at_call 203;refine((Aa HP) _).mono ?_;rintro e w1 ⟨rfl,ao⟩;rw[ao];clear ao)
  |(go_at_call 205;refine((Aa HC) _).mono ?_;rintro e w2 ⟨rfl,ap⟩;rw[ap];clear ap)
  |(go_at_call 220;refine(Aa HD).mono ?_;rintro e w3 ⟨rfl,au,k0,k1,k2,k3,k4,k7,k8⟩))
 all_goals
  go_wp2;go_returns;exact⟨rfl,au⟩
theorem Yq(w:World)(b:Nat)(s:List UInt8)(a:Int)(hs:s.length<=1000)(h7:w.cell? ⟨b,7,none⟩=some (.string (str s)))(h8:w.cell? ⟨b,8,none⟩=some (.int .i64 a)):
  Calls Tryz.prog 214 #[ptr b] w fun e w'=>e=.returned (.bool (decide (a=R.Ag s-1)))/\Below w.heap.size w w':=by
 have HP:=Ac (fun w=>CS s w (by omega));have hn:0<=R.Ag s/\R.Ag s<=1000:=by unfold R.Ag;omega
 generalize str s=SM at *;generalize R.Ag s=N at *;have ab:IntKind.i64.wrap (N-1)=N-1:=by rw[IntKind.wrap_i64];omega
 go_enter Tryz.func214,Tryz.ntmps214;go_wp2_with fail
 go_region_held3 (fun w'=>w'.cell? ⟨b,7,none⟩=some (.string SM)/\w'.cell? ⟨b,8,none⟩=some (.int .i64 a)) (go_keep) (first
  |(go_at_call 203;refine((Aa HP) _).mono ?_;rintro e w1 ⟨rfl,aa⟩;rw[aa];clear aa))
 all_goals
  go_wp2
  go_ret
  exact⟨by
   have:(a==N-1)=decide (a=N-1):=by rw[Bool.eq_iff_iff];simp
   rw[this];rfl,(Below.refl _ _).drew⟩
theorem Qj(w:World)(s b:Nat)(rt tr:Int)(aa:Bool)(P1 P2 ab:World->Prop)
  (H1:Hid (Calls Tryz.prog 169 #[ptr s,ptr b] w fun e w'=>e=.returned (.tuple #[])/\P1 w'))
  (H2:Hid (∀w',P1 w'->Calls Tryz.prog 214 #[ptr b] w' fun e af=>e=.returned (.bool aa)/\P2 af))
  (H3:Hid (∀w',P2 w'->w'.cell? ⟨s,2,none⟩=some (.int .i64 rt)/\w'.cell? ⟨s,3,none⟩=some (.int .i64 tr)/\(∃x,w'.cell? ⟨b,9,none⟩=some (.int .i64 x))/\(∃x,w'.cell? ⟨b,10,none⟩=some (.int .i64 x))/\w'.frozen? ⟨b,9,none⟩=false/\w'.frozen? ⟨b,10,none⟩=false/\¬s=b))
  (HL:Hid (aa=true->∀w',P2 w'->ab (w'.setCell ⟨b,9,none⟩ (.int .i64 0))))
  (HM:Hid (aa=false->∀w',P2 w'->ab ((w'.drew.setCell ⟨b,9,none⟩ (.int .i64 rt)).setCell ⟨b,10,none⟩ (.int .i64 tr)))):
  Calls Tryz.prog 166 #[ptr s,ptr b] w fun e w'=>e=.returned (.tuple #[])/\ab w':=by
 go_enter Tryz.func166,Tryz.ntmps166;go_wp2_with (first|(go_at_call 169;refine(Aa H1).mono ?_;rintro e w1 ⟨rfl,ae⟩;have HC:=Ac ((Aa H2) w1 ae)))
 refine(Aa HC).mono ?_;rintro e w2 ⟨rfl,ac⟩;obtain⟨s2,s3,⟨x9,b9⟩,⟨ak,ag⟩,z9,al,ad⟩:=(Aa H3) w2 ac;have ai:=lt_of_cell b9;have aj:=lt_of_cell s2;have ah:¬b=s:=fun e=>ad e.symm
 have HX:=Ac ac;clear HC ac;cases aa with
 |true=>
  have HP:=Ac ((Aa HL) rfl w2 (Aa HX));go_wp2;go_returns;exact⟨rfl,Aa HP⟩
 |false=>
  have HP:=Ac ((Aa HM) rfl w2 (Aa HX));go_wp2
  go_region
  all_goals
   go_wp2;go_returns;exact⟨rfl,Aa HP⟩
theorem Hq(G:R.Wd)(i:Nat):(R.AL G i).seen=G.seen:=by unfold R.AL;rw[R.G9]
theorem C4(G:R.Wd)(i:Nat):(R.AL G i).Aj=G.Aj:=by unfold R.AL;rw[R.Iz]
theorem Kd(G:R.Wd)(i:Nat):(R.AL G i).c=G.c:=by unfold R.AL;rw[R.Kc]
theorem LW.abO(h:LW p F G w)(hq:Qe p G w i r y):¬p.s=p.t.ql i:=AZ h.BN.bs hq.blk (by decide)
theorem LW.tell(h:LW p F G w)(hq:Qe p G w i r y)(h3:r.state=3):
  Calls Tryz.prog 166 #[ptr p.s,ptr (p.t.ql i)] w fun e w'=>e=.returned (.tuple #[])/\∃F',LW p F' (R.Em G i) w'/\Ap F F' w w':=by
 have hs:=h.Db.sn i r hq.seen;obtain⟨b1,b2,b3,b4⟩:=hs.ans h3;have ah:=h.wf.cf;unfold R.BD at ah;have ac:(R.AL G i).seen[i]?=some r:=by rw[Hq];exact hq.seen
 have ab:R.Em G i=R.AB (R.AL G i) i {r with timed:=decide (8*r.at'+8<(r.result.length:Int)),wait:=G.c.Ay,tries:=G.c.tries}:=by
  unfold R.Em;simp only;rw[R.Bn ac]
 rw[ab];have turn:∀(F':Aq) (w1 w':World) (y1 y':JH),LW p F' (R.AL G i) w1->Ap F F' w w1->Qe p (R.AL G i) w1 i r y1->Af (fun b=>b=p.t.ql i) w1 w'->w'.heap[p.t.ql i]?=some (.cells y'.cells.toArray 179 (0,0))->KZ i (G.Aj.getD (i / 3) 0) {r with timed:=decide (8*r.at'+8<(r.result.length:Int)),wait:=G.c.Ay,tries:=G.c.tries} y'->∃F',LW p F' (R.AB (R.AL G i) i {r with timed:=decide (8*r.at'+8<(r.result.length:Int)),wait:=G.c.Ay,tries:=G.c.tries}) w'/\Ap F F' w w':=fun F' w1 w' y1 y' k1 k2 k3 k4 k5 k6=>by
  obtain⟨q1,_,q2⟩:=k1.Ix (r':={r with timed:=decide (8*r.at'+8<(r.result.length:Int)),wait:=G.c.Ay,tries:=G.c.tries}) (y':=y') k3 hq.ne k4 k5 (by rw[C4];exact k6) (by
   rw[C4];exact⟨fun e=>absurd e hq.ne,hs.seq,hs.some,hs.Ga,hs.wait,hs.ans,fun _=>⟨h3,by simp only;omega,by simp only;omega⟩⟩)
  exact⟨F',q1,k2.trans q2⟩
 refine Qj w p.s (p.t.ql i) G.c.Ay G.c.tries (decide (r.at'=R.Ag r.result-1)) (fun w'=>∃F',LW p F' (R.AL G i) w'/\Ap F F' w w') (fun w'=>∃F',LW p F' (R.AL G i) w'/\Ap F F' w w') _ (h.Nr hq h3) ?_ ?_ ?_ ?_
 ·rintro w1 ⟨F1,k1,k2⟩;obtain⟨y1,g1,_⟩:=k1.q ac hq.ne;obtain⟨_,_,_,_,_,_,_,c7,c8,_,_⟩:=Qb g1.blk;obtain⟨ag,CF⟩:=g1.rel.ans h3;rw[ag]at c7;rw[CF]at c8;refine(Yq w1 _ r.result r.at' (by omega) c7 c8).mono ?_;rintro e w2 ⟨rfl,hb⟩;exact⟨rfl,F1,k1.below hb,k2.trans (Ap.Al F1 hb)⟩
 ·rintro w1 ⟨F1,k1,k2⟩;obtain⟨y1,g1,_⟩:=k1.q ac hq.ne;obtain⟨_,_,_,_,_,_,_,_,_,c9,af⟩:=Qb g1.blk;have s2:=k1.BN.cell 2 _ rfl;have s3:=k1.BN.cell 3 _ rfl;rw[Kd]at s2 s3;exact⟨s2,s3,⟨_,c9⟩,⟨_,af⟩,open_list g1.blk,open_list g1.blk,k1.abO g1⟩
 ·rintro hl w1 ⟨F1,k1,k2⟩;have hl:r.at'=R.Ag r.result-1:=by simpa using hl
  obtain⟨y1,g1,_⟩:=k1.q ac hq.ne;have aa:=g1.rel;rw[C4]at aa;have hf:decide (8*r.at'+8<(r.result.length:Int))=false:=by
   rw[decide_eq_false_iff_not,R.Ng];omega
  refine turn F1 w1 _ y1 {y1 with wait:=0} k1 k2 g1 (Ah _) (Eb g1.blk rfl) ⟨aa.client,aa.Ae,aa.line,aa.seq,aa.uid,aa.state,aa.asked,aa.ans,?_,?_⟩
  ·simp[hf]
  ·simp[hf]
 ·rintro hl w1 ⟨F1,k1,k2⟩;have hl:¬r.at'=R.Ag r.result-1:=by simpa using hl
  have ad:Below w1.heap.size w1 w1.drew:=(Below.refl _ _).drew;have ae:=k1.below ad;obtain⟨y1,g1,_⟩:=ae.q ac hq.ne;have aa:=g1.rel;rw[C4]at aa;have hf:decide (8*r.at'+8<(r.result.length:Int))=true:=by
   rw[decide_eq_true_iff,R.Ng];omega
  refine turn F1 w1.drew _ y1 {y1 with wait:=G.c.Ay,tries:=G.c.tries} ae (k2.trans (Ap.Al F1 ad)) g1 ((Ah _).trans (Ah _)) ?_ ⟨aa.client,aa.Ae,aa.line,aa.seq,aa.uid,aa.state,aa.asked,aa.ans,?_,?_⟩
  ·exact Eb (y:={y1 with wait:=G.c.Ay}) (Eb g1.blk rfl) rfl
  ·simp[hf]
  ·simp
end Go.Proofs.YtblomippkddgiabGreatDoor
