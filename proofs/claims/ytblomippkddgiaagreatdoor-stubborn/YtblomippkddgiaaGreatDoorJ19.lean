import Derived.Test.YtblomippkddgiaaGreatDoorJ18
import Derived.Test.YtblomippkddgiaaGreatDoorJ14
set_option maxRecDepth 100000
set_option maxHeartbeats 4000000
namespace Go.Proofs.YtblomippkddgiaaGreatDoor
open Go.RowKit
theorem aoO:(Tryz.prog.info? 143).map (fun i=>(i.zero,i.size,i.bytes))=some (some (.pointer none),1,8):=by kernel_rfl
def pa(o:Option Nat):Option Addr:=o.map fun b=>⟨b,0,none⟩
abbrev pc(o:Option Nat):Value:=.pointer (pa o)
def afg(f:Nat→Option Nat)(n:Nat):List Value:=((List.range n).filterMap f).map ptr
theorem ad1(f:Nat→Option Nat)(n:Nat):afg f (n+1)=afg f n++(match f n with|none=>[]|some b=>[ptr b]):=by
 unfold afg
 rw[List.range_succ,List.filterMap_append]
 cases h:f n <;> simp[h]
theorem ams(f:Nat→Option Nat)(n:Nat):(afg f n).length≤n:=by
 unfold afg
 rw[List.length_map]
 have:=List.length_filterMap_le f (List.range n)
 simpa using this
structure RemAt(w:World)(f:Nat→Option Nat)(n:Nat)(O:Value)(wr:World):Prop where
 row:wr.ownsRow w.heap.size 143 1 O (afg f n).length (afg f n)
 below:Below w.heap.size w wr
theorem RemAt.none{w:World}{f:Nat→Option Nat}{n:Nat}{O:Value}{wr:World}(h:RemAt w f n O wr)(hf:f n=none):RemAt w f (n+1) O wr:=by
 have e:afg f (n+1)=afg f n:=by rw[ad1,hf];simp
 refine⟨?_,h.below⟩
 rw[e]
 exact h.row
theorem RemAt.alloc{w:World}{f:Nat→Option Nat}{n:Nat}{O:Value}{wr:World}(h:RemAt w f n O wr)(o:Obj):RemAt w f n O (wr.alloc o):=⟨h.row.alloc _,h.below.alloc h.below.size _⟩
theorem RemAt.some{w:World}{f:Nat→Option Nat}{n b:Nat}{O':Value}{wz:World}(hf:f n=some b)(hown:wz.ownsRow w.heap.size 143 1 O' ((afg f n).length+1) (afg f n++[ptr b]))(hb:Below w.heap.size w wz):RemAt w f (n+1) O' wz:=by
 have e:afg f (n+1)=afg f n++[ptr b]:=by rw[ad1,hf]
 refine⟨?_,hb⟩
 rw[e,List.length_append]
 exact hown
theorem amR(w:World)(t:TypeId)(v:Value)(j:Nat)(u:Value)(h:([v]:List Value)[j]?=Option.some u):(w.alloc (.cells #[v] t)).cell? ((⟨w.heap.size,0,none⟩:Addr).add j)=Option.some u:=by
 rw[Addr.add_lit,Nat.zero_add,World.cell?_alloc_new w _ _ j,←List.getElem?_toArray]at *
 exact h
theorem aqH(q:Nat→Option Addr)(k:Nat)(hk:k<3)(w:World):(Instr.index 162 (.agg #[.pointer (q 0),.pointer (q 1),.pointer (q 2),.pointer (q 3),.pointer (q 4),.pointer (q 5),.pointer (q 6),.pointer (q 7),.pointer (q 8)]) (.int .i64 (k:Int))).run Tryz.prog w=.ok (.agg #[.pointer (q (3*k)),.pointer (q (3*k+1)),.pointer (q (3*k+2))]) w:=by
 obtain rfl|rfl|rfl:k=0∨k=1∨k=2:=by omega
 all_goals rfl
theorem aqI(q:Nat→Option Addr)(k j:Nat)(hj:j<3)(w:World):(Instr.index 158 (.agg #[.pointer (q (3*k)),.pointer (q (3*k+1)),.pointer (q (3*k+2))]) (.int .i64 (j:Int))).run Tryz.prog w=.ok (.pointer (q (3*k+j))) w:=by
 obtain rfl|rfl|rfl:j=0∨j=1∨j=2:=by omega
 all_goals rfl
theorem aor(w:World)(s:Nat)(f:Nat→Option Nat)(h:∀i,i<9→w.cell? ⟨s,10+i,none⟩=some (pc (f i))) :
  Calls Tryz.prog 71 #[ptr s] w fun e w'=>∃O,e=.returned O∧w'.ownsRow w.heap.size 143 1 O (afg f 9).length (afg f 9)∧Below w.heap.size w w':=by
 obtain⟨u,hu⟩:∃u:Nat→Option Addr,∀i,u i=pa (f i):=⟨_,fun _=>rfl⟩
 have HU:=aab hu
 have c0:=h 0 (by omega)
 have c1:=h 1 (by omega)
 have c2:=h 2 (by omega)
 have c3:=h 3 (by omega)
 have c4:=h 4 (by omega)
 have c5:=h 5 (by omega)
 have c6:=h 6 (by omega)
 have c7:=h 7 (by omega)
 have c8:=h 8 (by omega)
 simp only[pc,←hu]at c0 c1 c2 c3 c4 c5 c6 c7 c8
 have hl:=lt_of_cell c0
 obtain⟨i0,hi,hz0,hz1,hz2⟩:=info_parts aoO
 have H0:Hid (RemAt w f 0 (.slice none 0 0) w):=⟨World.ownsRow_nil _ _ _ _,Below.refl _ _⟩
 clear h hu
 go_enter Tryz.func71,Tryz.ntmps71
 go_wp2
 clear c0 c1 c2 c3 c4 c5 c6 c7 c8
 go_loopw [3,13] (fun av iv wr=>∃k:Nat,k≤3∧iv=.int .i64 k∧RemAt w f (3*k) av wr) (fun _ iv _=>3-(intOf iv).toNat)
 case atStart=>exact⟨0,by omega,rfl,unhide H0⟩
 case round=>
  obtain⟨k,hk,rfl,hR⟩:=hrel
  by_cases hlt:k<3
  ·have hix:=aqH u k hlt
   have HR:=aab hR
   clear hR
   go_wp2
   generalize decide ((k:Int)<3)=b14
   go_loopw [3,17] (fun av jv wr'=>∃j:Nat,j≤3∧jv=.int .i64 j∧RemAt w f (3*k+j) av wr') (fun _ jv _=>3-(intOf jv).toNat)
   case atStart=>exact⟨0,by omega,rfl,(unhide HR).alloc _⟩
   case round=>
    obtain⟨j,hj,rfl,hR2⟩:=hrel
    by_cases hjl:j<3
    ·obtain⟨oa,on,oc,hsh⟩:=aae hR2.row
     subst hsh
     have HR2:=aab hR2
     clear hR2
     have hjx:=aqI u k j hjl
     cases hf:f (3*k+j) with
     |none=>
      have e0:u (3*k+j)=none:=by rw[unhide HU,hf];rfl
      rw[e0]at hjx
      have HN:=aab ((unhide HR2).none hf)
      go_wp2
      go_roundw
      case rel=>exact⟨j+1,by omega,by go_num,unhide HN⟩
      case measure=>simp[intOf];omega
     |some b=>
      have e0:u (3*k+j)=some ⟨b,0,none⟩:=by rw[unhide HU,hf];rfl
      rw[e0]at hjx
      have hlen:=ams f (3*k+j)
      go_wp2_with (at_builtin;go_must (refine wpList_append_own_at _ rfl (.tmp 22) (.tmp 24) 141 rfl w.heap.size 143 i0 (.pointer none) 1 8 Tryz.underlying141 hi hz0 hz1 hz2 rfl (by decide) _ _ _ rfl (by exact(unhide HR2).row.alloc _) ⟨wr.heap.size,0,none⟩ 1 1 [ptr b] rfl rfl (by exact amR wr 143 (ptr b)) (by simp[Value.oneCell']) (by unfold maxLen;omega) (by omega) (by have:=(unhide HR2).below.size;simp;omega) ?_))
      intro v' wz hown hgrow _ _
      obtain⟨va,vn,vc,hvs⟩:=aae hown
      subst hvs
      have hbz:Below w.heap.size w wz:=((unhide HR2).below.alloc (unhide HR2).below.size _).grown hgrow (by have:=(unhide HR2).below.size;simp;omega) (fun k hk=>((World.ownsRow.lt (unhide HR2).row) k hk).1)
      have HN:Hid (RemAt w f (3*k+j+1) (.slice va vn vc) wz):=RemAt.some hf hown hbz
      clear hown hgrow hbz HR2
      go_wp2
      go_roundw
      case rel=>exact⟨j+1,by omega,by go_num,unhide HN⟩
      case measure=>simp[intOf];omega
    ·obtain rfl:j=3:=by omega
     have HR3:=aab hR2
     clear hR2
     go_wp2
     go_roundw
     case rel=>exact⟨k+1,by omega,by go_num,by exact unhide HR3⟩
     case measure=>simp[intOf];omega
  ·obtain rfl:k=3:=by omega
   have HR3:=aab hR
   clear hR
   go_wp2
   go_ret
   exact⟨_,rfl,(unhide HR3).row,(unhide HR3).below⟩
def qf(t:SP)(seen:List R.Sn)(i:Nat):Option Nat:=if ((seen[i]?).getD R.sn0).seq=0 then none else some (t.ql i)
theorem amC(t:SP)(seen:List R.Sn)(i:Nat):aaE t seen i=pc (qf t seen i):=by
 unfold aaE qf
 split <;> rfl
section
variable {s n nm:Nat} {t:SP} {F:aai} {c:R.Cf} {sv:List R.Sv} {lives:List Int} {seen:List R.Sn} {jobs:List R.Jb} {w:World}
theorem SrvAt.cell(h:SrvAt s n nm t F c sv lives seen jobs w)(j:Nat)(v:Value)(hv:(aaS n nm t c lives seen)[j]?=some v):w.cell? ⟨s,j,none⟩=some v:=aah h.bs hv
theorem SrvAt.rem(h:SrvAt s n nm t F c sv lives seen jobs w):Calls Tryz.prog 71 #[ptr s] w fun e w'=>∃O,e=.returned O∧w'.ownsRow w.heap.size 143 1 O (afg (qf t seen) 9).length (afg (qf t seen) 9)∧Below w.heap.size w w':=by
 refine aor w s (qf t seen) (fun i hi=>?_)
 rw[←amC]
 obtain rfl|rfl|rfl|rfl|rfl|rfl|rfl|rfl|rfl:i=0∨i=1∨i=2∨i=3∨i=4∨i=5∨i=6∨i=7∨i=8:=by omega
 all_goals exact h.cell _ _ rfl
end
theorem LW.sendS{p:Pl}{F:aai}{G:R.Wd}{w:World}(h:LW p F G w)(cl li ln sq u kd pa o:Int)(pl:Bool)(body:List UInt8)(hr:aaj ⟨kd,cl,li,ln,sq,u,pa,o,pl,body⟩) :
  Calls Tryz.prog 192 #[ptr p.s,.agg #[.int .i64 cl,.int .i64 li,.int .i64 ln,.int .i64 sq,.int .i64 u],pvs kd 0 0 0 0 0 pa o pl (str body)] w fun e w'=>e=.returned (.tuple #[])∧∃F',LW p F' (R.sendP G cl ⟨kd,cl,li,ln,sq,u,pa,o,pl,body⟩) w'∧Went F F' w w':=by
 have ht:=h.srv
 have s20:w.cell? ⟨p.s,20,none⟩=some (ptr p.n):=ht.cell 20 _ rfl
 have hls:=lt_of_cell s20
 obtain⟨Post,hPost⟩:∃Post:World→Prop,∀w'',Post w''↔∃F',LW p F' (R.sendP G cl ⟨kd,cl,li,ln,sq,u,pa,o,pl,body⟩) w''∧Went F F' w w'':=⟨_,fun _=>Iff.rfl⟩
 suffices hq:Calls Tryz.prog 192 #[ptr p.s,.agg #[.int .i64 cl,.int .i64 li,.int .i64 ln,.int .i64 sq,.int .i64 u],pvs kd 0 0 0 0 0 pa o pl (str body)] w fun e w'=>e=.returned (.tuple #[])∧Post w' from hq.mono (fun e w' h=>⟨h.1,(hPost w').1 h.2⟩)
 have HS:Hid (∀w',Below w.heap.size w w'→Calls Tryz.prog 230 #[ptr p.n,.int .i64 cl,pvs kd cl li ln sq u pa o pl (str body)] w' fun e w''=>e=.returned (.tuple #[])∧Post w''):=fun w' hb=>by
  refine((h.below hb).send cl ⟨kd,cl,li,ln,sq,u,pa,o,pl,body⟩ hr).mono ?_
  rintro e w'' ⟨rfl,F',q1,q2⟩
  exact⟨rfl,(hPost w'').2 ⟨F',q1,(Went.ofBelow F hb).trans q2⟩⟩
 clear hPost hr h ht
 generalize str body=SB at *
 obtain⟨BX,hBX⟩:∃BX,(w.alloc (.cells #[.int .i64 cl,.int .i64 li,.int .i64 ln,.int .i64 sq,.int .i64 u] 145)).alloc (.cells #[.int .i64 kd,.int .i64 cl,.int .i64 li,.int .i64 ln,.int .i64 sq,.int .i64 u,.int .i64 pa,.int .i64 o,.bool pl,.string SB] 41)=BX:=⟨_,rfl⟩
 have HB:Hid (Below w.heap.size w BX):=by
  rw[←hBX]
  exact((Below.refl w.heap.size w).alloc (Nat.le_refl _) _).alloc (by simp) _
 have hb0:BX.heap[w.heap.size]?=some (.cells #[.int .i64 cl,.int .i64 li,.int .i64 ln,.int .i64 sq,.int .i64 u] 145 (0,0)):=by
  rw[←hBX]
  exact(Below.heap_alloc _ _ _ (by simp)).trans (heap_alloc_new w _)
 have hb1:BX.heap[w.heap.size+1]?=some (.cells #[.int .i64 kd,.int .i64 cl,.int .i64 li,.int .i64 ln,.int .i64 sq,.int .i64 u,.int .i64 pa,.int .i64 o,.bool pl,.string SB] 41 (0,0)):=by
  rw[←hBX,←World.size_alloc w]
  exact heap_alloc_new _ _
 have HC:=aab ((unhide HS) BX.drew (unhide HB).drew)
 have d20:BX.cell? ⟨p.s,20,none⟩=some (ptr p.n):=((unhide HB).cell (p:=⟨p.s,20,none⟩) hls).trans s20
 have c0:BX.cell? ⟨w.heap.size,0,none⟩=some (.int .i64 cl):=aaa hb0 0 _ rfl
 have e0:BX.cell? ⟨w.heap.size+1,0,none⟩=some (.int .i64 kd):=aaa hb1 0 _ rfl
 have e1:BX.cell? ⟨w.heap.size+1,1,none⟩=some (.int .i64 cl):=aaa hb1 1 _ rfl
 have e2:BX.cell? ⟨w.heap.size+1,2,none⟩=some (.int .i64 li):=aaa hb1 2 _ rfl
 have e3:BX.cell? ⟨w.heap.size+1,3,none⟩=some (.int .i64 ln):=aaa hb1 3 _ rfl
 have e4:BX.cell? ⟨w.heap.size+1,4,none⟩=some (.int .i64 sq):=aaa hb1 4 _ rfl
 have e5:BX.cell? ⟨w.heap.size+1,5,none⟩=some (.int .i64 u):=aaa hb1 5 _ rfl
 have e6:BX.cell? ⟨w.heap.size+1,6,none⟩=some (.int .i64 pa):=aaa hb1 6 _ rfl
 have e7:BX.cell? ⟨w.heap.size+1,7,none⟩=some (.int .i64 o):=aaa hb1 7 _ rfl
 have e8:BX.cell? ⟨w.heap.size+1,8,none⟩=some (.bool pl):=aaa hb1 8 _ rfl
 have e9:BX.cell? ⟨w.heap.size+1,9,none⟩=some (.string SB):=aaa hb1 9 _ rfl
 have HBX:=aab hBX
 clear hb0 hb1 hBX HS
 go_enter Tryz.func192,Tryz.ntmps192
 go_wp2
 rw[unhide HBX]
 clear HBX s20
 go_region_law (refine aak rfl 230 #[.tmp 24,.tmp 26,.tmp 27] #[80,3,41] rfl aq7 #[ptr p.n,.int .i64 cl,pvs kd cl li ln sq u pa o pl SB] rfl _ (unhide HC) ?_;rintro e w1 ⟨rfl,hpost⟩;have HP:=aab hpost;clear hpost;refine⟨_,rfl,?_⟩)
 all_goals
  go_wp2
  go_returns
  exact⟨rfl,unhide HP⟩
structure QAt(p:Pl)(G:R.Wd)(w:World)(i:Nat)(r:R.Sn)(y:SLn):Prop where
 seen:G.seen[i]?=some r
 ne:r.seq≠0
 blk:w.heap[p.t.ql i]?=some (.cells y.cells.toArray 147 (0,0))
 rel:SnRel i (G.lives.getD (i / 3) 0) r y
theorem LW.q{p:Pl}{F:aai}{G:R.Wd}{w:World}(h:LW p F G w){i:Nat}{r:R.Sn}(hr:G.seen[i]?=some r)(hne:r.seq≠0):∃y,QAt p G w i r y∧F (p.t.ql i):=by
 obtain⟨y,h1,h2,h3⟩:=h.srv.ln i r hr hne
 exact⟨y,⟨hr,hne,h1,h2⟩,h3⟩
structure YAt(w:World)(b:Nat)(y:SLn):Prop where
 a0:w.cell? ⟨b,0,none⟩=some (.int .i64 y.client)
 a1:w.cell? ⟨b,1,none⟩=some (.int .i64 y.life)
 a2:w.cell? ⟨b,2,none⟩=some (.int .i64 y.line)
 a3:w.cell? ⟨b,3,none⟩=some (.int .i64 y.seq)
 a4:w.cell? ⟨b,4,none⟩=some (.int .i64 y.uid)
 a5:w.cell? ⟨b,5,none⟩=some (.int .i64 y.state)
 a6:w.cell? ⟨b,6,none⟩=some (.string (str y.asked))
 a7:w.cell? ⟨b,7,none⟩=some (.string (str y.answer))
 a8:w.cell? ⟨b,8,none⟩=some (.int .i64 y.at')
 a9:w.cell? ⟨b,9,none⟩=some (.int .i64 y.wait)
 a10:w.cell? ⟨b,10,none⟩=some (.int .i64 y.tries)
theorem yAt{w:World}{b:Nat}{y:SLn}(h:w.heap[b]?=some (.cells y.cells.toArray 147 (0,0))):YAt w b y:=
 ⟨aah h rfl,aah h rfl,aah h rfl,aah h rfl,aah h rfl,aah h rfl,aah h rfl,aah h rfl,aah h rfl,aah h rfl,aah h rfl⟩
theorem akA{t:SP}{seen:List R.Sn}{i:Nat}{r r':R.Sn}(hr:seen[i]?=some r)(hne:r.seq≠0)(hne':r'.seq≠0)(j:Nat):aaE t (seen.set i r') j=aaE t seen j:=by
 unfold aaE
 rw[List.getElem?_set]
 by_cases e:i=j
 ·subst e
  rw[if_pos rfl,if_pos (List.getElem?_eq_some_iff.1 hr).1,hr]
  simp[hne,hne']
 ·simp[e]
theorem SrvAt.qturn{s n nm:Nat}{t:SP}{F:aai}{c:R.Cf}{sv:List R.Sv}{lives:List Int}{seen:List R.Sn}{jobs:List R.Jb}{w w':World}(h:SrvAt s n nm t F c sv lives seen jobs w){i:Nat}{r r':R.Sn}{cur:Array Value}{y':SLn}(hr:seen[i]?=some r)(hne:r.seq≠0)(hne':r'.seq≠0)(hb:w.heap[t.ql i]?=some (.cells cur 147 (0,0)))(hk:Keeps (fun b=>b=t.ql i) w w')(hb':w'.heap[t.ql i]?=some (.cells y'.cells.toArray 147 (0,0)))(hrel:SnRel i (lives.getD (i / 3) 0) r' y'):SrvAt s n nm t F c sv lives (seen.set i r') jobs w':=by
 obtain⟨f1,f2,f3⟩:=h.foot
 have hav:AvT w F (fun b=>b=t.ql i):=AvT.one hb (by decide)
 have hi:=(List.getElem?_eq_some_iff.1 hr).1
 have hset:∀(j:Nat) (x:R.Sn),(seen.set i r')[j]?=some x→x.seq≠0→∃x0,seen[j]?=some x0∧x0.seq≠0∧(j≠i→x0=x)∧(j=i→x=r'):=fun j x hj hx=>by
  rw[List.getElem?_set]at hj
  by_cases e:i=j
  ·subst e
   simp only[if_true,hi]at hj
   exact⟨r,hr,hne,fun q=>absurd rfl q,fun _=>(Option.some.inj hj).symm⟩
  ·rw[if_neg e]at hj
   exact⟨x,hj,hx,fun _=>rfl,fun q=>absurd q.symm e⟩
 refine⟨?_,h.zs,hk.row h.made (fun j hj=>?_),fun z hz=>(h.each z hz).keep hk hav (fun _ q=>q),h.dns,h.wks,fun j x hj hx=>?_,fun a b x x' ha hb hx hx' hab=>?_,?_,f1,f2,f3⟩
 ·have e:aaS n nm t c lives (seen.set i r')=aaS n nm t c lives seen:=by
   unfold aaS
   simp only[akA hr hne hne']
  rw[e]
  exact hk.at h.bs (ne_tag h.bs hb (by decide))
 ·rcases h.made.2 with ⟨hn,_⟩|⟨g,cap,cur',hn,_,hg,_⟩
  ·rw[hn]at hj;cases hj
  ·rw[hn]at hj
   cases hj
   exact ne_tag hg hb (by decide)
 ·obtain⟨x0,q1,q2,q3,q4⟩:=hset j x hj hx
  by_cases e:j=i
  ·subst e
   obtain rfl:=q4 rfl
   obtain⟨_,_,_,hF⟩:=h.ln j x0 q1 q2
   exact⟨y',hb',hrel,hF⟩
  ·obtain rfl:=q3 e
   obtain⟨y,g1,g2,g3⟩:=h.ln j x0 q1 q2
   exact⟨y,hk.at g1 (h.inj j i x0 r q1 hr q2 hne e),g2,g3⟩
 ·obtain⟨x0,q1,q2,_⟩:=hset a x ha hx
  obtain⟨x1,q3,q4,_⟩:=hset b x' hb hx'
  exact h.inj a b x0 x1 q1 q3 q2 q4 hab
 ·obtain⟨a,b,hj⟩:=h.jobs
  refine⟨a,b,hk.at hj (fun e=>?_)⟩
  rw[e,hb]at hj
  cases hj
theorem aeJ{G:R.Wd}(h:R.Wf G)(i:Nat)(r:R.Sn):R.Wf (R.setSeen G i r):=⟨h.cf,h.ncl,fun j c hc=>⟨(h.cl j c hc).lines,(h.cl j c hc).life,(h.cl j c hc).bound,(h.cl j c hc).line⟩,h.fly,h.flys,h.sv,h.svk,h.nm,h.st,h.nd,h.sts⟩
theorem aeI{c:R.Cf}{lives:List Int}{seen:List R.Sn}{jobs:List R.Jb}(h:R.WsOk c lives seen jobs){i:Nat}{r:R.Sn}(hr:R.SnOk (lives.getD (i / 3) 0) r):R.WsOk c lives (seen.set i r) jobs:=by
 refine⟨h.ll,h.lv,by simpa using h.sl,fun j x hx=>?_,h.jl,h.jb⟩
 rw[List.getElem?_set]at hx
 by_cases e:i=j
 ·rw[if_pos e]at hx
  split at hx
  ·cases hx
   rw[←e]
   exact hr
  ·cases hx
 ·rw[if_neg e]at hx
  exact h.sn j x hx
theorem LW.qturn{p:Pl}{F:aai}{G:R.Wd}{w w':World}(h:LW p F G w){i:Nat}{r r':R.Sn}{y y':SLn}(hq:QAt p G w i r y)(hne':r'.seq≠0)(hk:Keeps (fun b=>b=p.t.ql i) w w')(hb':w'.heap[p.t.ql i]?=some (.cells y'.cells.toArray 147 (0,0)))(hrel:SnRel i (G.lives.getD (i / 3) 0) r' y')(hok:R.SnOk (G.lives.getD (i / 3) 0) r'):LW p F (R.setSeen G i r') w'∧QAt p (R.setSeen G i r') w' i r' y'∧Went F F w w':=by
 obtain⟨hx,hn,hcs,hnm⟩:=h.foot
 have hb:=hq.blk
 have hav:AvT w F (fun b=>b=p.t.ql i):=AvT.one hb (by decide)
 obtain⟨_,_,_,hFq⟩:=h.srv.ln i r hq.seen hq.ne
 have at':∀{b:Nat} {ys:Array Value} {t:TypeId} {f:Nat×Nat},w.heap[b]?=some (.cells ys t f)→t≠147→w'.heap[b]?=some (.cells ys t f):=fun hb1 h1=>hk.at hb1 (ne_tag hb1 hb h1)
 have map':∀{α:Type} {k:TypeId} {b:Nat} {lit:α→Lit} {g:α→Option Int} {n:Nat},Mp w k b lit g n→Mp w' k b lit g n:=fun hm=>by
  obtain⟨es,q,hq⟩:=hm.block
  exact hm.keep hk (fun e=>ado hb hq e.symm)
 refine⟨⟨aeJ h.wf i r',aeI h.cold hok,at' h.bx (by decide),?_,?_,h.srv.qturn hq.seen hq.ne hne' hb hk hb' hrel,map' h.names,fun j c hc=>at' (h.cl j c hc) (by decide),fun j c hc=>?_,fun j c hc=>map' (h.bound j c hc),h.foot,h.feet,h.inj,fun k hf=>Nat.lt_of_lt_of_le (h.lt k hf) hk.size⟩,⟨?_,hne',hb',hrel⟩,⟨hk.mono (fun k _ e=>by rw[e];exact hFq),fun _ q=>Or.inl q⟩⟩
 ·obtain⟨cur,h1,h2⟩:=h.bcs
  exact⟨cur,at' h1 (by decide),h2⟩
 ·obtain⟨K,h1,h2,h3⟩:=h.bn
  refine⟨K,at' h1 (by decide),hk.row h2 (fun j hj=>?_),h3⟩
  rcases h2.2 with ⟨rfl,_⟩|⟨g,cap,cur,rfl,_,hg,_⟩
  ·cases hj
  ·cases hj
   exact ne_tag hg hb (by decide)
 ·obtain⟨xs,h1,h2,h3⟩:=h.ln j c hc
  exact⟨xs,at' h1 (by decide),h2,h3.avoid hk hav (fun _ q=>q)⟩
 ·simp[R.setSeen,(List.getElem?_eq_some_iff.1 hq.seen).1]
theorem QAt.below{p:Pl}{G:R.Wd}{w w':World}{i:Nat}{r:R.Sn}{y:SLn}(h:QAt p G w i r y)(hb:Below w.heap.size w w'):QAt p G w' i r y:=⟨h.seen,h.ne,by rw[hb.block _ (Array.getElem?_eq_some_iff.1 h.blk).1];exact h.blk,h.rel⟩
theorem y_store{w:World}{b j:Nat}{y y':SLn}{v:Value}(h:w.heap[b]?=some (.cells y.cells.toArray 147 (0,0)))(hv:y'.cells=y.cells.set j v):(w.setCell ⟨b,j,none⟩ v).heap[b]?=some (.cells y'.cells.toArray 147 (0,0)):=by
 rw[aad h,hv]
end Go.Proofs.YtblomippkddgiaaGreatDoor
namespace Go.Proofs.YtblomippkddgiaaGreatDoor.R
theorem anQ(life:Int):SnOk life sn0:=⟨fun _=>rfl,by simp[sn0],by simp[sn0],by simp[sn0],by simp[sn0],by simp[sn0],by simp[sn0]⟩
theorem ws0(c:Cf)(h:okCf c):WsOk c [0,0,0] (List.replicate 9 sn0) []:=by
 refine⟨rfl,by simp,by simp,fun i r hr=>?_,?_,by simp⟩
 ·rw[List.getElem?_replicate]at hr
  split at hr
  ·cases hr
   exact anQ _
  ·cases hr
 ·unfold okCf at h
  simp
  omega
theorem apZ(M:Bk)(sv:List Sv)(i:Nat)(life:Int)(b:List Int)(k:Nat):LineOk M sv i life b k ln0:=⟨by simp[ln0],by simp[ln0],by simp[ln0],by simp[ln0],by simp[ln0]⟩
theorem anh:LnOk ln0:=⟨by simp[ln0],by simp[ln0]⟩
theorem aim{life lines:Int}{k:Nat}{l:Ln}(h:(cl0 life lines).lines[k]?=some l):l=ln0:=by
 simp only[cl0,List.getElem?_replicate]at h
 split at h
 ·cases h;rfl
 ·cases h
theorem Inv.new{c:Cf}{G:Wd}(h:newP c=some G):Inv (fun _=>none) G:=by
 unfold newP at h
 split at h
 ·rename_i hc
  cases h
  have hcl:∀(i:Nat) (x:Cl),(List.replicate c.clients.toNat (cl0 1 c.lines))[i]?=some x→x=cl0 1 c.lines:=fun i x hx=>by
   rw[List.getElem?_replicate]at hx
   split at hx
   ·cases hx;rfl
   ·cases hx
  have hcc:=hc
  unfold okCf at hcc
  refine⟨⟨hc,by simp;omega,fun i x hx=>?_,by simp,by simp,by simp,by simp,by simp,by simp,by simp,by simp⟩,ws0 c hc,by simp,fun i x k l hx hl=>?_,by simp,fun i r hr hne=>?_,by simp,by simp,by simp,fun i x hx=>?_⟩
  ·rw[hcl i x hx]
   exact⟨by simp[cl0];omega,by simp[cl0],by simp[cl0],fun k l hl=>by rw[aim hl];exact anh⟩
  ·rw[hcl i x hx]at hl
   rw[aim hl]
   exact apZ _ _ _ _ _ _
  ·simp only[List.getElem?_replicate]at hr
   split at hr
   ·cases hr
    exact absurd rfl hne
   ·cases hr
  ·rw[hcl i x hx]
   simp only[List.getD_eq_getElem?_getD]
   rcases i with _|_|_|i <;> simp[cl0]
 ·cases h
theorem agd(G:Wd)(uid:Int)(u:Nat):(adu G uid).services[u]?=(G.services[u]?).map fun s=>if (uid-1).toNat=u then {s with alive:=false} else s:=by
 unfold adu
 generalize (uid-1).toNat=n
 simp only[List.getElem?_modify]
 rfl
theorem Inv.end{M:Bk}{G:Wd}(h:Inv M G)(uid:Int)(hu:1≤uid):Inv M (adu G uid):=by
 have hsv0:∀(u:Nat) (s:Sv),G.services[u]?=some s→∃s',(adu G uid).services[u]?=some s'∧s'.kind=s.kind∧s'.log=s.log∧(s'.alive=true→s.alive=true)∧((uid-1).toNat≠u→s'=s):=fun u s hs=>by
  refine⟨if (uid-1).toNat=u then {s with alive:=false} else s,by rw[agd,hs];rfl,?_⟩
  split
  ·rename_i e
   exact⟨rfl,rfl,(fun q=>nomatch q),fun q=>absurd e q⟩
  ·exact⟨rfl,rfl,fun q=>q,fun _=>rfl⟩
 have hnn:∀u:Nat,G.services[u]?=none→(adu G uid).services[u]?=none:=fun u hs=>by rw[agd,hs];rfl
 have hg:Gr G.services (adu G uid).services:=by
  refine⟨by simp[adu],fun u s hs=>?_⟩
  obtain⟨s',h1,h2,h3,_⟩:=hsv0 u s hs
  exact⟨s',h1,h2,[],by simp[h3]⟩
 have hsv:∀(u:Nat) (s':Sv),(adu G uid).services[u]?=some s'→∃s,G.services[u]?=some s∧s'.kind=s.kind∧s'.log=s.log∧(s'.alive=true→s.alive=true):=fun u s' hs=>by
  cases h0:G.services[u]? with
  |none=>rw[hnn u h0]at hs;cases hs
  |some s=>
   obtain⟨s2,h1,h2,h3,h4,_⟩:=hsv0 u s h0
   rw[hs]at h1
   cases h1
   exact⟨s,rfl,h2,h3,h4⟩
 have hlog:∀u,logS (adu G uid).services u=logS G.services u:=fun u=>by
  unfold logS
  cases h0:G.services[(u-1).toNat]? with
  |none=>rw[hnn _ h0]
  |some s=>
   obtain⟨s2,h1,h2,h3,h4,_⟩:=hsv0 _ s h0
   rw[h1]
   exact h3
 have hal:∀u,u≠uid→1≤u→aliveS (adu G uid).services u=aliveS G.services u:=fun u hne h1=>by
  unfold aliveS
  cases h0:G.services[(u-1).toNat]? with
  |none=>rw[hnn _ h0]
  |some s=>
   obtain⟨s2,q1,_,_,_,q5⟩:=hsv0 _ s h0
   rw[q1,q5 (by omega)]
 have hsn:∀(i:Nat) (r':Sn),(adu G uid).seen[i]?=some r'→∃r,G.seen[i]?=some r∧r'=(if r.uid=uid∧r.state<3 then {r with state:=4} else r):=fun i r' hr=>by
  simp only[adu,List.getElem?_map]at hr
  cases h0:G.seen[i]? with
  |none=>rw[h0]at hr;cases hr
  |some r=>
   rw[h0]at hr
   exact⟨r,rfl,(Option.some.inj hr).symm⟩
 refine⟨h.wf.ends uid,⟨h.ws.ll,h.ws.lv,by simpa [adu] using h.ws.sl,fun i r' hr=>?_,h.ws.jl,h.ws.jb⟩,fun k d hd=>⟨(h.bk k d hd).1.grow hg,(h.bk k d hd).2⟩,fun i c k l hc hl=>(h.ln i c k l hc hl).grow (Le.refl M) hg (fun _ q=>q),fun f hf=>(h.fl f hf).grow (Le.refl M) hg,fun i r' hr hne=>?_,fun u s' hs=>?_,fun u s' e hs ha he=>?_,h.jb,h.lv⟩
 ·obtain⟨r,h0,rfl⟩:=hsn i r' hr
  have q:=h.ws.sn i r h0
  by_cases hv:r.uid=uid∧r.state<3
  ·rw[if_pos hv]
   have hs0:r.seq≠0:=fun e=>by
    have:=q.zero e
    rw[this]at hv
    have:sn0.uid=0:=rfl
    omega
   have ht:r.timed=false:=by
    cases e:r.timed with
    |false=>rfl
    |true=>have:=(q.timed e).1;omega
   exact⟨fun e=>absurd e hs0,q.seq,fun _=>⟨(q.some hs0).1,(q.some hs0).2.1,by simp⟩,by simp,by simp,by simp,by simp[ht]⟩
  ·rw[if_neg hv]
   exact q
 ·obtain⟨r,h0,rfl⟩:=hsn i r' hr
  by_cases hv:r.uid=uid∧r.state<3
  ·rw[if_pos hv]at hne ⊢
   obtain⟨d,q⟩:=h.sn i r h0 hne
   exact⟨d,q.made,q.uid,by simp,by simp,by simp,by simp⟩
  ·rw[if_neg hv]at hne ⊢
   obtain⟨d,q⟩:=h.sn i r h0 hne
   refine⟨d,q.made,q.uid,q.gath,q.wait,fun hs=>?_,fun hs=>?_⟩
   ·obtain⟨q1,q2⟩:=q.open' hs
    have hne2:d.uid≠uid:=fun e=>hv ⟨by rw[q.uid];exact e,by omega⟩
    have h1:1≤d.uid:=(h.bk _ d q.made).1.uid.1
    exact⟨by rw[hal d.uid hne2 h1];exact q1,by rw[hlog];exact q2⟩
   ·obtain⟨e,he⟩:=q.ans hs
    exact⟨e,he.grow hg⟩
 ·obtain⟨s,h0,h1,h2,_⟩:=hsv u s' hs
  have q:=h.lg u s h0
  exact⟨by rw[h2];exact q.each,by rw[h2];exact q.ord,by rw[h1,h2];exact q.told⟩
 ·obtain⟨s,h0,h1,h2,h3⟩:=hsv u s' hs
  rw[h2]at he
  have q:=h.fut u s e h0 (h3 ha) he
  rcases q with q|⟨q1,q2⟩
  ·exact Or.inl q
  ·refine Or.inr ⟨q1,Int.le_trans q2 ?_⟩
   unfold aj5
   simp only[adu,List.getElem?_map]
   cases G.seen[3*e.client.toNat+e.line.toNat]? with
   |none=>simp
   |some r=>
    simp only[Option.map_some,Option.getD_some]
    split <;> simp
theorem Inv.regist{M:Bk}{G:Wd}(h:Inv M G){nm:List (List UInt8)}{st:List Int}(hw:Wf {G with names:=nm,stands:=st}):Inv M {G with names:=nm,stands:=st}:=⟨hw,h.ws,h.bk,h.ln,h.fl,h.sn,h.lg,h.fut,h.jb,h.lv⟩
theorem Inv.serve{M:Bk}{G:Wd}(h:Inv M G){kind:Int}(hw:Wf {G with services:=G.services++[⟨kind,true,[]⟩]}):Inv M {G with services:=G.services++[⟨kind,true,[]⟩]}:=by
 have hg:Gr G.services (G.services++[⟨kind,true,[]⟩]):=⟨by simp,fun u s hs=>⟨s,by rw[List.getElem?_append_left (List.getElem?_eq_some_iff.1 hs).1];exact hs,rfl,[],by simp⟩⟩
 have hsv:∀(u:Nat) (s':Sv),(G.services++[⟨kind,true,[]⟩])[u]?=some s'→G.services[u]?=some s'∨s'=⟨kind,true,[]⟩:=fun u s' hs=>by
  rcases Nat.lt_or_ge u G.services.length with hl|hl
  ·rw[List.getElem?_append_left hl]at hs
   exact Or.inl hs
  ·rw[List.getElem?_append_right hl]at hs
   cases hn:u-G.services.length with
   |zero=>rw[hn]at hs;simp at hs;exact Or.inr hs.symm
   |succ n=>rw[hn]at hs;simp at hs
 have hk:∀d:Cd,CdOk G.services d→logS (G.services++[⟨kind,true,[]⟩]) d.uid=logS G.services d.uid∧aliveS (G.services++[⟨kind,true,[]⟩]) d.uid=aliveS G.services d.uid:=fun d hd=>by
  have hu:=hd.uid
  have:(d.uid-1).toNat<G.services.length:=by omega
  unfold logS aliveS
  rw[List.getElem?_append_left this]
  exact⟨rfl,rfl⟩
 refine⟨hw,h.ws,fun k d hd=>⟨(h.bk k d hd).1.grow hg,(h.bk k d hd).2⟩,fun i c k l hc hl=>(h.ln i c k l hc hl).grow (Le.refl M) hg (fun _ q=>q),fun f hf=>(h.fl f hf).grow (Le.refl M) hg,fun i r hr hne=>?_,fun u s' hs=>?_,fun u s' e hs ha he=>?_,h.jb,h.lv⟩
 ·obtain⟨d,q⟩:=h.sn i r hr hne
  obtain⟨k1,k2⟩:=hk d (h.bk _ d q.made).1
  refine⟨d,q.made,q.uid,q.gath,q.wait,fun hs=>?_,fun hs=>?_⟩
  ·obtain⟨q1,q2⟩:=q.open' hs
   exact⟨by rw[k2];exact q1,by rw[k1];exact q2⟩
  ·obtain⟨e,he⟩:=q.ans hs
   exact⟨e,he.grow hg⟩
 ·rcases hsv u s' hs with q|rfl
  ·exact h.lg u s' q
  ·exact⟨by simp,by simp,by simp[ara]⟩
 ·rcases hsv u s' hs with q|rfl
  ·exact h.fut u s' e q ha he
  ·cases he
theorem amf{G:Wd}(h:Wf G){name:List UInt8}{k:Nat}(he:entryP G name=some k):G.stands.getD k 0∈G.stands:=by
 have hk:=(List.getElem?_eq_some_iff.1 (agc he)).1
 have hk2:k<G.stands.length:=by rw[h.st];exact hk
 rw[List.getD_eq_getElem?_getD,List.getElem?_eq_getElem hk2]
 exact List.getElem_mem hk2
theorem Inv.export{M:Bk}{G:Wd}(h:Inv M G)(name:List UInt8)(kind:Int):Inv M (exportP G name kind).2:=by
 have hw:=h.wf.export name kind
 unfold exportP at hw ⊢
 split
 ·exact h
 ·rename_i h1
  rw[if_neg h1]at hw
  split
  ·exact h
  ·rename_i h2
   rw[if_neg h2]at hw
   split
   ·rename_i he
    simp only[he]at hw
    split
    ·exact h
    ·rename_i h3
     rw[if_neg h3]at hw
     split
     ·exact h
     ·rename_i h4
      rw[if_neg h4]at hw
      have hw2:Wf {G with services:=G.services++[⟨kind,true,[]⟩]}:=h.wf.serve (nm:=G.names) (st:=G.stands) (by omega) (by have:=h.wf.sv;omega) h.wf.nm h.wf.st h.wf.nd (fun u hu=>by have:=h.wf.sts u hu;omega)
      exact(h.serve hw2).regist hw
   ·rename_i k he
    simp only[he]at hw
    split
    ·exact h
    ·rename_i h4
     rw[if_neg h4]at hw
     have hs:=h.wf.sts _ (amf h.wf he)
     have hE:=h.end (G.stands.getD k 0) hs.1
     have hl:(adu G (G.stands.getD k 0)).services.length=G.services.length:=by simp[adu]
     have hw2:=hE.wf.serve (kind:=kind) (nm:=G.names) (st:=G.stands) (by omega) (by have:=h.wf.sv;rw[hl];omega) h.wf.nm h.wf.st h.wf.nd (fun u hu=>by have:=h.wf.sts u hu;rw[hl];omega)
     exact(hE.serve hw2).regist hw
theorem Inv.imports{M:Bk}{G:Wd}(h:Inv M G)(client:Int)(name:List UInt8):Inv M (importP G client name).2:=by
 have hw:=h.wf.imports client name
 unfold importP at hw ⊢
 split
 ·exact h
 ·rename_i h1
  rw[if_neg h1]at hw
  split
  ·exact h
  ·rename_i k he
   simp only[he]at hw
   have hcl:∀(j:Nat) (c':Cl),(G.clients.modify client.toNat fun c=>{c with bound:=c.bound++[G.stands.getD k 0]})[j]?=some c'→∃c,G.clients[j]?=some c∧c'.life=c.life∧c'.lines=c.lines∧∀u∈c.bound,u∈c'.bound:=fun j c' hj=>by
    rw[List.getElem?_modify]at hj
    cases h0:G.clients[j]? with
    |none=>rw[h0]at hj;cases hj
    |some c=>
     rw[h0]at hj
     have hj:=Option.some.inj hj
     refine⟨c,rfl,?_⟩
     rw[←hj]
     split
     ·exact⟨rfl,rfl,fun u hu=>List.mem_append_left _ hu⟩
     ·exact⟨rfl,rfl,fun u hu=>hu⟩
   refine⟨hw,h.ws,fun q d hq=>?_,fun i c' n l hc hl=>?_,h.fl,h.sn,h.lg,h.fut,h.jb,fun i c' hc=>?_⟩
   ·obtain⟨g1,a,ca,n,x,r1,r2,r3,r4,r5,r6,r7,r8,r9⟩:=h.bk q d hq
    refine⟨g1,a,(if client.toNat=a then {ca with bound:=ca.bound++[G.stands.getD k 0]} else ca),n,x,r1,?_,r3,?_,r5,?_,r7,r8,?_⟩
    ·simp only[List.getElem?_modify,r2]
     rfl
    all_goals split <;> assumption
   ·obtain⟨c,q1,q2,q3,q4⟩:=hcl i c' hc
    rw[q3]at hl
    rw[q2]
    exact(h.ln i c n l q1 hl).grow (Le.refl M) (Gr.refl _) q4
   ·obtain⟨c,q1,q2,q3,q4⟩:=hcl i c' hc
    rw[q2]
    exact h.lv i c q1
theorem Inv.erase{M:Bk}{G:Wd}(h:Inv M G)(k:Nat):Inv M {G with flying:=G.flying.eraseIdx k}:=by
 refine h.fly ⟨h.wf.cf,h.wf.ncl,fun j c hc=>⟨(h.wf.cl j c hc).lines,(h.wf.cl j c hc).life,(h.wf.cl j c hc).bound,(h.wf.cl j c hc).line⟩,?_,fun f hf=>h.wf.flys f (List.mem_of_mem_eraseIdx hf),h.wf.sv,h.wf.svk,h.wf.nm,h.wf.st,h.wf.nd,h.wf.sts⟩ (fun f hf=>h.fl f (List.mem_of_mem_eraseIdx hf))
 have:=List.length_eraseIdx_le (l:=G.flying) (i:=k)
 have:=h.wf.fly
 simp only
 omega
theorem Inv.drop{M:Bk}{G:Wd}(h:Inv M G)(i:Int):Inv M (dropP G i).2:=by
 unfold dropP
 split
 ·exact h
 ·exact h.erase _
end Go.Proofs.YtblomippkddgiaaGreatDoor.R
