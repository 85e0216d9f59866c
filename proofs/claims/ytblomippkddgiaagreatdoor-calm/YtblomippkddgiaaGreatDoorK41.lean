import Derived.Test.YtblomippkddgiaaGreatDoorK40
import Derived.Test.YtblomippkddgiaaGreatDoorK30
namespace Go.Proofs.YtblomippkddgiaaGreatDoor
open Go.RowKit
theorem Works.Tq{w w':World}{F E F':Aq}{l:List R.En}{b:Nat}{K:Value}{k:Int}{W:Value}(h:Works w F l b K k W)(hk:Af E w w')(hb:¬E b)(hbk:∀j,K.ownBlock=some j->¬E j)(hi:∀b cur,F b->w.heap[b]?=some (.cells cur 106 (0,0))->¬E b)(hF:∀k,F k->F' k):Works w' F' l b K k W:=by
 cases h with
 |counter h1 h2 h3=>exact .counter (hF _ h1) (hk.at h2 hb) h3
 |Fh h1 h2 h3 h4=>exact .Fh (hF _ h1) (hk.at h2 hb) (hk.row h3 hbk) (fun j hj=>hF _ (h4 j hj))
 |IP d0 d1 d2 h1 h2 h3 g0 g1 g2=>exact .IP d0 d1 d2 (hF _ h1) (hk.at h2 hb) h3 (g0.keep hk hi hF) (g1.keep hk hi hF) (g2.keep hk hi hF)
theorem QM.Tq{w w':World}{F E F':Aq}{z:R.Sv×MV}(h:QM w F z)(hk:Af E w w')(h1:z.1.alive=true->¬E z.2.sb)(h2:z.1.alive=true->∀j,z.2.bk.ownBlock=some j->¬E j)(h3:∀j,z.2.dn.ownBlock=some j->¬E j)(hi:∀b cur,F b->w.heap[b]?=some (.cells cur 106 (0,0))->¬E b)(hF:∀k,F k->F' k):QM w' F' z:=by
 refine⟨?_,?_,fun j hj=>hF _ (h.own j hj)⟩
 ·have hw:=h.wk;by_cases ha:z.1.alive=true
  ·rw[if_pos ha]at hw ⊢;exact hw.Tq hk (h1 ha) (h2 ha) hi hF
  ·rw[if_neg ha]at hw ⊢;exact hw
 ·obtain⟨es,e1,e2,e3⟩:=h.log;exact⟨es,e1,hk.row e2 h3,fun y hy=>⟨(e3 y hy).1.keep hk hi hF,(e3 y hy).2.keep hk hi hF⟩⟩
def TI(T:TypeId):Bool:=T==330 || T==333 || T==337
theorem Works.blk{w:World}{F:Aq}{l:List R.En}{b:Nat}{K:Value}{k:Int}{W:Value}(h:Works w F l b K k W):F b/\∃cur T,w.heap[b]?=some (.cells cur T (0,0))/\TI T=true:=by
 cases h with
 |counter h1 h2 h3=>exact⟨h1,_,_,h2,rfl⟩
 |Fh h1 h2 h3 h4=>exact⟨h1,_,_,h2,rfl⟩
 |IP d0 d1 d2 h1 h2 h3 g0 g1 g2=>exact⟨h1,_,_,h2,rfl⟩
theorem GD{w:World}{B n size:Nat}{e:TypeId}{v:Value}{xs:List Value}(h:w.ownsRow B e size v n xs){j:Nat}(hj:v.ownBlock=some j):∃cur,w.heap[j]?=some (.cells cur e (0,0)):=by
 rcases h.2 with ⟨rfl,_⟩|⟨g,cap,cur,rfl,_,hg,_⟩
 ·cases hj
 ·cases hj;exact⟨cur,hg⟩
theorem Works.bkt{w:World}{F:Aq}{l:List R.En}{b:Nat}{K:Value}{k:Int}{W:Value}(h:Works w F l b K k W){j:Nat}(hj:K.ownBlock=some j):F j/\∃cur,w.heap[j]?=some (.cells cur 9 (0,0)):=by
 cases h with
 |counter h1 h2 h3=>rw[h3]at hj;cases hj
 |Fh h1 h2 h3 h4=>exact⟨h4 j hj,GD h3 hj⟩
 |IP d0 d1 d2 h1 h2 h3 g0 g1 g2=>rw[h3]at hj;cases hj
def Mq(z:R.Sv×MV)(en:R.En)(K' bk':Value):R.Sv×MV:=({z.1 with log:=z.1.log++[en]},{z.2 with dn:=K',bk:=bk'})
def Ri(z:R.Sv×MV)(g:Nat):Aq:=fun k=>(k=z.2.sb\/z.2.bk.ownBlock=some k)\/(z.2.dn.ownBlock=some k\/k=g)
def K9(T:TypeId):Bool:=TI T || T==9 || T==98 || T==213
theorem Cp.Tf{s n nm:Nat}{t:SP}{F:Aq}{c:R.Cf}{sv:List R.Sv}{Ai:List Int}{seen:List R.Sn}{jobs:List R.Jb}{w:World}(h:Cp s n nm t F c sv Ai seen jobs w){u g:Nat}{z:R.Sv×MV}{cur:Array Value}(hz:t.zs[u]?=some z)(ha:z.1.alive=true)(hg:w.heap[g]?=some (.cells cur 213 (0,0)))(k:Nat)(hk:Ri z g k):∃cur T,w.heap[k]?=some (.cells cur T (0,0))/\K9 T=true:=by
 have hs:=h.each z (List.mem_of_getElem? hz);have hw:=hs.wk;rw[if_pos ha]at hw;rcases hk with (rfl|hk)|(hk|rfl)
 ·obtain⟨_,cur,T,q1,q2⟩:=hw.blk;exact⟨cur,T,q1,by simp[K9,q2]⟩
 ·obtain⟨_,cur,q⟩:=hw.bkt hk;exact⟨cur,9,q,rfl⟩
 ·obtain⟨es,_,e2,_⟩:=hs.log;obtain⟨cur,q⟩:=GD e2 hk;exact⟨cur,98,q,rfl⟩
 ·exact⟨cur,213,hg,rfl⟩
theorem Cp.did{s n nm:Nat}{t:SP}{F F':Aq}{c:R.Cf}{sv:List R.Sv}{Ai:List Int}{seen:List R.Sn}{jobs:List R.Jb}{w w3:World}(h:Cp s n nm t F c sv Ai seen jobs w)(hlt:∀k,F k->k<w.heap.size){u g cap:Nat}{z:R.Sv×MV}{cur:Array Value}(hz:t.zs[u]?=some z)(ha:z.1.alive=true)(hK:t.K=.slice (some ⟨g,0,none⟩) t.zs.length cap)(hg:w.heap[g]?=some (.cells cur 213 (0,0)))(hcap:t.zs.length<=cap)(hmax:cap<=maxLen)(hsz:cur.size=cap*3)(htk:cur.toList.take (t.zs.length*3)=tab Hq t.zs)
  {en:R.En} {O V K' bk':Value} {es:List (R.En×Value×Value)} (hk:Af (Ri z g) w w3) (hg3:w3.heap[g]?=some (.cells (cur.toList.set (u*3+2) K').toArray 213 (0,0))) (hF:∀k,F k->F' k) (hw:Works w3 F' (z.1.log++[en]) z.2.sb bk' z.1.kind z.2.wk) (hbk:bk'.ownBlock=z.2.bk.ownBlock\/∃j,bk'.ownBlock=some j/\w.heap.size<=j)
  (he:es.map (·.1)=z.1.log) (hit:∀y∈es,BD w F y.2.1 y.1.arg/\BD w F y.2.2 y.1.result) (hr3:w3.ownsRow 0 98 7 K' (es.length+1) (tab EJ (es++[(en,O,V)]))) (hO:BD w3 F' O en.arg) (hV:BD w3 F' V en.result) (hdn:K'.ownBlock=z.2.dn.ownBlock\/∃j,K'.ownBlock=some j/\w.heap.size<=j/\F' j):
  Cp s n nm {t with zs:=t.zs.set u (Mq z en K' bk')} F' c (sv.set u {z.1 with log:=z.1.log++[en]}) Ai seen jobs w3:=by
 obtain⟨f1,f2,f3⟩:=h.BM;have htg:=h.Tf hz ha hg;have hs:=h.each z (List.mem_of_getElem? hz);have hwz:=hs.wk;rw[if_pos ha]at hwz;have hav:∀{b:Nat} {cu:Array Value} {T:TypeId} {zz:Nat×Nat},w.heap[b]?=some (.cells cu T zz)->K9 T=false->¬Ri z g b:=fun {b cu T zz} hb hT hE=>by
  obtain⟨cu',T',q1,q2⟩:=htg b hE;rw[hb]at q1;cases q1;rw[hT]at q2;cases q2
 have hi:∀b cur,F b->w.heap[b]?=some (.cells cur 106 (0,0))->¬Ri z g b:=fun b cur _ hb=>hav hb (by decide)
 obtain⟨ez,_,ezr,_⟩:=hs.log;refine⟨hk.at h.bs (hav h.bs (by decide)),?_,?_,fun y hy=>?_,fun i j a b ha' hb' hij k hk1=>?_,fun i j a b ha' hb' hij ha1 hb1=>?_,fun i r hr hne=>?_,h.inj,?_,hF _ f1,hF _ f2,fun j hj=>hF _ (f3 j hj)⟩
 ·simp only[map_set];rw[h.zs];rfl
 ·simp only;rw[List.length_set];refine⟨by rw[I5 IW,List.length_set,Nat.mul_comm],Or.inr ⟨g,cap,_,hK,Nat.zero_le _,hg3,hcap,hmax,by simpa using hsz,?_⟩⟩;rw[Vn,htk];exact Om IW t.zs u 2 z (Mq z en K' bk') _ hz (by omega) rfl
 ·obtain⟨j,hj⟩:=List.getElem?_of_mem hy;rcases Oh hj with ⟨rfl,rfl⟩|⟨hju,hj0⟩
  ·refine⟨?_,⟨es++[(en,O,V)],by simp[Mq,he],?_,fun y hy=>?_⟩,fun j hj=>?_⟩
   ·rw[if_pos (show (Mq z en K' bk').1.alive=true from ha)];exact hw
   ·rw[List.length_append];exact hr3
   ·rcases List.mem_append.1 hy with q|q
    ·exact⟨(hit y q).1.keep hk hi hF,(hit y q).2.keep hk hi hF⟩
    ·simp only[List.mem_singleton]at q;subst q;exact⟨hO,hV⟩
   ·rcases hdn with q|⟨j',q1,q2,q3⟩
    ·exact hF _ (hs.own j (by rw[<-q];exact hj))
    ·rw[show (Mq z en K' bk').2.dn=K' from rfl,q1]at hj;cases hj;exact q3
  ·have hy0:=h.each y (List.mem_of_getElem? hj0);refine hy0.Tq hk (fun hya hE=>?_) (fun hya k hk1 hE=>?_) (fun k hk1 hE=>?_) hi hF
   ·have hwy:=hy0.wk;rw[if_pos hya]at hwy;obtain⟨_,cu,T,q1,q2⟩:=hwy.blk;have hne:=(h.ZW u j z y hz hj0 (fun e=>hju e.symm) ha hya).1;rcases hE with (e|e)|(e|e)
    ·exact hne e.symm
    ·obtain⟨_,cu',q3⟩:=hwz.bkt e;rw[q1]at q3;cases q3;cases q2
    ·obtain⟨cu',q3⟩:=GD ezr e;rw[q1]at q3;cases q3;cases q2
    ·rw[e,hg]at q1;cases q1;cases q2
   ·have hwy:=hy0.wk;rw[if_pos hya]at hwy;obtain⟨_,cu,q1⟩:=hwy.bkt hk1;have hne:=(h.ZW u j z y hz hj0 (fun e=>hju e.symm) ha hya).2;rcases hE with (e|e)|(e|e)
    ·obtain⟨_,cu',T,q3,q4⟩:=hwz.blk;rw[<-e,q1]at q3;cases q3;cases q4
    ·exact hne k e hk1
    ·obtain⟨cu',q3⟩:=GD ezr e;rw[q1]at q3;cases q3
    ·rw[e,hg]at q1;cases q1
   ·obtain⟨ey,_,eyr,_⟩:=hy0.log;obtain⟨cu,q1⟩:=GD eyr hk1;rcases hE with (e|e)|(e|e)
    ·obtain⟨_,cu',T,q3,q4⟩:=hwz.blk;rw[<-e,q1]at q3;cases q3;cases q4
    ·obtain⟨_,cu',q3⟩:=hwz.bkt e;rw[q1]at q3;cases q3
    ·exact h.dns u j z y hz hj0 (fun e=>hju e.symm) k e hk1
    ·rw[e,hg]at q1;cases q1
 ·have get:∀{i:Nat} {a:R.Sv×MV},(t.zs.set u (Mq z en K' bk'))[i]?=some a->∃a0,t.zs[i]?=some a0/\(∀k,a.2.dn.ownBlock=some k->a0.2.dn.ownBlock=some k\/(i=u/\w.heap.size<=k))/\(i≠u->a=a0):=fun {i a} ha=>by
   rcases Oh ha with ⟨rfl,rfl⟩|⟨_,q⟩
   ·refine⟨z,hz,fun k hk=>?_,fun q=>absurd rfl q⟩;rcases hdn with q|⟨j',q1,q2,q3⟩
    ·exact Or.inl (by rw[<-q];exact hk)
    ·rw[show (Mq z en K' bk').2.dn=K' from rfl,q1]at hk;cases hk;exact Or.inr ⟨rfl,q2⟩
   ·exact⟨_,q,fun k hk=>Or.inl hk,fun _=>rfl⟩
  intro hk2;obtain⟨a0,p1,p2,p3⟩:=get ha';obtain⟨b0,p4,p5,p6⟩:=get hb';have ra:=(h.each a0 (List.mem_of_getElem? p1)).own;have rb:=(h.each b0 (List.mem_of_getElem? p4)).own;rcases p2 k hk1 with q|⟨rfl,q⟩
  ·rcases p5 k hk2 with q'|⟨rfl,q'⟩
   ·exact h.dns i j a0 b0 p1 p4 hij k q q'
   ·have:=hlt k (ra k q);omega
  ·rcases p5 k hk2 with q'|⟨rfl,q'⟩
   ·have:=hlt k (rb k q');omega
   ·exact hij rfl
 ·have get:∀{i:Nat} {a:R.Sv×MV},(t.zs.set u (Mq z en K' bk'))[i]?=some a->∃a0,t.zs[i]?=some a0/\a0.1.alive=a.1.alive/\a0.2.sb=a.2.sb/\(∀k,a.2.bk.ownBlock=some k->a0.2.bk.ownBlock=some k\/(i=u/\w.heap.size<=k)):=fun {i a} ha=>by
   rcases Oh ha with ⟨rfl,rfl⟩|⟨_,q⟩
   ·refine⟨z,hz,rfl,rfl,fun k hk=>?_⟩;rcases hbk with q|⟨j',q1,q2⟩
    ·exact Or.inl (by rw[<-q];exact hk)
    ·rw[show (Mq z en K' bk').2.bk=bk' from rfl,q1]at hk;cases hk;exact Or.inr ⟨rfl,q2⟩
   ·exact⟨_,q,rfl,rfl,fun k hk=>Or.inl hk⟩
  obtain⟨a0,p1,pa,ps,p2⟩:=get ha';obtain⟨b0,p4,pb,pt,p5⟩:=get hb';rw[<-pa]at ha1;rw[<-pb]at hb1;have hab:=h.ZW i j a0 b0 p1 p4 hij ha1 hb1;refine⟨by rw[<-ps,<-pt];exact hab.1,fun k hk1 hk2=>?_⟩;have ra:=(h.each a0 (List.mem_of_getElem? p1)).wk;have rb:=(h.each b0 (List.mem_of_getElem? p4)).wk;rw[if_pos ha1]at ra;rw[if_pos hb1]at rb;rcases p2 k hk1 with q|⟨rfl,q⟩
  ·rcases p5 k hk2 with q'|⟨rfl,q'⟩
   ·exact hab.2 k q q'
   ·have:=hlt k (ra.bkt q).1;omega
  ·rcases p5 k hk2 with q'|⟨rfl,q'⟩
   ·have:=hlt k (rb.bkt q').1;omega
   ·exact hij rfl
 ·obtain⟨y,h1,h2,h3⟩:=h.ln i r hr hne;exact⟨y,hk.at h1 (hav h1 (by decide)),h2,hF _ h3⟩
 ·obtain⟨a,b,hj⟩:=h.jobs;refine⟨a,b,hk.at hj (fun e=>?_)⟩;obtain⟨cu,T,q,_⟩:=htg _ e;rw[hj]at q;cases q
theorem WO{S:List R.Sv}{u:Nat}{s:R.Sv}(hs:S[u]?=some s)(l:List R.En)(k:Nat):((S.set u {s with log:=l})[k]?).map (·.kind)=(S[k]?).map (·.kind):=by
 rw[List.getElem?_set];by_cases e:u=k
 ·subst e;rw[if_pos rfl,if_pos (List.getElem?_eq_some_iff.1 hs).1,hs];rfl
 ·rw[if_neg e]
theorem UE{G:R.Wd}{u:Nat}{s:R.Sv}(hs:G.Ac[u]?=some s)(l:List R.En)(c:R.Cl)(x:Int):BR (Dq G (G.Ac.set u {s with log:=l}) G.Ai G.seen G.jobs) c x=BR G c x:=by
 unfold BR kindOf;show (if x∈c.bound then some ((((G.Ac.set u {s with log:=l})[(x-1).toNat]?).map (·.kind)).getD 0) else none)=_;rw[WO hs]
theorem aaR{G:R.Wd}(h:R.Wf G){u:Nat}{s:R.Sv}(hs:G.Ac[u]?=some s)(l:List R.En):R.Wf (Dq G (G.Ac.set u {s with log:=l}) G.Ai G.seen G.jobs):=by
 refine⟨h.cf,h.KF,fun i c hc=>⟨(h.cl i c hc).lines,(h.cl i c hc).Ag,fun x hx=>?_,(h.cl i c hc).line⟩,h.Ih,h.Hf,by simpa using h.sv,fun y hy=>?_,h.nm,h.st,h.nd,fun x hx=>?_⟩
 ·have:=(h.cl i c hc).bound x hx;simpa using this
 ·rcases List.mem_or_eq_of_mem_set hy with q|q
  ·exact h.MA y q
  ·rw[q];exact h.MA s (List.mem_of_getElem? hs)
 ·have:=h.Ma x hx;simpa using this
theorem YT(kind:Int)(l:List R.En)(proc:Int)(arg:List R.It):R.Cs kind l proc arg≠[]:=by
 unfold R.Cs;split
 ·simp
 ·split
  ·split<;>simp
  ·simp only;split<;>simp
theorem aaw{kind proc:Int}{f t:ByteArray}{arg:List R.It}{bs:List UInt8}(hs:R.CO kind proc=some (f,t))(hb:R.AV f arg=some bs):arg≠[]:=by
 unfold R.CO at hs;split at hs
 ·cases hs;obtain⟨x,hx,_⟩:=R.Z4 hb;simp[hx]
 ·split at hs
  ·cases hs;obtain⟨x,hx,_⟩:=R.Z2 hb;simp[hx]
  ·split at hs
   ·cases hs;obtain⟨x,hx,_⟩:=R.VO hb;simp[hx]
   ·split at hs
    ·cases hs;obtain⟨x,hx,_⟩:=R.Z3 hb;simp[hx]
    ·split at hs
     ·cases hs;obtain⟨d,k,a,g1,_⟩:=R.VN hb;simp[g1]
     ·cases hs
theorem YS{T:TypeId}(h:K9 T=true):K4 T=false:=by
 simp only[K9,TI,Bool.or_eq_true,beq_iff_eq]at h;rcases h with (((((h|h)|h)|h)|h)|h)<;>rw[h]<;>rfl
theorem LW.acK{p:Pl}{F:Aq}{G:R.Wd}{w1:World}(h:LW p F G w1){n:Nat}{s:R.Sv}(hs:G.Ac[n]?=some s)(ha:s.alive=true){z:R.Sv×MV}(hz:p.t.zs[n]?=some z)(hz1:z.1=s){g cap:Nat}{cur:Array Value}(hK:p.t.K=.slice (some ⟨g,0,none⟩) p.t.zs.length cap)(hg:w1.heap[g]?=some (.cells cur 213 (0,0)))(k2:w1.cell? ⟨g,n*3+2,none⟩=some z.2.dn)(hcap:p.t.zs.length<=cap)(hmax:cap<=maxLen)(hsz:cur.size=cap*3)(htk:cur.toList.take (p.t.zs.length*3)=tab Hq p.t.zs)
  {es:List (R.En×Value×Value)} (he:es.map (·.1)=s.log) (hrow:w1.ownsRow 0 98 7 z.2.dn es.length (tab EJ es)) (hit:∀y∈es,BD w1 F y.2.1 y.1.arg/\BD w1 F y.2.2 y.1.result)
  {B:Nat} (hB:B<=w1.heap.size) {O Z K':Value} {en:R.En} {w2 wa wz:World} {o:Obj} {va0:Nat} (hO:V.Row w1 B O en.arg) (hne:en.arg≠[]) (hner:en.result≠[]) (hD:Did w1 F s.log en z.2.sb z.2.bk s.kind z.2.wk Z en.result w2) (hba:Below w2.heap.size w2 wa) (hgr:(wa.alloc o).grownBy wz z.2.dn.ownBlock) (hown:wz.ownsRow 0 98 7 K' (es.length+1) (tab EJ es++EJ (en,O,Z))) (hat:K'.ownBlock=z.2.dn.ownBlock\/K'.ownBlock=some va0) (hva:w2.heap.size<=va0):
  wz.cell? ⟨g,n*3+2,none⟩=some z.2.dn/\wz.frozen? ⟨g,n*3+2,none⟩=false/\g<wz.heap.size/\∃t,t.ql=p.t.ql/\t.K=p.t.K/\t.zs.length=p.t.zs.length/\LW {p with t:=t} (fun k=>F k\/(B<=k/\k<wz.heap.size)) (Dq G (G.Ac.set n {s with log:=s.log++[en]}) G.Ai G.seen G.jobs) (wz.setCell ⟨g,n*3+2,none⟩ K')/\Af (Ri z g) w1 (wz.setCell ⟨g,n*3+2,none⟩ K')/\V.Items (wz.setCell ⟨g,n*3+2,none⟩ K') Z en.result/\(wz.setCell ⟨g,n*3+2,none⟩ K').cell? ⟨g,n*3,none⟩=some (.int .i64 s.kind):=by
 subst hz1;have htg:=h.Co.Tf hz ha hg;have hlg:=lt_of_block hg;have hsD:=hD.keep.size;have hsB:=hba.size;have hsG:=hgr.size;simp only[World.size_alloc]at hsG;have hs3:(wz.setCell ⟨g,n*3+2,none⟩ K').heap.size=wz.heap.size:=by simp
 obtain⟨hwz0,_,_⟩:=(⟨(h.Co.each z (List.mem_of_getElem? hz)).wk,trivial,trivial⟩:_/\True/\True);rw[if_pos ha]at hwz0;have hgd:¬(g=z.2.sb\/z.2.bk.ownBlock=some g):=by
  rintro (e|e)
  ·obtain⟨_,cu,T,q1,q2⟩:=hwz0.blk;rw[<-e,hg]at q1;cases q1;cases q2
  ·obtain⟨_,cu,q1⟩:=hwz0.bkt e;rw[hg]at q1;cases q1
 have hg2:w2.heap[g]?=some (.cells cur 213 (0,0)):=hD.keep.at hg hgd;have hdn98:∀k,z.2.dn.ownBlock=some k->∃cu,w1.heap[k]?=some (.cells cu 98 (0,0))/\w2.heap[k]?=some (.cells cu 98 (0,0)):=fun k hk=>by
  obtain⟨cu,q⟩:=GD hrow hk;refine⟨cu,q,hD.keep.at q ?_⟩;rintro (e|e)
  ·obtain⟨_,cu',T,q1,q2⟩:=hwz0.blk;rw[<-e,q]at q1;cases q1;cases q2
  ·obtain⟨_,cu',q1⟩:=hwz0.bkt e;rw[q]at q1;cases q1
 have kA:Af (fun k=>z.2.dn.ownBlock=some k) w2 wz:=((Af.Aj hba _).alloc _).grown hgr (fun k hk=>Or.inl hk);have hgz:wz.heap[g]?=some (.cells cur 213 (0,0)):=kA.at hg2 (fun e=>by
  obtain⟨cu,q,_⟩:=hdn98 g e;rw[hg]at q;cases q)
 have kB:Af (fun k=>z.2.dn.ownBlock=some k\/k=g) w2 (wz.setCell ⟨g,n*3+2,none⟩ K'):=Af.setCell (F:=fun k=>z.2.dn.ownBlock=some k\/k=g) (p:=⟨g,n*3+2,none⟩) (kA.mono (fun k _ e=>Or.inl e)) (Or.inl (Or.inr rfl)) K';have k3:Af (Ri z g) w1 (wz.setCell ⟨g,n*3+2,none⟩ K'):=(hD.keep.mono (fun k _ e=>Or.inl e)).trans (kB.mono (fun k _ e=>Or.inr e));have hlt:∀k,F k->k<w1.heap.size:=h.lt;have hF:∀k,F k->(fun k=>F k\/(B<=k/\k<wz.heap.size)) k:=fun k hk=>Or.inl hk
 have hE2:∀{b:Nat} {cu:Array Value} {T:TypeId},w2.heap[b]?=some (.cells cu T (0,0))->T≠98->T≠213->¬(z.2.dn.ownBlock=some b\/b=g):=fun {b cu T} hb h1 h2 hE=>by
  rcases hE with e|e
  ·obtain⟨_,_,q⟩:=hdn98 b e;rw[hb]at q;cases q;exact h1 rfl
  ·rw[e,hg2]at hb;cases hb;exact h2 rfl
 obtain⟨bk',hwk,hbk'⟩:=hD.works;have hw3:Works (wz.setCell ⟨g,n*3+2,none⟩ K') (fun k=>F k\/(B<=k/\k<wz.heap.size)) (z.1.log++[en]) z.2.sb bk' z.1.kind z.2.wk:=by
  refine hwk.Tq kB ?_ (fun j hj=>?_) (fun b cu _ hb=>hE2 hb (by decide) (by decide)) (fun k hk=>?_)
  ·obtain⟨_,cu,T,q1,q2⟩:=hwk.blk;refine hE2 q1 (fun e=>?_) (fun e=>?_)
   ·rw[e]at q2;cases q2
   ·rw[e]at q2;cases q2
  ·obtain⟨_,cu,q1⟩:=hwk.bkt hj;exact hE2 q1 (by decide) (by decide)
  ·rcases hk with hk|hk
   ·exact Or.inl hk
   ·exact Or.inr ⟨by omega,by omega⟩
 obtain⟨o1,o2⟩:=LJ hO hne;obtain⟨r1,r2⟩:=LJ hD.row hner;have hO3:BD (wz.setCell ⟨g,n*3+2,none⟩ K') (fun k=>F k\/(B<=k/\k<wz.heap.size)) O en.arg:=o1.keep k3 (fun b cu _ hb hE=>by
  obtain⟨cu',T,q1,q2⟩:=htg b hE;rw[hb]at q1;cases q1;cases q2) (fun k hk=>by
   have:=o2 k hk;exact Or.inr ⟨by omega,by omega⟩)
 have hV3:BD (wz.setCell ⟨g,n*3+2,none⟩ K') (fun k=>F k\/(B<=k/\k<wz.heap.size)) Z en.result:=r1.keep kB (fun b cu _ hb=>hE2 hb (by decide) (by decide)) (fun k hk=>by
   have:=r2 k hk;exact Or.inr ⟨by omega,by omega⟩)
 have hKg:K'.ownBlock≠some g:=fun e=>by
  rcases hat with q|q
  ·rw[e]at q;obtain⟨cu,q1,_⟩:=hdn98 g q.symm;rw[hg]at q1;cases q1
  ·rw[e]at q;cases q;omega
 have hr3:(wz.setCell ⟨g,n*3+2,none⟩ K').ownsRow 0 98 7 K' (es.length+1) (tab EJ (es++[(en,O,Z)])):=by
  rw[Fa];exact F9 hown (fun j hj=>Below.heap_setCell _ _ _ _ (fun e=>hKg (by rw[hj];exact congrArg some e)))
 have hg3:(wz.setCell ⟨g,n*3+2,none⟩ K').heap[g]?=some (.cells (cur.toList.set (n*3+2) K').toArray 213 (0,0)):=Ak (cs:=cur.toList) (off:=n*3+2) hgz K';have hdn':K'.ownBlock=z.2.dn.ownBlock\/∃j,K'.ownBlock=some j/\w1.heap.size<=j/\(fun k=>F k\/(B<=k/\k<wz.heap.size)) j:=by
  rcases hat with q|q
  ·exact Or.inl q
  ·have:=(World.ownsRow.lt hown va0 q).2;exact Or.inr ⟨va0,q,by omega,Or.inr ⟨by omega,this⟩⟩
 have hsrv:=h.Co.did hlt hz ha hK hg hcap hmax hsz htk k3 hg3 hF hw3 hbk' he hit hr3 hO3 hV3 hdn';have hL:=h.JB hsrv k3 (fun b hE=>by
  obtain⟨cu,T,q1,q2⟩:=htg b hE;exact Or.inl ⟨cu,T,_,q1,YS q2⟩) hF (fun k hk=>by
   rw[hs3];rcases hk with hk|hk
   ·have:=hlt k hk;omega
   ·exact hk.2) (aaR h.wf hs _) h.Eb (fun i c _ x=>UE hs _ c x)
 have e2:wz.cell? ⟨g,n*3+2,none⟩=some z.2.dn:=by
  rw[<-k2];simp[World.cell?,hgz,hg]
 obtain⟨gg,cc,cu,hKK,hgg,_,kk0,_⟩:=h.Co.JR hz;rw[hK]at hKK;cases hKK;refine⟨e2,open_list hgz,lt_of_block hgz,{p.t with zs:=p.t.zs.set n (Mq z en K' bk')},rfl,rfl,by simp,hL,k3,hV3.items,?_⟩;have e3:(wz.setCell ⟨g,n*3+2,none⟩ K').cell? ⟨g,n*3,none⟩=w1.cell? ⟨g,n*3,none⟩:=by
  simp[World.cell?,hg3,hg]
 rw[e3];exact kk0
theorem Wi{kind:Int}{l:List R.En}(hl:R.I9 kind l)(hk:0<=kind/\kind<=2)(proc:Int)(arg:List R.It):(R.Cs kind l proc arg).length<=9000000000000:=by
 have h4:=R.IX l;unfold R.Cs;split
 ·simp
 ·split
  ·split
   ·simp
   ·simp only[List.length_cons,List.length_map,List.length_take];omega
  ·have:kind=2:=by omega
   subst this;have h3:=(R.Gu l hl (R.Iv arg 0) [] (by simp)).1;simp only;split
   ·simp
   ·simp only[List.length_cons];omega
theorem Yq{T T':TypeId}{N N':Nat}{x:Value}(h:(T=328/\N=287)\/(T=331/\N=290)\/(T=334/\N=294))(h':(T'=328/\N'=287)\/(T'=331/\N'=290)\/(T'=334/\N'=294))(e:Value.iface T x=Value.iface T' x):N'=N:=by
 cases e;rcases h with ⟨rfl,rfl⟩|⟨rfl,rfl⟩|⟨rfl,rfl⟩<;>rcases h' with ⟨q,rfl⟩|⟨q,rfl⟩|⟨q,rfl⟩<;>first|rfl|(exact absurd q (by decide))
theorem Did.quiet{w1 w2:World}{F:Aq}{l:List R.En}{en:R.En}{b:Nat}{K W O:Value}{kind:Int}{out:List R.It}(hw:Works w1 F l b K kind W)(hD:Did w1 F l en b K kind W O out w2){k:Nat}{cu:Array Value}{T:TypeId}{zz:Nat×Nat}(hk:w1.heap[k]?=some (.cells cu T zz))(h1:TI T=false)(h2:T≠9):w2.heap[k]?=some (.cells cu T zz):=by
 refine hD.keep.at hk ?_;rintro (e|e)
 ·obtain⟨_,cu',T',q1,q2⟩:=hw.blk;rw[<-e,hk]at q1;cases q1;rw[h1]at q2;cases q2
 ·obtain⟨_,cu',q1⟩:=hw.bkt e;rw[hk]at q1;cases q1;exact h2 rfl
structure VE(p:Pl)(F:Aq)(w:World)(G:R.Wd)(t:SP)(F':Aq)(w':World):Prop where
 lw:LW {p with t:=t} F' G w'
 went:Ay F F' w w'
 ql:t.ql=p.t.ql
theorem LW.done{p:Pl}{F:Aq}{G:R.Wd}{w:World}(h:LW p F G w)(ht:DU w)(hF0:¬F 0){M:R.Bk}(hI:R.Inv M G){i:Nat}(hi:i<9)(h2:(R.Ap G i).state=2):
  Calls Tryz.prog 83 #[ptr p.s,ptr (p.t.ql i)] w fun e w'=>e=.returned (.tuple #[])/\Ib p F w (R.Ha G i) w':=by
 obtain⟨d,n,s,rb,hd⟩:=hI.NK hi h2;rw[hd.eq h2];generalize R.Ap G i=r at hd h2 ⊢;have hI3:=hI.EM hi hd h2;obtain⟨y,hq,hFq⟩:=h.q hd.seen hd.ne;obtain⟨z,hz,hz1⟩:=Mh h.Co.zs hd.sv;subst hz1;obtain⟨g,cap,cur,hK,hg,hFg,k0,k1,k2,hcap,hmax,hsz,htk⟩:=h.Co.JR hz;have hsv:=h.Co.each z (List.mem_of_getElem? hz);obtain⟨es,he,hrow,hit⟩:=hsv.log;have hwk:=hsv.wk;rw[if_pos hd.alive]at hwk;have hel:es.length<=3000000:=by
  have:=hI.Tv hd.sv;rw[<-he,List.length_map]at this;exact this
 obtain⟨da,dc,hdn⟩:=Bg hrow;have hkind:=h.wf.MA z.1 (List.mem_of_getElem? hd.sv);have hla:R.I9 z.1.kind z.1.log:=fun e he=>by
  obtain⟨d',rb',g1,g2,g3,g4,g5,g6⟩:=((hI.lg n z.1 hd.sv).each e he).some;have hcd':=(hI.bk _ d' g1).1;have hk':R.FU G.Ac d'.uid=z.1.kind:=by
   rw[g2];unfold R.FU;rw[show ((n:Int)+1-1).toNat=n by omega,hd.sv];rfl
  have:=hcd'.sig;rw[hk']at this;exact⟨d'.from',d'.to,d'.bs,by rw[g3];exact this,by rw[g4];exact hcd'.bs⟩
 obtain⟨en,hen⟩:∃en,en=R.BF G i r d z.1:=⟨_,rfl⟩;have hep:en.proc=d.proc:=by rw[hen];rfl
 have hea:en.arg=d.arg:=by rw[hen];rfl
 have her:en.result=R.Cs z.1.kind z.1.log d.proc d.arg:=by rw[hen];rfl
 have hne:en.arg≠[]:=by rw[hea];exact aaw hd.sig hd.cd.bs
 have hner:en.result≠[]:=by rw[her];exact YT _ _ _ _
 have hY:=TK hq.blk;obtain⟨T,N,hT,hTN⟩:∃T N,z.2.wk=.iface T (ptr z.2.sb)/\((T=328/\N=287)\/(T=331/\N=290)\/(T=334/\N=294)):=by
  obtain⟨i0,i1,i2⟩:=hwk.NR;have:z.1.kind=0\/z.1.kind=1\/z.1.kind=2:=by omega
  rcases this with e|e|e
  ·exact⟨328,287,i0 e,Or.inl ⟨rfl,rfl⟩⟩
  ·exact⟨331,290,i1 e,Or.inr (Or.inl ⟨rfl,rfl⟩)⟩
  ·exact⟨334,294,i2 e,Or.inr (Or.inr ⟨rfl,rfl⟩)⟩
 have hul:n<p.t.zs.length:=(List.getElem?_eq_some_iff.1 hz).1;have hzl:p.t.zs.length=G.Ac.length:=by rw[<-h.Co.zs,List.length_map]
 have h255:=h.wf.sv;have h6:w.cell? ⟨p.s,6,none⟩=some (.slice (some ⟨g,0,none⟩) p.t.zs.length cap):=by
  have:=cell_of h.Co.bs 6 p.t.K rfl;rw[hK]at this;exact this
 have q4:w.cell? ⟨p.t.ql i,4,none⟩=some (.int .i64 ((n:Int)+1)):=by
  rw[hY.a4,hq.rel.uid,hd.ok.uid,hd.uid]
 have q6:w.cell? ⟨p.t.ql i,6,none⟩=some (.string (str d.msg)):=by
  rw[hY.a6,hq.rel.asked (Or.inr h2),hd.ok.wait h2]
 have hE:∀k,Ri z g k->F k:=fun k hk=>by
  rcases hk with (rfl|hk)|(hk|rfl)
  ·exact hwk.blk.1
  ·exact(hwk.bkt hk).1
  ·exact hsv.own k hk
  ·exact hFg
 let G1:=Dq G (G.Ac.set n {z.1 with log:=z.1.log++[en]}) G.Ai G.seen G.jobs
 let r':R.Sn:={r with state:=3,result:=rb,at':=0}
 have hG3:R.EM G i r d n z.1 rb=R.Av G1 i r':=by
  show R.EM G i r d n z.1 rb=R.Av (Dq G (G.Ac.set n {z.1 with log:=z.1.log++[en]}) G.Ai G.seen G.jobs) i r';rw[hen];rfl
 rw[hG3]at hI3 ⊢;refine aaA w T N hTN p.s (p.t.ql i) g n p.t.zs.length cap z.2.sb d.proc en.client en.Ag en.line en.seq z.1.kind d.msg rb da es.length dc (tab EJ es)
  (fun O w1=>V.Row w1 w.heap.size O en.arg/\Below w.heap.size w w1)
  (fun O Z w2=>∃w1,V.Row w1 w.heap.size O en.arg/\Below w.heap.size w w1/\Did w1 F z.1.log en z.2.sb z.2.bk z.1.kind z.2.wk Z en.result w2)
  (fun Z w3=>∃t F',VE p F w G1 t F' w3/\V.Items w3 Z en.result/\w3.cell? ⟨g,n*3,none⟩=some (.int .i64 z.1.kind))
  (fun w4=>∃t F',VE p F w G1 t F' w4)
  (fun w5=>∃t F' y5,VE p F w (R.Av G1 i r') t F' w5/\QF {p with t:=t} (R.Av G1 i r') w5 i r' y5)
  (fun w6=>Ib p F w (R.DR (R.Av G1 i r') i) w6) h6 hul (by omega) k0 q4 q6 ?_ ?_ ?_ ?_ ?_ ?_ ?_
 ·intro wa hb;refine(Mt z.1.kind d.proc d.from' d.to hd.sig d.bs (by have:=R.Gk hd.cd.bs;omega) d.arg (R.Fi hd.cd.bs) wa (ht.below hb)).mono ?_;rintro e w' ⟨⟨O,rfl,hO⟩,hb'⟩;obtain⟨oa,on,oc,rfl⟩:=Ar hO;rw[hea];exact⟨oa,on,oc,rfl,V.EF hO hb.size,hb.trans ⟨hb'.os,hb'.tape,hb'.output,hb'.size,fun k hk=>hb'.block k (Nat.lt_of_lt_of_le hk hb.size)⟩⟩
 ·rintro O w1 ⟨hO,hb1⟩;have h1:=h.below hb1;have hw1:=(h1.Co.each z (List.mem_of_getElem? hz)).wk;rw[if_pos hd.alive]at hw1;refine⟨((hb1.cell (p:=⟨g,n*3+1,none⟩) (lt_of_block hg)).trans k1).trans (by rw[hT]),?_⟩;obtain⟨T',N',e1,e2,hC⟩:=Yv (en:=en) hw1 h1.lt (X:=O) (LJ hO hne).1.items (f:=d.from') (t:=d.to) (bs:=d.bs) (by rw[hep];exact hd.sig) (by rw[hea];exact hd.cd.bs) hla;rw[hT]at e1;obtain rfl:=Yq hTN e2 e1;rw[hep]at hC;refine hC.mono ?_;rintro e w2 ⟨Z,rfl,hD⟩;obtain⟨ra,rn,rc,rfl⟩:=Ar hD.row;refine⟨ra,rn,rc,rfl,w1,hO,hb1,?_⟩;rw[her];rw[hea]at hD;exact hD
 ·rintro O Z w2 ⟨w1,hO,hb1,hD⟩;have h1:=h.below hb1;have hw1:=(h1.Co.each z (List.mem_of_getElem? hz)).wk;rw[if_pos hd.alive]at hw1;have hg1:w1.heap[g]?=some (.cells cur 213 (0,0)):=(hb1.block g (lt_of_block hg)).trans hg;have hg2:=hD.quiet hw1 hg1 rfl (by decide);have hq2:=TK (hD.quiet hw1 ((hb1.block _ (lt_of_block hq.blk)).trans hq.blk) rfl (by decide));have hr1:=Bu hrow hb1;have hr2:w2.ownsRow 0 98 7 z.2.dn es.length (tab EJ es):=F9 hr1 (fun j hj=>by
   obtain⟨cu,q⟩:=GD hr1 hj;rw[hD.quiet hw1 q rfl (by decide),q])
  have e2:w2.cell? ⟨g,n*3+2,none⟩=some z.2.dn:=by
   rw[<-k2];simp[World.cell?,hg2,hg]
  rw[hdn]at e2 hr2;have c0:y.client=en.client:=by rw[hq.rel.client,hen];rfl
  have c1:y.Ag=en.Ag:=by rw[hq.rel.Ag,hen];rfl
  have c2:y.line=en.line:=by rw[hq.rel.line,hen];rfl
  have c3:y.seq=en.seq:=by rw[hq.rel.seq,hen];rfl
  have c4:y.uid=(n:Int)+1:=by rw[hq.rel.uid,hd.ok.uid,hd.uid]
  have a0:=hq2.a0;have a1:=hq2.a1;have a2:=hq2.a2;have a3:=hq2.a3;have a4:=hq2.a4;rw[c0]at a0;rw[c1]at a1;rw[c2]at a2;rw[c3]at a3;rw[c4]at a4;exact⟨e2,hr2,by omega,a0,a1,a2,a3,a4,open_list hg2⟩
 ·rintro O Z w1' w2 wa wz K' va0 _ ⟨w1,hO,hb1,hD⟩ hba hgr hown hat hva;have h1:=h.below hb1;have hg1:w1.heap[g]?=some (.cells cur 213 (0,0)):=(hb1.block g (lt_of_block hg)).trans hg;have hsv1:=h1.Co.each z (List.mem_of_getElem? hz);have hit1:∀y∈es,BD w1 F y.2.1 y.1.arg/\BD w1 F y.2.2 y.1.result:=fun y hy=>⟨(hit y hy).1.keep (Af.Aj hb1 (fun _=>False)) (fun _ _ _ _ q=>q) (fun _ q=>q),(hit y hy).2.keep (Af.Aj hb1 (fun _=>False)) (fun _ _ _ _ q=>q) (fun _ q=>q)⟩
  rw[<-hdn]at hgr hat;have hcells:EJ (en,O,Z)=[.int .i64 en.client,.int .i64 en.Ag,.int .i64 en.line,.int .i64 en.seq,.int .i64 d.proc,O,Z]:=by rw[<-hep];rfl
  rw[<-hcells]at hown;obtain⟨p1,p2,p3,t,ql,_,_,hL,hk3,hIt,hkd⟩:=h1.acK hd.sv hd.alive hz rfl hK hg1 ((hb1.cell (p:=⟨g,n*3+2,none⟩) (lt_of_block hg)).trans k2) hcap hmax hsz htk he (Bu hrow hb1) hit1 hb1.size hO hne hner hD hba hgr hown hat hva;rw[hdn]at p1;refine⟨p1,p2,p3,t,_,⟨hL,⟨(Af.Aj hb1 F).trans (hk3.mono (fun k _ e=>hE k e)),fun k hk=>?_⟩,ql⟩,hIt,hkd⟩;rcases hk with hk|hk
  ·exact Or.inl hk
  ·exact Or.inr hk.1
 ·rintro Z w3 ⟨t,F',hB,hIt,hkd⟩;refine⟨hkd,(J5 z.1.kind d.proc d.from' d.to hd.sig Z en.result w3 (ht.keeps hB.went.keeps hF0) hIt (by rw[her];exact Wi hla hkind _ _)).mono ?_⟩;rintro e w4 ⟨hw,hb⟩;have hby:=hd.byt;rw[<-her]at hby;have h0:=R.Bv hby;rcases hw with ⟨_,rfl⟩|⟨q,_⟩
  ·unfold R.AV at hby;rw[if_pos h0]at hby;cases hby;exact⟨rfl,t,F',hB.lw.below hb,hB.went.trans (Ay.Aj F' hb),hB.ql⟩
  ·exact absurd h0 q
 ·rintro w4 ⟨t,F',hB⟩;obtain⟨y4,hq4,hF4⟩:=hB.lw.q (i:=i) (r:=r) hd.seen hd.ne;have hb4:w4.heap[p.t.ql i]?=some (.cells y4.cells.toArray 147 (0,0)):=by
   have:=hq4.blk;rw[show ({p with t:=t}:Pl).t.ql=p.t.ql from hB.ql]at this;exact this
  refine(Rl w4 (p.t.ql i) y4 rb hb4).mono ?_;rintro e w5 ⟨rfl,hb5,hk5⟩;have htm:r.timed=false:=by
   cases hr:r.timed with
   |false=>rfl
   |true=>
    have:=(h.Eb.sn i r hd.seen).timed hr;omega
  have hrl:=hq4.rel;have hrel:J7 i (G1.Ai.getD (i / 3) 0) r' (YE y4 rb):=⟨hrl.client,hrl.Ag,hrl.line,hrl.seq,hrl.uid,rfl,fun q=>(by rcases q with q|q<;>cases q),fun _=>⟨rfl,rfl⟩,(by show (0:Int)=if r.timed=true then r.wait else 0;rw[htm];rfl),fun q=>(by rw[show r'.timed=r.timed from rfl,htm]at q;cases q)⟩;have hok:R.Oy (G1.Ai.getD (i / 3) 0) r':=hI3.ws.sn i r' (by
   show (G.seen.set i r')[i]?=some r';rw[List.getElem?_set];simp[(List.getElem?_eq_some_iff.1 hd.seen).1])
  obtain⟨l5,q5,w5'⟩:=hB.lw.LF hq4 (r':=r') (y':=YE y4 rb) hd.ne (by rw[show ({p with t:=t}:Pl).t.ql=p.t.ql from hB.ql];exact hk5) (by rw[show ({p with t:=t}:Pl).t.ql=p.t.ql from hB.ql];exact hb5) hrel hok;exact⟨rfl,t,F',_,⟨l5,hB.went.trans w5',hB.ql⟩,q5⟩
 ·rintro w5 ⟨t,F',y5,hB,hq5⟩;have:=hB.lw.tell hq5 rfl;rw[show ({p with t:=t}:Pl).t.ql=p.t.ql from hB.ql]at this;refine this.mono ?_;rintro e w6 ⟨rfl,F'',hL,hW⟩;exact⟨rfl,t,F'',hL,hB.went.trans hW⟩
end Go.Proofs.YtblomippkddgiaaGreatDoor
